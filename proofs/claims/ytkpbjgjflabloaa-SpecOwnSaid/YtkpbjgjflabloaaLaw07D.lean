/-
  SpecGrows, where package spec answers as it is to and the law is awake.
-/
import Derived.Test.YtkpbjgjflabloaaLaw07C
namespace Go.Proofs.Ytkpbjgjflabloaa
open Go.RowKit
set_option linter.unusedSimpArgs false
set_option linter.unusedVariables false

theorem grow_at (j : Int) (hj : j = 1 ∨ j = 2) (l : List (List UInt8)) : (∃ x e, atX j l = (x, e) ∧ (e = 22 ∨ e = 28)) ∨ (∃ x, atX j l = (x, 0) ∧ (∀ m n, l = m ++ [n] → x.1.name = n) ∧
    ((j = 2 ∧ x.1.name = nLimit ∧ ∃ u, atX 3 l = (u, 22)) ∨ ((j = 1 ∨ x.1.name ≠ nLimit) ∧ ∃ u, atX (j + 1) l = (u, 0) ∧ sameD x.1 u.1 = true ∧ x.2.len ≤ u.2.len))) := by
  rcases at_cases j l with ⟨e, h, he⟩ | ⟨x, h, h1, h2, hd, _⟩
  · exact .inl ⟨_, e, h, he⟩
  refine .inr ⟨x, h, fun m n e => by subst e; exact (down_last hd).1, ?_⟩
  rcases hj with rfl | rfl
  · rcases grows_down (two := false) (l := l) (x := (rootD, rootF 1)) (y := (rootD, rootF 2)) rfl (by decide) grow12.2 grow12.1 (.inl rfl) hd with ⟨c, _⟩ | ⟨_, u, hu, hs, hk⟩
    · cases c
    · refine .inr ⟨.inl rfl, u, ?_, hs, hk⟩
      unfold atX
      rw [if_neg (by omega), show ((1 : Int) + 1).toNat = 2 from rfl, hu]
  · rcases grows_down (two := true) (l := l) (x := (rootD, rootF 2)) (y := (rootD, rootF 3)) rfl (by decide) grow23.2 grow23.1 (.inr (by decide)) hd with ⟨_, hn, hu⟩ | ⟨hn, u, hu, hs, hk⟩
    · refine .inl ⟨rfl, hn, (zeroD, .nil), ?_⟩
      unfold atX
      rw [if_neg (by omega), show (3 : Int).toNat = 3 from rfl, hu]
    · refine .inr ⟨.inr (by rcases hn with hn | hn; cases hn; exact hn), u, ?_, hs, hk⟩
      unfold atX
      rw [if_neg (by omega), show ((2 : Int) + 1).toNat = 3 from rfl, hu]
theorem same_cases {a : SpD} {u : Sp} (h : sameD a u.1 = true) : ∃ ns g, u = (⟨a.name, a.kind, a.typ, a.low, a.high, ns, a.must, a.most⟩, g) := by
  obtain ⟨⟨nm, kd, ty, lo, hi, ns, mu, mo⟩, g⟩ := u
  unfold sameD at h
  simp only [Bool.and_eq_true, decide_eq_true_eq] at h
  obtain ⟨⟨⟨⟨⟨⟨h1, h2⟩, h3⟩, h4⟩, h5⟩, h6⟩, h7⟩ := h
  exact ⟨ns, g, by rw [h1, h2, h3, h4, h5, h6, h7]⟩
theorem LieP.flat {nm : List UInt8} {kd ty lo hi : Nat} {ns : List (List UInt8)} {mu : Bool} {mo : Nat} {f : SpF} {e : Nat} (E : Int) (hE : (e : Int) = E) {w : World} {r : Ending} {w' : World} (h : LieP ((⟨nm, kd, ty, lo, hi, ns, mu, mo⟩, f), e) w r w') :
    ∃ B N m A K c, r = .returned (.tuple #[.agg #[.string (txt nm), .int .i64 (kd : Int), .int .i64 (ty : Int), .int .u64 (lo : Int), .int .u64 (hi : Int), .slice B N m, .bool mu, .int .i64 (mo : Int), .slice A K c], .int .i64 E]) ∧ K = f.len ∧ Below w.heap.size w w' := by
  obtain ⟨cs, rfl, hl, hb⟩ := h
  obtain ⟨B, m, A, c, rfl⟩ := hl.shape
  subst hE
  exact ⟨B, _, m, A, _, c, rfl, rfl, hb⟩
set_option maxRecDepth 100000 in
set_option maxHeartbeats 4000000 in
theorem specGrows_long (l : List (List UInt8)) (An : Option Addr) (cn L d : Nat) (w : World) (hn : Vals w d (.slice An l.length cn) (txts l)) (hL : L = l.length) (hc : 20 < L) (C : SpcC w) (HA : Awake7 w) :
    Calls Try.prog 5 #[.slice An L cn] w fun e w' => e = .returned (.bool true) ∧ Below w.heap.size w w' := by
  have HAW := Lib.hid (HA w (Below.refl _ _))
  have i0 : (20 : Int) < (L : Int) := by omega
  clear C HA hc hn hL
  go_enter Try.func5, Try.ntmps5
  go_wp2_with fail
  refine HAW.out.mono ?_
  rintro r w1 ⟨rfl, hB1⟩
  have HB := Lib.hid hB1
  clear hB1
  go_wp2
  go_ret
  exact ⟨rfl, HB.out⟩
set_option maxRecDepth 100000 in
set_option maxHeartbeats 4000000 in
theorem specGrows_nil (l : List (List UInt8)) (An : Option Addr) (cn L d : Nat) (w : World) (hn : Vals w d (.slice An l.length cn) (txts l)) (hL : L = l.length) (hc : L = 0) (C : SpcC w) (HA : Awake7 w) :
    Calls Try.prog 5 #[.slice An L cn] w fun e w' => e = .returned (.bool true) ∧ Below w.heap.size w w' := by
  have HAW := Lib.hid (HA w (Below.refl _ _))
  have M := Lib.hid (fun (k : Int) (W : World) (h0 : -9223372036854775808 ≤ k) (h1 : k ≤ 9223372036854775807) (h : Below w.heap.size w W) => show Calls Try.prog 10 #[.int .i64 k, .slice An L cn] W (LieP (atX k l) W) from by
    rw [hL]
    exact (C.at_ k l d _ W h0 h1 (by omega) (hn.kept_ h) h).mono fun _ _ h => h.lie)
  subst hc
  clear hL hn C HA
  go_enter Try.func5, Try.ntmps5
  go_wp2_with fail
  refine HAW.out.mono ?_
  rintro r w1 ⟨rfl, hB1⟩
  have H1 := Lib.hid hB1
  clear hB1
  go_wp2
  go_loopw [4, 5, 6, 7, 8] (fun i v5 v6 v7 v8 wr => ∃ (j : Int), 1 ≤ j ∧ j ≤ 3 ∧ i = .int .i64 j ∧ Below w.heap.size w wr) (fun i _ _ _ _ _ => (3 - intOf i).toNat)
  case atStart => exact ⟨1, by omega, by omega, rfl, H1.out⟩
  case round =>
    obtain ⟨j, hj0, hj1, rfl, hB⟩ := hrel
    have HB := Lib.hid hB
    by_cases hlt : j < 3
    · have hj : j = 1 ∨ j = 2 := by omega
      have P1 := M.out j wr (by omega) (by omega) hB
      rcases grow_at j hj l with ⟨⟨⟨nm, kd, ty, lo, hi, ns, mu, mo⟩, f⟩, e, hx, he⟩ | ⟨⟨⟨nm, kd, ty, lo, hi, ns, mu, mo⟩, f⟩, hx, hlast, hy⟩
      · rw [hx] at P1
        have HP := Lib.hid P1
        clear P1 hx hB
        rcases he with rfl | rfl
        all_goals
          go_wp2_with fail
          refine HP.out.mono ?_
          intro r w2 hr
          obtain ⟨B, N, m, A, K, c, rfl, -, hb⟩ := hr.flat _ rfl
          have H2 := Lib.hid (HB.out.trans (hb.mono HB.out.size))
          clear hb hr hj
          go_wp2
          go_roundw
          case rel => exact ⟨j + 1, by omega, by omega, by go_num, H2.out.alloc H2.out.size _⟩
          case measure => simp [intOf]; omega
      rw [hx] at P1
      have HP := Lib.hid P1
      clear P1 hx hB
      have ta : (txt nm).toList = nm := txt_toList _
      clear hlast
      rcases hy with ⟨rfl, hnm, ⟨u, hu⟩⟩ | ⟨hor, u, hu, hsm, hkl⟩
      · have HN2 : Hid (nm = [108, 105, 109, 105, 116]) := Lib.hid hnm
        have HU := Lib.hid hu
        have g1 : (nm == [108, 105, 109, 105, 116]) = true := beq_iff_eq.2 hnm
        clear hnm hu hlt hj hj0 hj1
        go_wp2_with fail
        refine HP.out.mono ?_
        intro r w2 hr
        obtain ⟨B1, N1, m1, A1, K1, c1, rfl, e1, hb⟩ := hr.flat 0 rfl
        have H2 : Hid (Below w.heap.size w (w2.alloc (.cells #[.string (txt nm), .int .i64 (kd : Int), .int .i64 (ty : Int), .int .u64 (lo : Int), .int .u64 (hi : Int), .slice B1 N1 m1, .bool mu, .int .i64 (mo : Int), .slice A1 K1 c1] 27))) := Lib.hid ((HB.out.trans (hb.mono HB.out.size)).alloc (HB.out.trans (hb.mono HB.out.size)).size _)
        have X2 : Hid (Blk (w2.alloc (.cells #[.string (txt nm), .int .i64 (kd : Int), .int .i64 (ty : Int), .int .u64 (lo : Int), .int .u64 (hi : Int), .slice B1 N1 m1, .bool mu, .int .i64 (mo : Int), .slice A1 K1 c1] 27)) w2.heap.size 27 #[.string (txt nm), .int .i64 (kd : Int), .int .i64 (ty : Int), .int .u64 (lo : Int), .int .u64 (hi : Int), .slice B1 N1 m1, .bool mu, .int .i64 (mo : Int), .slice A1 K1 c1]) := Lib.hid (Blk.new _ _ _)
        have E1 := Lib.hid e1
        clear hb hr e1
        have PU := M.out 3 _ (by omega) (by omega) H2.out
        rw [HU.out] at PU
        obtain ⟨⟨na, kd', ty', lo', hi', ns', mu', mo'⟩, f'⟩ := u
        have HP2 := Lib.hid PU
        clear PU
        go_wp2_with fail
        refine HP2.out.mono ?_
        intro r w3 hr
        obtain ⟨B2, N2, m2, A2, K2, c2, rfl, -, hb⟩ := hr.flat 22 rfl
        have H3 := Lib.hid (H2.out.trans (hb.mono H2.out.size))
        have H4 := Lib.hid (H3.out.alloc H3.out.size (.cells #[.string (txt na), .int .i64 (kd' : Int), .int .i64 (ty' : Int), .int .u64 (lo' : Int), .int .u64 (hi' : Int), .slice B2 N2 m2, .bool mu', .int .i64 (mo' : Int), .slice A2 K2 c2] 27))
        have X4 := Lib.hid ((X2.out.below hb X2.out.lt).alloc (.cells #[.string (txt na), .int .i64 (kd' : Int), .int .i64 (ty' : Int), .int .u64 (lo' : Int), .int .u64 (hi' : Int), .slice B2 N2 m2, .bool mu', .int .i64 (mo' : Int), .slice A2 K2 c2] 27))
        have q0 := (X4.out.cell 0).trans rfl
        clear hb hr
        go_wp2
        go_ret
        exact ⟨rfl, H4.out⟩
      · obtain ⟨ns', f', hue⟩ := same_cases hsm
        simp only at hue hkl
        have HU : Hid (atX (j + 1) l = ((⟨nm, kd, ty, lo, hi, ns', mu, mo⟩, f'), 0)) := Lib.hid (by rw [hu, hue])
        have HKL : Hid (f.len ≤ f'.len) := Lib.hid (by rw [hue] at hkl; exact hkl)
        have hw : j = 1 ∧ nm = nLimit ∨ j = 1 ∧ nm ≠ nLimit ∨ j = 2 ∧ nm ≠ nLimit := by
          by_cases c : nm = nLimit
          · rcases hor with h | h
            · exact .inl ⟨h, c⟩
            · exact absurd c h
          · rcases hj with h | h
            · exact .inr (.inl ⟨h, c⟩)
            · exact .inr (.inr ⟨h, c⟩)
        clear hu hue hsm hkl hor hlt hj hj0 hj1
        rcases hw with ⟨rfl, hnm⟩ | ⟨rfl, hnm⟩ | ⟨rfl, hnm⟩
        · have g1 : (nm == [108, 105, 109, 105, 116]) = true := beq_iff_eq.2 hnm
          clear hnm
          go_wp2_with fail
          refine HP.out.mono ?_
          intro r w2 hr
          obtain ⟨B1, N1, m1, A1, K1, c1, rfl, e1, hb⟩ := hr.flat 0 rfl
          have H2 : Hid (Below w.heap.size w (w2.alloc (.cells #[.string (txt nm), .int .i64 (kd : Int), .int .i64 (ty : Int), .int .u64 (lo : Int), .int .u64 (hi : Int), .slice B1 N1 m1, .bool mu, .int .i64 (mo : Int), .slice A1 K1 c1] 27))) := Lib.hid ((HB.out.trans (hb.mono HB.out.size)).alloc (HB.out.trans (hb.mono HB.out.size)).size _)
          have X2 : Hid (Blk (w2.alloc (.cells #[.string (txt nm), .int .i64 (kd : Int), .int .i64 (ty : Int), .int .u64 (lo : Int), .int .u64 (hi : Int), .slice B1 N1 m1, .bool mu, .int .i64 (mo : Int), .slice A1 K1 c1] 27)) w2.heap.size 27 #[.string (txt nm), .int .i64 (kd : Int), .int .i64 (ty : Int), .int .u64 (lo : Int), .int .u64 (hi : Int), .slice B1 N1 m1, .bool mu, .int .i64 (mo : Int), .slice A1 K1 c1]) := Lib.hid (Blk.new _ _ _)
          have E1 := Lib.hid e1
          clear hb hr e1
          have PU := M.out 2 _ (by omega) (by omega) H2.out
          rw [show atX 2 l = _ from HU.out] at PU
          have HP2 := Lib.hid PU
          clear PU
          go_wp2_with fail
          refine HP2.out.mono ?_
          intro r w3 hr
          obtain ⟨B2, N2, m2, A2, K2, c2, rfl, e2, hb⟩ := hr.flat 0 rfl
          have H3 := Lib.hid (H2.out.trans (hb.mono H2.out.size))
          have H4 : Hid (Below w.heap.size w (w3.alloc (.cells #[.string (txt nm), .int .i64 (kd : Int), .int .i64 (ty : Int), .int .u64 (lo : Int), .int .u64 (hi : Int), .slice B2 N2 m2, .bool mu, .int .i64 (mo : Int), .slice A2 K2 c2] 27))) := Lib.hid (H3.out.alloc H3.out.size _)
          have X4 : Hid (Blk (w3.alloc (.cells #[.string (txt nm), .int .i64 (kd : Int), .int .i64 (ty : Int), .int .u64 (lo : Int), .int .u64 (hi : Int), .slice B2 N2 m2, .bool mu, .int .i64 (mo : Int), .slice A2 K2 c2] 27)) w2.heap.size 27 #[.string (txt nm), .int .i64 (kd : Int), .int .i64 (ty : Int), .int .u64 (lo : Int), .int .u64 (hi : Int), .slice B1 N1 m1, .bool mu, .int .i64 (mo : Int), .slice A1 K1 c1]) := Lib.hid ((X2.out.below hb X2.out.lt).alloc _)
          have Y4 : Hid (Blk (w3.alloc (.cells #[.string (txt nm), .int .i64 (kd : Int), .int .i64 (ty : Int), .int .u64 (lo : Int), .int .u64 (hi : Int), .slice B2 N2 m2, .bool mu, .int .i64 (mo : Int), .slice A2 K2 c2] 27)) w3.heap.size 27 #[.string (txt nm), .int .i64 (kd : Int), .int .i64 (ty : Int), .int .u64 (lo : Int), .int .u64 (hi : Int), .slice B2 N2 m2, .bool mu, .int .i64 (mo : Int), .slice A2 K2 c2]) := Lib.hid (Blk.new _ _ _)
          have k1 : ¬ (K1 : Int) > (K2 : Int) := by rw [E1.out, e2]; have := HKL.out; omega
          have k2 : ¬ (K2 : Int) < (K1 : Int) := k1
          have q0 := (X4.out.cell 0).trans rfl
          have p0 := (Y4.out.cell 0).trans rfl
          have q1 := (X4.out.cell 1).trans rfl
          have p1 := (Y4.out.cell 1).trans rfl
          have q2 := (X4.out.cell 2).trans rfl
          have p2 := (Y4.out.cell 2).trans rfl
          have q3 := (X4.out.cell 3).trans rfl
          have p3 := (Y4.out.cell 3).trans rfl
          have q4 := (X4.out.cell 4).trans rfl
          have p4 := (Y4.out.cell 4).trans rfl
          have q5 := (X4.out.cell 5).trans rfl
          have p5 := (Y4.out.cell 5).trans rfl
          have q6 := (X4.out.cell 6).trans rfl
          have p6 := (Y4.out.cell 6).trans rfl
          have q7 := (X4.out.cell 7).trans rfl
          have p7 := (Y4.out.cell 7).trans rfl
          have q8 := (X4.out.cell 8).trans rfl
          have p8 := (Y4.out.cell 8).trans rfl
          clear hb hr e2
          go_wp2_with fail
          go_region
          all_goals go_wp2
          all_goals go_roundw
          all_goals first | exact ⟨2, by omega, by omega, rfl, H4.out.drew⟩ | (simp [intOf]) | (simp [intOf]; omega)
        · have g1 : (nm == [108, 105, 109, 105, 116]) = false := beq_eq_false_iff_ne.2 hnm
          clear hnm
          go_wp2_with fail
          refine HP.out.mono ?_
          intro r w2 hr
          obtain ⟨B1, N1, m1, A1, K1, c1, rfl, e1, hb⟩ := hr.flat 0 rfl
          have H2 : Hid (Below w.heap.size w (w2.alloc (.cells #[.string (txt nm), .int .i64 (kd : Int), .int .i64 (ty : Int), .int .u64 (lo : Int), .int .u64 (hi : Int), .slice B1 N1 m1, .bool mu, .int .i64 (mo : Int), .slice A1 K1 c1] 27))) := Lib.hid ((HB.out.trans (hb.mono HB.out.size)).alloc (HB.out.trans (hb.mono HB.out.size)).size _)
          have X2 : Hid (Blk (w2.alloc (.cells #[.string (txt nm), .int .i64 (kd : Int), .int .i64 (ty : Int), .int .u64 (lo : Int), .int .u64 (hi : Int), .slice B1 N1 m1, .bool mu, .int .i64 (mo : Int), .slice A1 K1 c1] 27)) w2.heap.size 27 #[.string (txt nm), .int .i64 (kd : Int), .int .i64 (ty : Int), .int .u64 (lo : Int), .int .u64 (hi : Int), .slice B1 N1 m1, .bool mu, .int .i64 (mo : Int), .slice A1 K1 c1]) := Lib.hid (Blk.new _ _ _)
          have E1 := Lib.hid e1
          clear hb hr e1
          have PU := M.out 2 _ (by omega) (by omega) H2.out
          rw [show atX 2 l = _ from HU.out] at PU
          have HP2 := Lib.hid PU
          clear PU
          go_wp2_with fail
          refine HP2.out.mono ?_
          intro r w3 hr
          obtain ⟨B2, N2, m2, A2, K2, c2, rfl, e2, hb⟩ := hr.flat 0 rfl
          have H3 := Lib.hid (H2.out.trans (hb.mono H2.out.size))
          have H4 : Hid (Below w.heap.size w (w3.alloc (.cells #[.string (txt nm), .int .i64 (kd : Int), .int .i64 (ty : Int), .int .u64 (lo : Int), .int .u64 (hi : Int), .slice B2 N2 m2, .bool mu, .int .i64 (mo : Int), .slice A2 K2 c2] 27))) := Lib.hid (H3.out.alloc H3.out.size _)
          have X4 : Hid (Blk (w3.alloc (.cells #[.string (txt nm), .int .i64 (kd : Int), .int .i64 (ty : Int), .int .u64 (lo : Int), .int .u64 (hi : Int), .slice B2 N2 m2, .bool mu, .int .i64 (mo : Int), .slice A2 K2 c2] 27)) w2.heap.size 27 #[.string (txt nm), .int .i64 (kd : Int), .int .i64 (ty : Int), .int .u64 (lo : Int), .int .u64 (hi : Int), .slice B1 N1 m1, .bool mu, .int .i64 (mo : Int), .slice A1 K1 c1]) := Lib.hid ((X2.out.below hb X2.out.lt).alloc _)
          have Y4 : Hid (Blk (w3.alloc (.cells #[.string (txt nm), .int .i64 (kd : Int), .int .i64 (ty : Int), .int .u64 (lo : Int), .int .u64 (hi : Int), .slice B2 N2 m2, .bool mu, .int .i64 (mo : Int), .slice A2 K2 c2] 27)) w3.heap.size 27 #[.string (txt nm), .int .i64 (kd : Int), .int .i64 (ty : Int), .int .u64 (lo : Int), .int .u64 (hi : Int), .slice B2 N2 m2, .bool mu, .int .i64 (mo : Int), .slice A2 K2 c2]) := Lib.hid (Blk.new _ _ _)
          have k1 : ¬ (K1 : Int) > (K2 : Int) := by rw [E1.out, e2]; have := HKL.out; omega
          have k2 : ¬ (K2 : Int) < (K1 : Int) := k1
          have q0 := (X4.out.cell 0).trans rfl
          have p0 := (Y4.out.cell 0).trans rfl
          have q1 := (X4.out.cell 1).trans rfl
          have p1 := (Y4.out.cell 1).trans rfl
          have q2 := (X4.out.cell 2).trans rfl
          have p2 := (Y4.out.cell 2).trans rfl
          have q3 := (X4.out.cell 3).trans rfl
          have p3 := (Y4.out.cell 3).trans rfl
          have q4 := (X4.out.cell 4).trans rfl
          have p4 := (Y4.out.cell 4).trans rfl
          have q5 := (X4.out.cell 5).trans rfl
          have p5 := (Y4.out.cell 5).trans rfl
          have q6 := (X4.out.cell 6).trans rfl
          have p6 := (Y4.out.cell 6).trans rfl
          have q7 := (X4.out.cell 7).trans rfl
          have p7 := (Y4.out.cell 7).trans rfl
          have q8 := (X4.out.cell 8).trans rfl
          have p8 := (Y4.out.cell 8).trans rfl
          clear hb hr e2
          go_wp2_with fail
          go_region
          all_goals go_wp2
          all_goals go_roundw
          all_goals first | exact ⟨2, by omega, by omega, rfl, H4.out.drew⟩ | (simp [intOf]) | (simp [intOf]; omega)
        · have g1 : (nm == [108, 105, 109, 105, 116]) = false := beq_eq_false_iff_ne.2 hnm
          clear hnm
          go_wp2_with fail
          refine HP.out.mono ?_
          intro r w2 hr
          obtain ⟨B1, N1, m1, A1, K1, c1, rfl, e1, hb⟩ := hr.flat 0 rfl
          have H2 : Hid (Below w.heap.size w (w2.alloc (.cells #[.string (txt nm), .int .i64 (kd : Int), .int .i64 (ty : Int), .int .u64 (lo : Int), .int .u64 (hi : Int), .slice B1 N1 m1, .bool mu, .int .i64 (mo : Int), .slice A1 K1 c1] 27))) := Lib.hid ((HB.out.trans (hb.mono HB.out.size)).alloc (HB.out.trans (hb.mono HB.out.size)).size _)
          have X2 : Hid (Blk (w2.alloc (.cells #[.string (txt nm), .int .i64 (kd : Int), .int .i64 (ty : Int), .int .u64 (lo : Int), .int .u64 (hi : Int), .slice B1 N1 m1, .bool mu, .int .i64 (mo : Int), .slice A1 K1 c1] 27)) w2.heap.size 27 #[.string (txt nm), .int .i64 (kd : Int), .int .i64 (ty : Int), .int .u64 (lo : Int), .int .u64 (hi : Int), .slice B1 N1 m1, .bool mu, .int .i64 (mo : Int), .slice A1 K1 c1]) := Lib.hid (Blk.new _ _ _)
          have E1 := Lib.hid e1
          clear hb hr e1
          have PU := M.out 3 _ (by omega) (by omega) H2.out
          rw [show atX 3 l = _ from HU.out] at PU
          have HP2 := Lib.hid PU
          clear PU
          go_wp2_with fail
          refine HP2.out.mono ?_
          intro r w3 hr
          obtain ⟨B2, N2, m2, A2, K2, c2, rfl, e2, hb⟩ := hr.flat 0 rfl
          have H3 := Lib.hid (H2.out.trans (hb.mono H2.out.size))
          have H4 : Hid (Below w.heap.size w (w3.alloc (.cells #[.string (txt nm), .int .i64 (kd : Int), .int .i64 (ty : Int), .int .u64 (lo : Int), .int .u64 (hi : Int), .slice B2 N2 m2, .bool mu, .int .i64 (mo : Int), .slice A2 K2 c2] 27))) := Lib.hid (H3.out.alloc H3.out.size _)
          have X4 : Hid (Blk (w3.alloc (.cells #[.string (txt nm), .int .i64 (kd : Int), .int .i64 (ty : Int), .int .u64 (lo : Int), .int .u64 (hi : Int), .slice B2 N2 m2, .bool mu, .int .i64 (mo : Int), .slice A2 K2 c2] 27)) w2.heap.size 27 #[.string (txt nm), .int .i64 (kd : Int), .int .i64 (ty : Int), .int .u64 (lo : Int), .int .u64 (hi : Int), .slice B1 N1 m1, .bool mu, .int .i64 (mo : Int), .slice A1 K1 c1]) := Lib.hid ((X2.out.below hb X2.out.lt).alloc _)
          have Y4 : Hid (Blk (w3.alloc (.cells #[.string (txt nm), .int .i64 (kd : Int), .int .i64 (ty : Int), .int .u64 (lo : Int), .int .u64 (hi : Int), .slice B2 N2 m2, .bool mu, .int .i64 (mo : Int), .slice A2 K2 c2] 27)) w3.heap.size 27 #[.string (txt nm), .int .i64 (kd : Int), .int .i64 (ty : Int), .int .u64 (lo : Int), .int .u64 (hi : Int), .slice B2 N2 m2, .bool mu, .int .i64 (mo : Int), .slice A2 K2 c2]) := Lib.hid (Blk.new _ _ _)
          have k1 : ¬ (K1 : Int) > (K2 : Int) := by rw [E1.out, e2]; have := HKL.out; omega
          have k2 : ¬ (K2 : Int) < (K1 : Int) := k1
          have q0 := (X4.out.cell 0).trans rfl
          have p0 := (Y4.out.cell 0).trans rfl
          have q1 := (X4.out.cell 1).trans rfl
          have p1 := (Y4.out.cell 1).trans rfl
          have q2 := (X4.out.cell 2).trans rfl
          have p2 := (Y4.out.cell 2).trans rfl
          have q3 := (X4.out.cell 3).trans rfl
          have p3 := (Y4.out.cell 3).trans rfl
          have q4 := (X4.out.cell 4).trans rfl
          have p4 := (Y4.out.cell 4).trans rfl
          have q5 := (X4.out.cell 5).trans rfl
          have p5 := (Y4.out.cell 5).trans rfl
          have q6 := (X4.out.cell 6).trans rfl
          have p6 := (Y4.out.cell 6).trans rfl
          have q7 := (X4.out.cell 7).trans rfl
          have p7 := (Y4.out.cell 7).trans rfl
          have q8 := (X4.out.cell 8).trans rfl
          have p8 := (Y4.out.cell 8).trans rfl
          clear hb hr e2
          go_wp2_with fail
          go_region
          all_goals go_wp2
          all_goals go_roundw
          all_goals first | exact ⟨3, by omega, by omega, rfl, H4.out.drew⟩ | (simp [intOf]) | (simp [intOf]; omega)
    · clear hB
      go_wp2
      go_ret
      exact ⟨rfl, HB.out⟩
set_option maxRecDepth 100000 in
set_option maxHeartbeats 4000000 in
theorem specGrows_some (l : List (List UInt8)) (An : Option Addr) (cn L d : Nat) (w : World) (hn : Vals w d (.slice An l.length cn) (txts l)) (hL : L = l.length) (hc : 0 < L ∧ L ≤ 20) (C : SpcC w) (HA : Awake7 w) :
    Calls Try.prog 5 #[.slice An L cn] w fun e w' => e = .returned (.bool true) ∧ Below w.heap.size w w' := by
  have HAW := Lib.hid (HA w (Below.refl _ _))
  have M := Lib.hid (fun (k : Int) (W : World) (h0 : -9223372036854775808 ≤ k) (h1 : k ≤ 9223372036854775807) (h : Below w.heap.size w W) => show Calls Try.prog 10 #[.int .i64 k, .slice An L cn] W (LieP (atX k l) W) from by
    rw [hL]
    exact (C.at_ k l d _ W h0 h1 (by omega) (hn.kept_ h) h).mono fun _ _ h => h.lie)
  obtain ⟨k, hk⟩ : ∃ k, L = k + 1 := ⟨L - 1, by omega⟩
  have hne : l ≠ [] := by
    intro e
    rw [e] at hL
    have : L = 0 := hL
    omega
  obtain ⟨mm, n, hmn⟩ : ∃ m n, l = m ++ [n] := ⟨l.dropLast, l.getLast hne, (List.dropLast_concat_getLast hne).symm⟩
  obtain ⟨o, rfl, hda, -, -, hcn⟩ := hn.at (txts_at (ls := l) (j := k) (l := n) (by
    have : mm.length = k := by
      have e : L = (mm ++ [n]).length := by rw [hL, hmn]
      rw [List.length_append, List.length_singleton] at e
      omega
    rw [hmn, ← this]
    exact List.getElem?_concat_length))
  have HCN := Lib.hid (And.intro hda hcn)
  have HMN := Lib.hid hmn
  have i0 : ¬ (20 : Int) < (L : Int) := by omega
  have i1 : (0 : Int) < (L : Int) := by omega
  have i5 : 0 < L := by omega
  have i2 : (0 : Int) ≤ (k : Int) := by omega
  have i3 : (k : Int) < (L : Int) := by omega
  have i4 : IntKind.i64.wrap ((L : Int) - 1) = (k : Int) := by rw [IntKind.wrap_i64]; omega
  clear hda hcn hmn hk hc hL hn hne C HA
  go_enter Try.func5, Try.ntmps5
  go_wp2_with fail
  refine HAW.out.mono ?_
  rintro r w1 ⟨rfl, hB1⟩
  have H1 := Lib.hid hB1
  clear hB1
  go_wp2
  go_loopw [4, 5, 6, 7, 8] (fun i v5 v6 v7 v8 wr => ∃ (j : Int), 1 ≤ j ∧ j ≤ 3 ∧ i = .int .i64 j ∧ Below w.heap.size w wr) (fun i _ _ _ _ _ => (3 - intOf i).toNat)
  case atStart => exact ⟨1, by omega, by omega, rfl, H1.out⟩
  case round =>
    obtain ⟨j, hj0, hj1, rfl, hB⟩ := hrel
    have HB := Lib.hid hB
    by_cases hlt : j < 3
    · have hj : j = 1 ∨ j = 2 := by omega
      have P1 := M.out j wr (by omega) (by omega) hB
      rcases grow_at j hj l with ⟨⟨⟨nm, kd, ty, lo, hi, ns, mu, mo⟩, f⟩, e, hx, he⟩ | ⟨⟨⟨nm, kd, ty, lo, hi, ns, mu, mo⟩, f⟩, hx, hlast, hy⟩
      · rw [hx] at P1
        have HP := Lib.hid P1
        clear P1 hx hB
        rcases he with rfl | rfl
        all_goals
          go_wp2_with fail
          refine HP.out.mono ?_
          intro r w2 hr
          obtain ⟨B, N, m, A, K, c, rfl, -, hb⟩ := hr.flat _ rfl
          have H2 := Lib.hid (HB.out.trans (hb.mono HB.out.size))
          clear hb hr hj
          go_wp2
          go_roundw
          case rel => exact ⟨j + 1, by omega, by omega, by go_num, H2.out.alloc H2.out.size _⟩
          case measure => simp [intOf]; omega
      rw [hx] at P1
      have HP := Lib.hid P1
      clear P1 hx hB
      have ta : (txt nm).toList = nm := txt_toList _
      have HNM : Hid (nm = n) := Lib.hid (hlast _ _ HMN.out)
      clear hlast
      rcases hy with ⟨rfl, hnm, ⟨u, hu⟩⟩ | ⟨hor, u, hu, hsm, hkl⟩
      · have HN2 : Hid (nm = [108, 105, 109, 105, 116]) := Lib.hid hnm
        have HU := Lib.hid hu
        have g1 : (nm == [108, 105, 109, 105, 116]) = true := beq_iff_eq.2 hnm
        clear hnm hu hlt hj hj0 hj1
        go_wp2_with fail
        refine HP.out.mono ?_
        intro r w2 hr
        obtain ⟨B1, N1, m1, A1, K1, c1, rfl, e1, hb⟩ := hr.flat 0 rfl
        have H2 : Hid (Below w.heap.size w (w2.alloc (.cells #[.string (txt nm), .int .i64 (kd : Int), .int .i64 (ty : Int), .int .u64 (lo : Int), .int .u64 (hi : Int), .slice B1 N1 m1, .bool mu, .int .i64 (mo : Int), .slice A1 K1 c1] 27))) := Lib.hid ((HB.out.trans (hb.mono HB.out.size)).alloc (HB.out.trans (hb.mono HB.out.size)).size _)
        have X2 : Hid (Blk (w2.alloc (.cells #[.string (txt nm), .int .i64 (kd : Int), .int .i64 (ty : Int), .int .u64 (lo : Int), .int .u64 (hi : Int), .slice B1 N1 m1, .bool mu, .int .i64 (mo : Int), .slice A1 K1 c1] 27)) w2.heap.size 27 #[.string (txt nm), .int .i64 (kd : Int), .int .i64 (ty : Int), .int .u64 (lo : Int), .int .u64 (hi : Int), .slice B1 N1 m1, .bool mu, .int .i64 (mo : Int), .slice A1 K1 c1]) := Lib.hid (Blk.new _ _ _)
        have E1 := Lib.hid e1
        clear hb hr e1
        have PU := M.out 3 _ (by omega) (by omega) H2.out
        rw [HU.out] at PU
        obtain ⟨⟨na, kd', ty', lo', hi', ns', mu', mo'⟩, f'⟩ := u
        have HP2 := Lib.hid PU
        clear PU
        go_wp2_with fail
        refine HP2.out.mono ?_
        intro r w3 hr
        obtain ⟨B2, N2, m2, A2, K2, c2, rfl, -, hb⟩ := hr.flat 22 rfl
        have H3 := Lib.hid (H2.out.trans (hb.mono H2.out.size))
        have H4 := Lib.hid (H3.out.alloc H3.out.size (.cells #[.string (txt na), .int .i64 (kd' : Int), .int .i64 (ty' : Int), .int .u64 (lo' : Int), .int .u64 (hi' : Int), .slice B2 N2 m2, .bool mu', .int .i64 (mo' : Int), .slice A2 K2 c2] 27))
        have X4 := Lib.hid ((X2.out.below hb X2.out.lt).alloc (.cells #[.string (txt na), .int .i64 (kd' : Int), .int .i64 (ty' : Int), .int .u64 (lo' : Int), .int .u64 (hi' : Int), .slice B2 N2 m2, .bool mu', .int .i64 (mo' : Int), .slice A2 K2 c2] 27))
        have q0 := (X4.out.cell 0).trans rfl
        clear hb hr
        go_wp2
        go_ret
        exact ⟨rfl, H4.out⟩
      · obtain ⟨ns', f', hue⟩ := same_cases hsm
        simp only at hue hkl
        have HU : Hid (atX (j + 1) l = ((⟨nm, kd, ty, lo, hi, ns', mu, mo⟩, f'), 0)) := Lib.hid (by rw [hu, hue])
        have HKL : Hid (f.len ≤ f'.len) := Lib.hid (by rw [hue] at hkl; exact hkl)
        have hw : j = 1 ∧ nm = nLimit ∨ j = 1 ∧ nm ≠ nLimit ∨ j = 2 ∧ nm ≠ nLimit := by
          by_cases c : nm = nLimit
          · rcases hor with h | h
            · exact .inl ⟨h, c⟩
            · exact absurd c h
          · rcases hj with h | h
            · exact .inr (.inl ⟨h, c⟩)
            · exact .inr (.inr ⟨h, c⟩)
        clear hu hue hsm hkl hor hlt hj hj0 hj1
        rcases hw with ⟨rfl, hnm⟩ | ⟨rfl, hnm⟩ | ⟨rfl, hnm⟩
        · have g1 : (nm == [108, 105, 109, 105, 116]) = true := beq_iff_eq.2 hnm
          clear hnm
          go_wp2_with fail
          refine HP.out.mono ?_
          intro r w2 hr
          obtain ⟨B1, N1, m1, A1, K1, c1, rfl, e1, hb⟩ := hr.flat 0 rfl
          have H2 : Hid (Below w.heap.size w (w2.alloc (.cells #[.string (txt nm), .int .i64 (kd : Int), .int .i64 (ty : Int), .int .u64 (lo : Int), .int .u64 (hi : Int), .slice B1 N1 m1, .bool mu, .int .i64 (mo : Int), .slice A1 K1 c1] 27))) := Lib.hid ((HB.out.trans (hb.mono HB.out.size)).alloc (HB.out.trans (hb.mono HB.out.size)).size _)
          have X2 : Hid (Blk (w2.alloc (.cells #[.string (txt nm), .int .i64 (kd : Int), .int .i64 (ty : Int), .int .u64 (lo : Int), .int .u64 (hi : Int), .slice B1 N1 m1, .bool mu, .int .i64 (mo : Int), .slice A1 K1 c1] 27)) w2.heap.size 27 #[.string (txt nm), .int .i64 (kd : Int), .int .i64 (ty : Int), .int .u64 (lo : Int), .int .u64 (hi : Int), .slice B1 N1 m1, .bool mu, .int .i64 (mo : Int), .slice A1 K1 c1]) := Lib.hid (Blk.new _ _ _)
          have E1 := Lib.hid e1
          clear hb hr e1
          have PU := M.out 2 _ (by omega) (by omega) H2.out
          rw [show atX 2 l = _ from HU.out] at PU
          have HP2 := Lib.hid PU
          clear PU
          go_wp2_with fail
          refine HP2.out.mono ?_
          intro r w3 hr
          obtain ⟨B2, N2, m2, A2, K2, c2, rfl, e2, hb⟩ := hr.flat 0 rfl
          have H3 := Lib.hid (H2.out.trans (hb.mono H2.out.size))
          have H4 : Hid (Below w.heap.size w (w3.alloc (.cells #[.string (txt nm), .int .i64 (kd : Int), .int .i64 (ty : Int), .int .u64 (lo : Int), .int .u64 (hi : Int), .slice B2 N2 m2, .bool mu, .int .i64 (mo : Int), .slice A2 K2 c2] 27))) := Lib.hid (H3.out.alloc H3.out.size _)
          have X4 : Hid (Blk (w3.alloc (.cells #[.string (txt nm), .int .i64 (kd : Int), .int .i64 (ty : Int), .int .u64 (lo : Int), .int .u64 (hi : Int), .slice B2 N2 m2, .bool mu, .int .i64 (mo : Int), .slice A2 K2 c2] 27)) w2.heap.size 27 #[.string (txt nm), .int .i64 (kd : Int), .int .i64 (ty : Int), .int .u64 (lo : Int), .int .u64 (hi : Int), .slice B1 N1 m1, .bool mu, .int .i64 (mo : Int), .slice A1 K1 c1]) := Lib.hid ((X2.out.below hb X2.out.lt).alloc _)
          have Y4 : Hid (Blk (w3.alloc (.cells #[.string (txt nm), .int .i64 (kd : Int), .int .i64 (ty : Int), .int .u64 (lo : Int), .int .u64 (hi : Int), .slice B2 N2 m2, .bool mu, .int .i64 (mo : Int), .slice A2 K2 c2] 27)) w3.heap.size 27 #[.string (txt nm), .int .i64 (kd : Int), .int .i64 (ty : Int), .int .u64 (lo : Int), .int .u64 (hi : Int), .slice B2 N2 m2, .bool mu, .int .i64 (mo : Int), .slice A2 K2 c2]) := Lib.hid (Blk.new _ _ _)
          have k1 : ¬ (K1 : Int) > (K2 : Int) := by rw [E1.out, e2]; have := HKL.out; omega
          have k2 : ¬ (K2 : Int) < (K1 : Int) := k1
          have q0 := (X4.out.cell 0).trans rfl
          have p0 := (Y4.out.cell 0).trans rfl
          have q1 := (X4.out.cell 1).trans rfl
          have p1 := (Y4.out.cell 1).trans rfl
          have q2 := (X4.out.cell 2).trans rfl
          have p2 := (Y4.out.cell 2).trans rfl
          have q3 := (X4.out.cell 3).trans rfl
          have p3 := (Y4.out.cell 3).trans rfl
          have q4 := (X4.out.cell 4).trans rfl
          have p4 := (Y4.out.cell 4).trans rfl
          have q5 := (X4.out.cell 5).trans rfl
          have p5 := (Y4.out.cell 5).trans rfl
          have q6 := (X4.out.cell 6).trans rfl
          have p6 := (Y4.out.cell 6).trans rfl
          have q7 := (X4.out.cell 7).trans rfl
          have p7 := (Y4.out.cell 7).trans rfl
          have q8 := (X4.out.cell 8).trans rfl
          have p8 := (Y4.out.cell 8).trans rfl
          have u0 : (w3.alloc (.cells #[.string (txt nm), .int .i64 (kd : Int), .int .i64 (ty : Int), .int .u64 (lo : Int), .int .u64 (hi : Int), .slice B2 N2 m2, .bool mu, .int .i64 (mo : Int), .slice A2 K2 c2] 27)).cell? ⟨d, o + k, none⟩ = some (.string (txt n)) := (H4.out.cell (p := ⟨d, o + k, none⟩) HCN.out.1).trans HCN.out.2
          have u1 : (w3.alloc (.cells #[.string (txt nm), .int .i64 (kd : Int), .int .i64 (ty : Int), .int .u64 (lo : Int), .int .u64 (hi : Int), .slice B2 N2 m2, .bool mu, .int .i64 (mo : Int), .slice A2 K2 c2] 27)).drew.cell? ⟨d, o + k, none⟩ = some (.string (txt n)) := (H4.out.drew.cell (p := ⟨d, o + k, none⟩) HCN.out.1).trans HCN.out.2
          rw [← HNM.out] at u0 u1
          have q9 := ((X4.out.below (Below.refl _ _).drew X4.out.lt).cell 0).trans rfl
          clear hb hr e2
          go_wp2_with fail
          go_region
          all_goals go_wp2
          all_goals go_roundw
          all_goals first | exact ⟨2, by omega, by omega, rfl, H4.out.drew⟩ | (simp [intOf]) | (simp [intOf]; omega)
        · have g1 : (nm == [108, 105, 109, 105, 116]) = false := beq_eq_false_iff_ne.2 hnm
          clear hnm
          go_wp2_with fail
          refine HP.out.mono ?_
          intro r w2 hr
          obtain ⟨B1, N1, m1, A1, K1, c1, rfl, e1, hb⟩ := hr.flat 0 rfl
          have H2 : Hid (Below w.heap.size w (w2.alloc (.cells #[.string (txt nm), .int .i64 (kd : Int), .int .i64 (ty : Int), .int .u64 (lo : Int), .int .u64 (hi : Int), .slice B1 N1 m1, .bool mu, .int .i64 (mo : Int), .slice A1 K1 c1] 27))) := Lib.hid ((HB.out.trans (hb.mono HB.out.size)).alloc (HB.out.trans (hb.mono HB.out.size)).size _)
          have X2 : Hid (Blk (w2.alloc (.cells #[.string (txt nm), .int .i64 (kd : Int), .int .i64 (ty : Int), .int .u64 (lo : Int), .int .u64 (hi : Int), .slice B1 N1 m1, .bool mu, .int .i64 (mo : Int), .slice A1 K1 c1] 27)) w2.heap.size 27 #[.string (txt nm), .int .i64 (kd : Int), .int .i64 (ty : Int), .int .u64 (lo : Int), .int .u64 (hi : Int), .slice B1 N1 m1, .bool mu, .int .i64 (mo : Int), .slice A1 K1 c1]) := Lib.hid (Blk.new _ _ _)
          have E1 := Lib.hid e1
          clear hb hr e1
          have PU := M.out 2 _ (by omega) (by omega) H2.out
          rw [show atX 2 l = _ from HU.out] at PU
          have HP2 := Lib.hid PU
          clear PU
          go_wp2_with fail
          refine HP2.out.mono ?_
          intro r w3 hr
          obtain ⟨B2, N2, m2, A2, K2, c2, rfl, e2, hb⟩ := hr.flat 0 rfl
          have H3 := Lib.hid (H2.out.trans (hb.mono H2.out.size))
          have H4 : Hid (Below w.heap.size w (w3.alloc (.cells #[.string (txt nm), .int .i64 (kd : Int), .int .i64 (ty : Int), .int .u64 (lo : Int), .int .u64 (hi : Int), .slice B2 N2 m2, .bool mu, .int .i64 (mo : Int), .slice A2 K2 c2] 27))) := Lib.hid (H3.out.alloc H3.out.size _)
          have X4 : Hid (Blk (w3.alloc (.cells #[.string (txt nm), .int .i64 (kd : Int), .int .i64 (ty : Int), .int .u64 (lo : Int), .int .u64 (hi : Int), .slice B2 N2 m2, .bool mu, .int .i64 (mo : Int), .slice A2 K2 c2] 27)) w2.heap.size 27 #[.string (txt nm), .int .i64 (kd : Int), .int .i64 (ty : Int), .int .u64 (lo : Int), .int .u64 (hi : Int), .slice B1 N1 m1, .bool mu, .int .i64 (mo : Int), .slice A1 K1 c1]) := Lib.hid ((X2.out.below hb X2.out.lt).alloc _)
          have Y4 : Hid (Blk (w3.alloc (.cells #[.string (txt nm), .int .i64 (kd : Int), .int .i64 (ty : Int), .int .u64 (lo : Int), .int .u64 (hi : Int), .slice B2 N2 m2, .bool mu, .int .i64 (mo : Int), .slice A2 K2 c2] 27)) w3.heap.size 27 #[.string (txt nm), .int .i64 (kd : Int), .int .i64 (ty : Int), .int .u64 (lo : Int), .int .u64 (hi : Int), .slice B2 N2 m2, .bool mu, .int .i64 (mo : Int), .slice A2 K2 c2]) := Lib.hid (Blk.new _ _ _)
          have k1 : ¬ (K1 : Int) > (K2 : Int) := by rw [E1.out, e2]; have := HKL.out; omega
          have k2 : ¬ (K2 : Int) < (K1 : Int) := k1
          have q0 := (X4.out.cell 0).trans rfl
          have p0 := (Y4.out.cell 0).trans rfl
          have q1 := (X4.out.cell 1).trans rfl
          have p1 := (Y4.out.cell 1).trans rfl
          have q2 := (X4.out.cell 2).trans rfl
          have p2 := (Y4.out.cell 2).trans rfl
          have q3 := (X4.out.cell 3).trans rfl
          have p3 := (Y4.out.cell 3).trans rfl
          have q4 := (X4.out.cell 4).trans rfl
          have p4 := (Y4.out.cell 4).trans rfl
          have q5 := (X4.out.cell 5).trans rfl
          have p5 := (Y4.out.cell 5).trans rfl
          have q6 := (X4.out.cell 6).trans rfl
          have p6 := (Y4.out.cell 6).trans rfl
          have q7 := (X4.out.cell 7).trans rfl
          have p7 := (Y4.out.cell 7).trans rfl
          have q8 := (X4.out.cell 8).trans rfl
          have p8 := (Y4.out.cell 8).trans rfl
          have u0 : (w3.alloc (.cells #[.string (txt nm), .int .i64 (kd : Int), .int .i64 (ty : Int), .int .u64 (lo : Int), .int .u64 (hi : Int), .slice B2 N2 m2, .bool mu, .int .i64 (mo : Int), .slice A2 K2 c2] 27)).cell? ⟨d, o + k, none⟩ = some (.string (txt n)) := (H4.out.cell (p := ⟨d, o + k, none⟩) HCN.out.1).trans HCN.out.2
          have u1 : (w3.alloc (.cells #[.string (txt nm), .int .i64 (kd : Int), .int .i64 (ty : Int), .int .u64 (lo : Int), .int .u64 (hi : Int), .slice B2 N2 m2, .bool mu, .int .i64 (mo : Int), .slice A2 K2 c2] 27)).drew.cell? ⟨d, o + k, none⟩ = some (.string (txt n)) := (H4.out.drew.cell (p := ⟨d, o + k, none⟩) HCN.out.1).trans HCN.out.2
          rw [← HNM.out] at u0 u1
          have q9 := ((X4.out.below (Below.refl _ _).drew X4.out.lt).cell 0).trans rfl
          clear hb hr e2
          go_wp2_with fail
          go_region
          all_goals go_wp2
          all_goals go_roundw
          all_goals first | exact ⟨2, by omega, by omega, rfl, H4.out.drew⟩ | (simp [intOf]) | (simp [intOf]; omega)
        · have g1 : (nm == [108, 105, 109, 105, 116]) = false := beq_eq_false_iff_ne.2 hnm
          clear hnm
          go_wp2_with fail
          refine HP.out.mono ?_
          intro r w2 hr
          obtain ⟨B1, N1, m1, A1, K1, c1, rfl, e1, hb⟩ := hr.flat 0 rfl
          have H2 : Hid (Below w.heap.size w (w2.alloc (.cells #[.string (txt nm), .int .i64 (kd : Int), .int .i64 (ty : Int), .int .u64 (lo : Int), .int .u64 (hi : Int), .slice B1 N1 m1, .bool mu, .int .i64 (mo : Int), .slice A1 K1 c1] 27))) := Lib.hid ((HB.out.trans (hb.mono HB.out.size)).alloc (HB.out.trans (hb.mono HB.out.size)).size _)
          have X2 : Hid (Blk (w2.alloc (.cells #[.string (txt nm), .int .i64 (kd : Int), .int .i64 (ty : Int), .int .u64 (lo : Int), .int .u64 (hi : Int), .slice B1 N1 m1, .bool mu, .int .i64 (mo : Int), .slice A1 K1 c1] 27)) w2.heap.size 27 #[.string (txt nm), .int .i64 (kd : Int), .int .i64 (ty : Int), .int .u64 (lo : Int), .int .u64 (hi : Int), .slice B1 N1 m1, .bool mu, .int .i64 (mo : Int), .slice A1 K1 c1]) := Lib.hid (Blk.new _ _ _)
          have E1 := Lib.hid e1
          clear hb hr e1
          have PU := M.out 3 _ (by omega) (by omega) H2.out
          rw [show atX 3 l = _ from HU.out] at PU
          have HP2 := Lib.hid PU
          clear PU
          go_wp2_with fail
          refine HP2.out.mono ?_
          intro r w3 hr
          obtain ⟨B2, N2, m2, A2, K2, c2, rfl, e2, hb⟩ := hr.flat 0 rfl
          have H3 := Lib.hid (H2.out.trans (hb.mono H2.out.size))
          have H4 : Hid (Below w.heap.size w (w3.alloc (.cells #[.string (txt nm), .int .i64 (kd : Int), .int .i64 (ty : Int), .int .u64 (lo : Int), .int .u64 (hi : Int), .slice B2 N2 m2, .bool mu, .int .i64 (mo : Int), .slice A2 K2 c2] 27))) := Lib.hid (H3.out.alloc H3.out.size _)
          have X4 : Hid (Blk (w3.alloc (.cells #[.string (txt nm), .int .i64 (kd : Int), .int .i64 (ty : Int), .int .u64 (lo : Int), .int .u64 (hi : Int), .slice B2 N2 m2, .bool mu, .int .i64 (mo : Int), .slice A2 K2 c2] 27)) w2.heap.size 27 #[.string (txt nm), .int .i64 (kd : Int), .int .i64 (ty : Int), .int .u64 (lo : Int), .int .u64 (hi : Int), .slice B1 N1 m1, .bool mu, .int .i64 (mo : Int), .slice A1 K1 c1]) := Lib.hid ((X2.out.below hb X2.out.lt).alloc _)
          have Y4 : Hid (Blk (w3.alloc (.cells #[.string (txt nm), .int .i64 (kd : Int), .int .i64 (ty : Int), .int .u64 (lo : Int), .int .u64 (hi : Int), .slice B2 N2 m2, .bool mu, .int .i64 (mo : Int), .slice A2 K2 c2] 27)) w3.heap.size 27 #[.string (txt nm), .int .i64 (kd : Int), .int .i64 (ty : Int), .int .u64 (lo : Int), .int .u64 (hi : Int), .slice B2 N2 m2, .bool mu, .int .i64 (mo : Int), .slice A2 K2 c2]) := Lib.hid (Blk.new _ _ _)
          have k1 : ¬ (K1 : Int) > (K2 : Int) := by rw [E1.out, e2]; have := HKL.out; omega
          have k2 : ¬ (K2 : Int) < (K1 : Int) := k1
          have q0 := (X4.out.cell 0).trans rfl
          have p0 := (Y4.out.cell 0).trans rfl
          have q1 := (X4.out.cell 1).trans rfl
          have p1 := (Y4.out.cell 1).trans rfl
          have q2 := (X4.out.cell 2).trans rfl
          have p2 := (Y4.out.cell 2).trans rfl
          have q3 := (X4.out.cell 3).trans rfl
          have p3 := (Y4.out.cell 3).trans rfl
          have q4 := (X4.out.cell 4).trans rfl
          have p4 := (Y4.out.cell 4).trans rfl
          have q5 := (X4.out.cell 5).trans rfl
          have p5 := (Y4.out.cell 5).trans rfl
          have q6 := (X4.out.cell 6).trans rfl
          have p6 := (Y4.out.cell 6).trans rfl
          have q7 := (X4.out.cell 7).trans rfl
          have p7 := (Y4.out.cell 7).trans rfl
          have q8 := (X4.out.cell 8).trans rfl
          have p8 := (Y4.out.cell 8).trans rfl
          have u0 : (w3.alloc (.cells #[.string (txt nm), .int .i64 (kd : Int), .int .i64 (ty : Int), .int .u64 (lo : Int), .int .u64 (hi : Int), .slice B2 N2 m2, .bool mu, .int .i64 (mo : Int), .slice A2 K2 c2] 27)).cell? ⟨d, o + k, none⟩ = some (.string (txt n)) := (H4.out.cell (p := ⟨d, o + k, none⟩) HCN.out.1).trans HCN.out.2
          have u1 : (w3.alloc (.cells #[.string (txt nm), .int .i64 (kd : Int), .int .i64 (ty : Int), .int .u64 (lo : Int), .int .u64 (hi : Int), .slice B2 N2 m2, .bool mu, .int .i64 (mo : Int), .slice A2 K2 c2] 27)).drew.cell? ⟨d, o + k, none⟩ = some (.string (txt n)) := (H4.out.drew.cell (p := ⟨d, o + k, none⟩) HCN.out.1).trans HCN.out.2
          rw [← HNM.out] at u0 u1
          have q9 := ((X4.out.below (Below.refl _ _).drew X4.out.lt).cell 0).trans rfl
          clear hb hr e2
          go_wp2_with fail
          go_region
          all_goals go_wp2
          all_goals go_roundw
          all_goals first | exact ⟨3, by omega, by omega, rfl, H4.out.drew⟩ | (simp [intOf]) | (simp [intOf]; omega)
    · clear hB
      go_wp2
      go_ret
      exact ⟨rfl, HB.out⟩
theorem specGrows_walk (l : List (List UInt8)) (nv : Value) (d : Nat) (w : World) (hn : Vals w d nv (txts l)) (C : SpcC w) (HA : Awake7 w) :
    Calls Try.prog 5 #[nv] w fun e w' => e = .returned (.bool true) ∧ Below w.heap.size w w' := by
  obtain ⟨An, cn, e⟩ := hn.shape
  rw [txts_len] at e
  subst e
  by_cases h20 : 20 < l.length
  · exact specGrows_long l An cn _ d w hn rfl h20 C HA
  by_cases h0 : l.length = 0
  · exact specGrows_nil l An cn _ d w hn rfl h0 C HA
  · exact specGrows_some l An cn _ d w hn rfl ⟨by omega, by omega⟩ C HA

end Go.Proofs.Ytkpbjgjflabloaa
