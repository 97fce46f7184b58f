/-
  The walk of the law TlvDeep: it answers true, for all tags and bytes, and writes nothing that was there, where package tlv answers as it is to (TlvC).
-/
import Derived.Test.YtdpaijechogmlaaLaw03B
namespace Go.Proofs.Ytdpaijechogmlaa
open Go.RowKit
set_option linter.unusedSimpArgs false

theorem FAt.fit {D : World → (Nat → Prop) → Value → List UInt8 → Prop} {w : World} {S : Nat → Prop} : ∀ {f : Fo} {b o : Nat}, FAt D w S f b o → f.fit := by
  intro f
  induction f with
  | nil => intro b o _; trivial
  | cons t d k r ihk ihr =>
    intro b o ⟨_, ht, _, ⟨A, c, _, _, h5⟩, h6⟩
    refine ⟨ht, ?_, ihr h6⟩
    by_cases h0 : 0 < k.len
    · obtain ⟨b', o', _, _, h7⟩ := h5 h0
      exact ihk h7
    · rw [Fo.len_zero (show k.len = 0 by omega)]; trivial
theorem FV.fit {D : World → (Nat → Prop) → Value → List UInt8 → Prop} {w : World} {S : Nat → Prop} {v : Value} {f : Fo} (h : FV D w S v f) : f.fit := by
  obtain ⟨A, c, _, _, h2⟩ := h
  by_cases h0 : 0 < f.len
  · obtain ⟨b, o, _, _, h3⟩ := h2 h0
    exact h3.fit
  · rw [Fo.len_zero (show f.len = 0 by omega)]; trivial

theorem ok_right {f : Fo} (h : f.ok = true) : Fo.right 1 f = true ∧ f.all.length ≤ 8192 := by
  unfold Fo.ok at h
  rw [Bool.and_eq_true] at h
  exact ⟨h.1, of_decide_eq_true h.2⟩
/-- What may be put is got. -/
theorem got_all {f : Fo} (h : f.ok = true) (hf : f.fit) : gotOf f.all = (f, 0, 0) := by
  obtain ⟨h1, h2⟩ := ok_right h
  unfold gotOf
  rw [if_neg (by omega), gt_all f _ 1 0 (Nat.le_refl _) (by omega) hf h1]

/-- Items within items, as the law makes them. -/
def nestF (xs : List Nat) (d : List UInt8) : Nat → Fo
  | 0 => .cons 2 d .nil .nil
  | j + 1 => .cons ((xs.getD j 0) ||| 1) [] (nestF xs d j) .nil
theorem or_odd (x : Nat) : (x ||| 1) % 2 = 1 := by
  have h : (x ||| 1).testBit 0 = true := by rw [Nat.testBit_or]; simp
  rw [Nat.testBit_zero] at h
  exact of_decide_eq_true h
theorem nestF_right (xs : List Nat) (d : List UInt8) (j : Nat) : ∀ deep, Fo.right deep (nestF xs d j) = decide (deep + j ≤ 6) := by
  induction j with
  | zero =>
    intro deep
    simp only [nestF, Fo.right, Fo.len]
    simp
  | succ j ih =>
    intro deep
    simp only [nestF, Fo.right, ih, or_odd]
    by_cases h : deep + (j + 1) ≤ 6
    · rw [decide_eq_true h, decide_eq_true (show deep + 1 + j ≤ 6 by omega), decide_eq_true (show deep ≤ 6 by omega)]; rfl
    · rw [decide_eq_false h, decide_eq_false (show ¬ deep + 1 + j ≤ 6 by omega)]; simp
theorem nestF_sz (xs : List Nat) (d : List UInt8) (j : Nat) : (nestF xs d j).sz = 1 + d.length + j := by
  induction j with
  | zero => simp [nestF, Fo.sz]
  | succ j ih => simp only [nestF, Fo.sz, ih]; simp; omega
theorem nestF_ok (xs : List Nat) (d : List UInt8) (j : Nat) (hd : d.length ≤ 300) (hj : j ≤ 12) : (nestF xs d j).ok = decide (j < 6) := by
  unfold Fo.ok
  have h1 := Fo.all_le (nestF xs d j)
  rw [nestF_sz] at h1
  rw [nestF_right, decide_eq_true (show (nestF xs d j).all.length ≤ 8192 by omega), Bool.and_true]
  by_cases h : j < 6
  · rw [decide_eq_true h, decide_eq_true (by omega)]
  · rw [decide_eq_false h, decide_eq_false (by omega)]

theorem RdN.at3 {k : IntKind} {w : World} {d : Nat} {v : Value} {xs : List Nat} (h : RdN k w d v xs) {j : Nat} (hj : j < xs.length) :
    ∃ off c x, v = .slice (some ⟨d, off, none⟩) xs.length c ∧ xs[j]? = some x ∧ d < w.heap.size ∧ w.cell? ⟨d, off + j, none⟩ = some (.int k (x : Int)) := by
  obtain ⟨A, c, rfl, _, h2⟩ := h
  obtain ⟨hlt, off, rfl, hc⟩ := h2 (by omega)
  exact ⟨off, c, xs[j], rfl, List.getElem?_eq_getElem hj, hlt, hc j _ (List.getElem?_eq_getElem hj)⟩

set_option maxRecDepth 100000 in
set_option maxHeartbeats 8000000 in
theorem tlvDeep_walk (C : TlvC) (a0 : Option Addr) (len0 cap0 : Nat) (z0 : List Int) (a1 : Option Addr) (len1 cap1 : Nat) (z1 : List Int) (w : World) (w0 : IsRow .u64 w a0 len0 cap0 z0) (w1 : IsRow .u8 w a1 len1 cap1 z1) :
    Calls Try.prog 7 #[.slice a0 len0 cap0, .slice a1 len1 cap1] w fun e w' => e = .returned (.bool true) ∧ Below w.heap.size w w' := by
  have HC := Lib.hid C
  clear C
  obtain ⟨d0, xs, rfl, hx, hr0⟩ := w0.rdN (M := 18446744073709551616) (fun n h => by have := bounds_u64 h; omega)
  by_cases hbig : 12 < xs.length ∨ 300 < len1
  · by_cases h12 : 12 < xs.length
    · go_enter Try.func7, Try.ntmps7
      go_wp2_with fail
      refine (awake3_any HC.out _).mono ?_
      rintro r w1 ⟨rfl, hB1⟩
      go_wp2
      go_ret
      exact ⟨rfl, hB1⟩
    · have h41 : decide ((12 : Int) < (xs.length : Int)) = false := decide_eq_false (by omega)
      have h42 : decide ((300 : Int) < (len1 : Int)) = true := decide_eq_true (by omega)
      go_enter Try.func7, Try.ntmps7
      go_wp2_with fail
      refine (awake3_any HC.out _).mono ?_
      rintro r w1 ⟨rfl, hB1⟩
      go_wp2
      go_ret
      exact ⟨rfl, hB1⟩
  · obtain ⟨d1, l, rfl, hdw, hr1⟩ := w1.rd (by omega)
    have h41 : decide ((12 : Int) < (xs.length : Int)) = false := decide_eq_false (by omega)
    have h42 : decide ((300 : Int) < (l.length : Int)) = false := decide_eq_false (by omega)
    have hN : xs.length ≤ 12 := by omega
    have hL : l.length ≤ 300 := by omega
    have HX := Lib.hid hx
    clear hbig hx w0 w1
    go_enter Try.func7, Try.ntmps7
    go_wp2_with fail
    refine (awake3_any HC.out _).mono ?_
    rintro r wa ⟨rfl, hB1⟩
    have hr01 := hr0.below hB1
    have hr11 := hr1.below' hB1
    clear hr0 hr1
    have hblk := Blk.new wa 46 #[.int .u64 2, .slice a1 l.length cap1, .slice none 0 0]
    have hF0 : FV DataI (wa.alloc (.cells #[.int .u64 2, .slice a1 l.length cap1, .slice none 0 0] 46)) (Lo (wa.alloc (.cells #[.int .u64 2, .slice a1 l.length cap1, .slice none 0 0] 46))) (.slice (some ⟨wa.heap.size, 0, none⟩) 1 1) (nestF xs l 0) :=
      FV.one hblk (by unfold Lo; simp) (by decide) ⟨d1, hr11.alloc _, fun h0 => by have := hr11.lt h0; unfold Lo; simp only [World.size_alloc]; omega⟩ (FV.nil _ _)
    have hB2 : Below w.heap.size w (wa.alloc (.cells #[.int .u64 2, .slice a1 l.length cap1, .slice none 0 0] 46)) := hB1.alloc hB1.size _
    have hr02 := hr01.below ((Below.refl wa.heap.size wa).alloc (Nat.le_refl _) (.cells #[.int .u64 2, .slice a1 l.length cap1, .slice none 0 0] 46))
    clear hblk hr11 hB1 hr01
    obtain ⟨wc, hwc⟩ : ∃ wc, wc = wa.alloc (.cells #[.int .u64 2, .slice a1 l.length cap1, .slice none 0 0] 46) := ⟨_, rfl⟩
    rw [← hwc] at hF0 hB2 hr02
    have HWC := Lib.hid hwc
    clear hwc
    go_wp2
    rw [← HWC.out]
    go_loopw [6, 7] (fun u i wr => ∃ j : Nat, j ≤ xs.length ∧ i = .int .i64 (j : Int) ∧ FV DataI wr (Lo wr) u (nestF xs l j) ∧ Below wc.heap.size wc wr) (fun _ i _ => xs.length - (intOf i).toNat)
    case atStart => exact ⟨0, Nat.zero_le _, rfl, hF0, Below.refl _ _⟩
    case round =>
      obtain ⟨j, hj, rfl, hF, hB⟩ := hrel
      by_cases hlt : j < xs.length
      · obtain ⟨off0, c0, x, he0, hxj, hlt0, hcx⟩ := hr02.at3 hlt
        injection he0 with e1 e2 e3
        subst e1 e3
        have hcx' : wr.cell? ⟨d0, off0 + j, none⟩ = some (.int .u64 (x : Int)) := (hB.cell (p := ⟨d0, off0 + j, none⟩) hlt0).trans hcx
        have hx64 : x < 18446744073709551616 := HX.out x (List.mem_of_getElem? hxj)
        obtain ⟨T, hT⟩ : ∃ T, T = x ||| 1 := ⟨_, rfl⟩
        have hor : bits .or .u64 (x : Int) 1 = (T : Int) := by rw [hT]; exact u64_or_nat x 1 hx64 (by decide)
        have hT64 : T < 18446744073709551616 := by
          rw [hT]
          have := Nat.or_lt_two_pow (x := x) (y := 1) (n := 64) (by omega) (by decide)
          omega
        have hnx : nestF xs l (j + 1) = .cons T [] (nestF xs l j) .nil := by
          simp only [nestF]
          rw [hT]
          simp [List.getD, hxj]
        have i1 : (0 : Int) ≤ (j : Int) := by omega
        have i2 : (j : Int) < (xs.length : Int) := by omega
        obtain ⟨A6, c6, rfl⟩ := hF.shape
        have hblk := Blk.new wr 46 #[.int .u64 (T : Int), .slice none 0 0, .slice A6 (nestF xs l j).len c6]
        have hF' : FV DataI (wr.alloc (.cells #[.int .u64 (T : Int), .slice none 0 0, .slice A6 (nestF xs l j).len c6] 46)) (Lo (wr.alloc (.cells #[.int .u64 (T : Int), .slice none 0 0, .slice A6 (nestF xs l j).len c6] 46))) (.slice (some ⟨wr.heap.size, 0, none⟩) 1 1) (nestF xs l (j + 1)) := by
          rw [hnx]
          exact FV.one hblk (by unfold Lo; simp) hT64 ⟨0, Rd.nil _ _, fun h => absurd h (by simp)⟩ (FV.below stays_I hF ((Below.refl _ _).alloc (Nat.le_refl _) _))
        have hB' := hB.alloc hB.size (.cells #[.int .u64 (T : Int), .slice none 0 0, .slice A6 (nestF xs l j).len c6] 46)
        have HF' := Lib.hid hF'
        have HB' := Lib.hid hB'
        clear hF hF' hB hB' hcx hxj hT hx64 hT64 hnx hblk e2
        go_wp2
        go_roundw
        case rel => exact ⟨j + 1, by omega, by go_num, HF'.out, HB'.out⟩
        case measure => simp [intOf]; omega
      · obtain rfl : j = xs.length := by omega
        have hok := nestF_ok xs l xs.length hL hN
        have hsz := nestF_sz xs l xs.length
        obtain ⟨f, hf⟩ : ∃ f, f = nestF xs l xs.length := ⟨_, rfl⟩
        rw [← hf] at hF hok hsz
        have hfit := hF.fit
        have hB3 : Below w.heap.size w wr := hB2.trans (hB.mono hB2.size)
        have hs40 : f.sz ≤ 1099511627776 := by omega
        clear hf hsz hB hB2 hr02 hF0 hlt
        obtain ⟨A6, c6, rfl⟩ := hF.shape
        by_cases h6 : xs.length < 6
        · have hd6 : decide ((xs.length : Int) < 6) = true := decide_eq_true (by omega)
          rw [decide_eq_true h6] at hok
          have HGOT := Lib.hid (got_all hok hfit)
          have hal := (ok_right hok).2
          have HOK := Lib.hid hok
          clear hok h6 hfit
          go_wp2_with fail
          refine (HC.out.put f _ _ hF hs40).mono ?_
          rintro r w3 ⟨v3, rfl, hv3, hb3⟩
          rw [if_pos HOK.out] at hv3
          rw [if_pos HOK.out]
          obtain ⟨d3, -, -, hr3⟩ := hv3.rd (by omega)
          have hF3 := FV.below stays_I hF hb3
          have hB4 := hB3.trans (hb3.mono hB3.size)
          clear hF hb3 hB3 hv3
          go_wp2_with fail
          refine (HC.out.check f _ _ hF3 hs40).mono ?_
          rintro r w4 ⟨rfl, hb4⟩
          rw [HOK.out]
          have hF4 := FV.below stays_I hF3 hb4
          have hr4 := hr3.below' hb4
          have hB5 := hB4.trans (hb4.mono hB4.size)
          clear hF3 hb4 hB4 hr3
          go_wp2_with fail
          refine (get3_at HC.out f.all _ _ _ _ hr4 (by omega) HGOT.out).mono ?_
          rintro r w5 ⟨v5, rfl, hv5, hb5⟩
          have hF5 := FV.below stays_I hF4 hb5
          have hG5 := FV.lo stays_I hv5
          have hB6 := hB5.trans (hb5.mono hB5.size)
          clear hF4 hb5 hB5 hr4 hv5
          go_wp2_with fail
          refine (plain_any f _ _ hG5 hs40).mono ?_
          rintro r w6 ⟨v6, rfl, hv6, hb6⟩
          have hF6 := FV.below stays_I hF5 hb6
          have hP6 := FV.lo stays_R hv6
          have hB7 := hB6.trans (hb6.mono hB6.size)
          clear hF5 hb6 hB6 hv6 hG5
          go_wp2_with fail
          refine (plain_any f _ _ hF6 hs40).mono ?_
          rintro r w7 ⟨v7, rfl, hv7, hb7⟩
          have hP7 := FV.below stays_R hP6 hb7
          have hQ7 := FV.lo stays_R hv7
          have hB8 := hB7.trans (hb7.mono hB7.size)
          clear hF6 hb7 hB7 hv7 hP6
          go_wp2_with fail
          refine (same_any f f _ _ _ hP7 hQ7 hs40).mono ?_
          rintro r w8 ⟨rfl, hb8⟩
          rw [decide_eq_true rfl]
          have hB9 := hB8.trans (hb8.mono hB8.size)
          clear hP7 hQ7 hb8 hB8
          go_wp2
          go_ret
          exact ⟨rfl, hB9⟩
        · have hd6 : decide ((xs.length : Int) < 6) = false := decide_eq_false (by omega)
          rw [decide_eq_false h6] at hok
          have HOK : Hid (¬ f.ok = true) := Lib.hid (by rw [hok]; decide)
          have HOKF := Lib.hid hok
          clear hok h6 hfit
          go_wp2_with fail
          refine (HC.out.put f _ _ hF hs40).mono ?_
          rintro r w3 ⟨v3, rfl, hv3, hb3⟩
          rw [if_neg HOK.out] at hv3
          rw [if_neg HOK.out]
          obtain ⟨d3, -, -, hr3⟩ := hv3.rd (by simp)
          obtain ⟨A3, c3, he3, -⟩ := hr3
          have he3' : v3 = .slice A3 0 c3 := he3
          subst he3'
          have hF3 := FV.below stays_I hF hb3
          have hB4 := hB3.trans (hb3.mono hB3.size)
          clear hF hb3 hB3 hv3 he3
          go_wp2_with fail
          refine (HC.out.check f _ _ hF3 hs40).mono ?_
          rintro r w4 ⟨rfl, hb4⟩
          rw [HOKF.out]
          have hB5 := hB4.trans (hb4.mono hB4.size)
          clear hF3 hb4 hB4
          go_wp2
          go_ret
          exact ⟨rfl, hB5⟩

end Go.Proofs.Ytdpaijechogmlaa
