/-
  SpecOwn where what was told has kids, if package spec answers as it is to and the law is awake. Written by wip/tools/mk07own.py.
-/
import Derived.Test.YtkpbjgjflabloaaLaw07G
import Derived.Test.YtkpbjgjflabloaaLaw07H
namespace Go.Proofs.Ytkpbjgjflabloaa
open Go.RowKit
set_option linter.unusedSimpArgs false
set_option linter.unusedVariables false

/-- A block of so many cells at least, that may be written. -/
def Wide (w : World) (g n : Nat) : Prop := ∃ cur t, Blk w g t cur ∧ n ≤ cur.size
theorem Wide.lt {w : World} {g n : Nat} (h : Wide w g n) : g < w.heap.size := by
  obtain ⟨cur, t, h, _⟩ := h
  exact h.lt
theorem Wide.below {w w' : World} {g n : Nat} (h : Wide w g n) (hb : Below w.heap.size w w') : Wide w' g n := by
  obtain ⟨cur, t, h1, h2⟩ := h
  exact ⟨cur, t, h1.below hb h1.lt, h2⟩
theorem Wide.cell {w : World} {g n : Nat} (h : Wide w g n) {j : Nat} (hj : j < n) : (∃ u, w.cell? ⟨g, j, none⟩ = some u) ∧ w.frozen? ⟨g, j, none⟩ = false := by
  obtain ⟨cur, t, h1, h2⟩ := h
  exact ⟨⟨_, (h1.cell j).trans (Array.getElem?_eq_getElem (by omega))⟩, h1.frozen _⟩
theorem Wide.set_ {w : World} {g n : Nat} (h : Wide w g n) (i : Nat) (u : Value) : Wide (w.setCell ⟨g, i, none⟩ u) g n := by
  obtain ⟨cur, t, h1, h2⟩ := h
  exact ⟨_, t, h1.set_ i u, by simpa using h2⟩
theorem SpP.kids {nm : List UInt8} {kd ty lo hi : Nat} {mu : Bool} {mo : Nat} {f : SpF} {KK : Nat} (hK : f.len = KK) (h0 : 0 < KK) {w : World} {r : Ending} {w' : World} (h : SpP ((⟨nm, kd, ty, lo, hi, [], mu, mo⟩, f), 0) w r w') :
    ∃ B m b o c S N, r = .returned (.tuple #[.agg (flC nm kd ty lo hi B 0 m mu mo (some ⟨b, o, none⟩) KK c).toArray, .int .i64 0]) ∧ SpN w' S N (flC nm kd ty lo hi B 0 m mu mo (some ⟨b, o, none⟩) KK c) (⟨nm, kd, ty, lo, hi, [], mu, mo⟩, f) ∧ (∀ g, S g → g < w'.heap.size) ∧ (∀ g, N g → g < w'.heap.size ∧ g ≠ b) ∧ Below w.heap.size w w' ∧ w.heap.size ≤ b ∧ Wide w' b (o + KK * 9) ∧
      (∀ i y, f.get? i = some y → w'.cell? ⟨b, o + i * 9, none⟩ = some (.string (txt y.1.name))) := by
  obtain ⟨cs, rfl, ⟨S, N, hS, hN, hx⟩, hb⟩ := h
  obtain ⟨B, m, A, c, d, rfl, hv, hd, hk⟩ := hx.shape
  subst hK
  have hall : ∀ i y, f.get? i = some y → ∃ b o c', A = some ⟨b, o, none⟩ ∧ S b ∧ (∃ u, w'.cell? ⟨b, o + i * 9 + 8, none⟩ = some u) ∧ w'.cell? ⟨b, o + i * 9, none⟩ = some (.string (txt y.1.name)) := fun i y hy => by
    obtain ⟨b, o, c', cs', e, _, hSb, hF, hcl⟩ := hk.at (a := y.1) (k := y.2) hy
    injection e with e1 e2 e3
    obtain ⟨B', m', A', c'', d', rfl, _⟩ := SpN.shape (x := y) hF
    exact ⟨b, o, c', e1, hSb, ⟨_, hcl 8 _ rfl⟩, hcl 0 _ rfl⟩
  obtain ⟨a0, k0, g0⟩ := Fr.get_some (f := f) (n := f.len - 1) (by omega)
  obtain ⟨b, o, c', rfl, hSb, ⟨u, hu⟩, _⟩ := hall _ _ g0
  obtain ⟨f0, cur, t, hblk⟩ := hS b hSb
  refine ⟨B, m, b, o, c, S, N, rfl, hx, fun g hg => (hS g hg).lt, fun g hg => ⟨(hN g hg).1.lt, fun e => (hN g hg).2 (e ▸ hSb)⟩, hb, f0, ⟨cur, t, hblk, ?_⟩, fun i y hy => ?_⟩
  · rw [Blk.cell (show Blk w' b t cur from hblk)] at hu
    have := (Array.getElem?_eq_some_iff.1 hu).1
    omega
  · obtain ⟨b', o', c'', e, _, _, hc⟩ := hall i y hy
    injection e with e
    injection e with e1 e2
    subst e1 e2
    exact hc
set_option maxRecDepth 100000 in
set_option maxHeartbeats 8000000 in
theorem specOwn_kids (v : Int) (hv0 : -9223372036854775808 ≤ v) (hv1 : v ≤ 9223372036854775807) (l : List (List UInt8)) (An : Option Addr) (cn L d : Nat) (w : World) (hn : Vals w d (.slice An l.length cn) (txts l)) (hL : L = l.length) (hc : L ≤ 20) (nm : List UInt8) (kd ty lo hi : Nat) (mu : Bool) (mo : Nat) (f : SpF) (KK : Nat) (hK : f.len = KK) (h0 : 0 < KK) (hkd : kd ≠ 1) (hap : ∀ i j x y, i < j → f.get? i = some x → f.get? j = some y → x.1.name ≠ y.1.name) (hX : atX v l = ((⟨nm, kd, ty, lo, hi, [], mu, mo⟩, f), 0)) (C : SpcC w) (HA : Awake7 w) :
    Calls Try.prog 6 #[.int .i64 v, .slice An L cn] w fun e w' => e = .returned (.bool true) ∧ Below w.heap.size w w' := by
  have HAW := Lib.hid (HA w (Below.refl _ _))
  have i0 : ¬ (20 : Int) < (L : Int) := by omega
  have M := Lib.hid (fun (W : World) (h : Below w.heap.size w W) => show Calls Try.prog 10 #[.int .i64 v, .slice An L cn] W (SpP ((⟨nm, kd, ty, lo, hi, [], mu, mo⟩, f), 0) W) from by
      rw [hL]
      have h3 := C.at_ v l d _ W hv0 hv1 (by omega) (hn.kept_ h) h
      rw [hX] at h3
      exact h3)
  have FX : Hid (Few (⟨nm, kd, ty, lo, hi, [], mu, mo⟩, f)) := Lib.hid (by have h := few_at v l; rw [hX] at h; exact h)
  have HKL := Lib.hid hK
  have HK0 := Lib.hid h0
  have HAP := Lib.hid hap
  have K7 : KK ≤ 7 := by have := FX.out.2.2.1; rw [← hK]; exact this
  have k1 : ((kd : Int) == 1) = false := beq_eq_false_iff_ne.2 (by omega)
  have k0 : ((KK : Int) == 0) = false := beq_eq_false_iff_ne.2 (by omega)
  have HKK := Lib.hid (And.intro k1 k0)
  clear HA C hn hL hX hc hv0 hv1 hK h0 hkd hap k1 k0
  go_enter Try.func6, Try.ntmps6
  go_wp2_with fail
  refine HAW.out.mono ?_
  rintro r w1 ⟨rfl, hB1⟩
  have H1 := Lib.hid hB1
  clear hB1
  go_wp2_with fail
  refine (M.out _ H1.out).mono ?_
  intro r w2 hr
  obtain ⟨B2, m2, b, o, c2, S, N, rfl, hsp, hS, hN, hb, hg, hwd, hcl⟩ := SpP.kids HKL.out HK0.out hr
  have hk : Below w2.heap.size w2 (w2.alloc (.cells #[.string (txt nm), .int .i64 (kd : Int), .int .i64 (ty : Int), .int .u64 (lo : Int), .int .u64 (hi : Int), .slice B2 0 m2, .bool mu, .int .i64 (mo : Int), .slice (some ⟨b, o, none⟩) KK c2] 27)) := (Below.refl _ _).alloc (Nat.le_refl _) _
  have G2 : Hid (w.heap.size ≤ b) := Lib.hid (Nat.le_trans H1.out.size hg)
  have G3 : Hid (b < w2.heap.size) := Lib.hid hwd.lt
  have H3 : Hid (Below w.heap.size w (w2.alloc (.cells #[.string (txt nm), .int .i64 (kd : Int), .int .i64 (ty : Int), .int .u64 (lo : Int), .int .u64 (hi : Int), .slice B2 0 m2, .bool mu, .int .i64 (mo : Int), .slice (some ⟨b, o, none⟩) KK c2] 27))) := Lib.hid ((H1.out.trans (hb.mono H1.out.size)).trans (hk.mono (H1.out.trans (hb.mono H1.out.size)).size))
  have T3 : Hid (Wide (w2.alloc (.cells #[.string (txt nm), .int .i64 (kd : Int), .int .i64 (ty : Int), .int .u64 (lo : Int), .int .u64 (hi : Int), .slice B2 0 m2, .bool mu, .int .i64 (mo : Int), .slice (some ⟨b, o, none⟩) KK c2] 27)) b (o + KK * 9)) := Lib.hid (hwd.below hk)
  have L3 : Hid (SpN (w2.alloc (.cells #[.string (txt nm), .int .i64 (kd : Int), .int .i64 (ty : Int), .int .u64 (lo : Int), .int .u64 (hi : Int), .slice B2 0 m2, .bool mu, .int .i64 (mo : Int), .slice (some ⟨b, o, none⟩) KK c2] 27)) S N [.string (txt nm), .int .i64 (kd : Int), .int .i64 (ty : Int), .int .u64 (lo : Int), .int .u64 (hi : Int), .slice B2 0 m2, .bool mu, .int .i64 (mo : Int), .slice (some ⟨b, o, none⟩) KK c2] (⟨nm, kd, ty, lo, hi, [], mu, mo⟩, f)) := Lib.hid (hsp.under hk hS (fun g hg => (hN g hg).1))
  have X3 : Hid (Blk (w2.alloc (.cells #[.string (txt nm), .int .i64 (kd : Int), .int .i64 (ty : Int), .int .u64 (lo : Int), .int .u64 (hi : Int), .slice B2 0 m2, .bool mu, .int .i64 (mo : Int), .slice (some ⟨b, o, none⟩) KK c2] 27)) w2.heap.size 27 #[.string (txt nm), .int .i64 (kd : Int), .int .i64 (ty : Int), .int .u64 (lo : Int), .int .u64 (hi : Int), .slice B2 0 m2, .bool mu, .int .i64 (mo : Int), .slice (some ⟨b, o, none⟩) KK c2]) := Lib.hid (Blk.new _ _ _)
  have C3 : Hid (∀ wr, Below (w2.alloc (.cells #[.string (txt nm), .int .i64 (kd : Int), .int .i64 (ty : Int), .int .u64 (lo : Int), .int .u64 (hi : Int), .slice B2 0 m2, .bool mu, .int .i64 (mo : Int), .slice (some ⟨b, o, none⟩) KK c2] 27)).heap.size (w2.alloc (.cells #[.string (txt nm), .int .i64 (kd : Int), .int .i64 (ty : Int), .int .u64 (lo : Int), .int .u64 (hi : Int), .slice B2 0 m2, .bool mu, .int .i64 (mo : Int), .slice (some ⟨b, o, none⟩) KK c2] 27)) wr → ∀ i y, f.get? i = some y → wr.cell? ⟨b, o + i * 9, none⟩ = some (.string (txt y.1.name))) := Lib.hid (fun wr hw i y hy => (hw.cell (p := ⟨b, o + i * 9, none⟩) (Nat.lt_of_lt_of_le hwd.lt hk.size)).trans ((hk.cell (p := ⟨b, o + i * 9, none⟩) hwd.lt).trans (hcl i y hy)))
  have S3 : Hid (∀ g, S g → g < (w2.alloc (.cells #[.string (txt nm), .int .i64 (kd : Int), .int .i64 (ty : Int), .int .u64 (lo : Int), .int .u64 (hi : Int), .slice B2 0 m2, .bool mu, .int .i64 (mo : Int), .slice (some ⟨b, o, none⟩) KK c2] 27)).heap.size) := Lib.hid (fun g hg => Nat.lt_of_lt_of_le (hS g hg) hk.size)
  have N3 : Hid (∀ g, N g → g < (w2.alloc (.cells #[.string (txt nm), .int .i64 (kd : Int), .int .i64 (ty : Int), .int .u64 (lo : Int), .int .u64 (hi : Int), .slice B2 0 m2, .bool mu, .int .i64 (mo : Int), .slice (some ⟨b, o, none⟩) KK c2] 27)).heap.size ∧ g ≠ b) := Lib.hid (fun g hg => ⟨Nat.lt_of_lt_of_le (hN g hg).1 hk.size, (hN g hg).2⟩)
  clear hr hsp hS hN hb hg hwd hcl hk
  go_wp2
  go_loopw [8] (fun i wr => ∃ j : Nat, j ≤ KK ∧ i = .int .i64 (j : Int) ∧ Hid (Below (w2.alloc (.cells #[.string (txt nm), .int .i64 (kd : Int), .int .i64 (ty : Int), .int .u64 (lo : Int), .int .u64 (hi : Int), .slice B2 0 m2, .bool mu, .int .i64 (mo : Int), .slice (some ⟨b, o, none⟩) KK c2] 27)).heap.size (w2.alloc (.cells #[.string (txt nm), .int .i64 (kd : Int), .int .i64 (ty : Int), .int .u64 (lo : Int), .int .u64 (hi : Int), .slice B2 0 m2, .bool mu, .int .i64 (mo : Int), .slice (some ⟨b, o, none⟩) KK c2] 27)) wr)) (fun i _ => KK - (intOf i).toNat)
  case atStart => exact ⟨0, by omega, rfl, Lib.hid (Below.refl _ _)⟩
  case round =>
    obtain ⟨j, hj, rfl, HW⟩ := hrel
    have XR : Hid (Blk wr w2.heap.size 27 #[.string (txt nm), .int .i64 (kd : Int), .int .i64 (ty : Int), .int .u64 (lo : Int), .int .u64 (hi : Int), .slice B2 0 m2, .bool mu, .int .i64 (mo : Int), .slice (some ⟨b, o, none⟩) KK c2]) := Lib.hid (X3.out.below HW.out X3.out.lt)
    have q8 : wr.cell? ⟨w2.heap.size, 8, none⟩ = some (.slice (some ⟨b, o, none⟩) KK c2) := (XR.out.cell 8).trans rfl
    by_cases hlt : j < KK
    · have i1 : (0 : Int) ≤ (j : Int) := by omega
      have i2 : (j : Int) < (KK : Int) := by omega
      obtain ⟨wo, hwo⟩ : ∃ wo, wo = wr := ⟨_, rfl⟩
      subst hwo
      go_wp2
      go_loopw [9] (fun i wr => ∃ k : Nat, k ≤ j ∧ i = .int .i64 (k : Int) ∧ Hid (Below (w2.alloc (.cells #[.string (txt nm), .int .i64 (kd : Int), .int .i64 (ty : Int), .int .u64 (lo : Int), .int .u64 (hi : Int), .slice B2 0 m2, .bool mu, .int .i64 (mo : Int), .slice (some ⟨b, o, none⟩) KK c2] 27)).heap.size (w2.alloc (.cells #[.string (txt nm), .int .i64 (kd : Int), .int .i64 (ty : Int), .int .u64 (lo : Int), .int .u64 (hi : Int), .slice B2 0 m2, .bool mu, .int .i64 (mo : Int), .slice (some ⟨b, o, none⟩) KK c2] 27)) wr)) (fun i _ => j - (intOf i).toNat)
      case atStart => exact ⟨0, by omega, rfl, HW⟩
      case round =>
        obtain ⟨k, hk, rfl, HV⟩ := hrel
        clear q8 XR
        by_cases hkj : k < j
        · have HVD : Hid (Below (w2.alloc (.cells #[.string (txt nm), .int .i64 (kd : Int), .int .i64 (ty : Int), .int .u64 (lo : Int), .int .u64 (hi : Int), .slice B2 0 m2, .bool mu, .int .i64 (mo : Int), .slice (some ⟨b, o, none⟩) KK c2] 27)).heap.size (w2.alloc (.cells #[.string (txt nm), .int .i64 (kd : Int), .int .i64 (ty : Int), .int .u64 (lo : Int), .int .u64 (hi : Int), .slice B2 0 m2, .bool mu, .int .i64 (mo : Int), .slice (some ⟨b, o, none⟩) KK c2] 27)) wr.drew) := Lib.hid HV.out.drew
          obtain ⟨a1, f1, g1⟩ := Fr.get_some (f := f) (n := j) (by rw [HKL.out]; exact hlt)
          obtain ⟨a2, f2, g2⟩ := Fr.get_some (f := f) (n := k) (by rw [HKL.out]; omega)
          have XD : Hid (Blk wr.drew w2.heap.size 27 #[.string (txt nm), .int .i64 (kd : Int), .int .i64 (ty : Int), .int .u64 (lo : Int), .int .u64 (hi : Int), .slice B2 0 m2, .bool mu, .int .i64 (mo : Int), .slice (some ⟨b, o, none⟩) KK c2] ∧ wr.drew.cell? ⟨b, o + j * 9, none⟩ = some (.string (txt a1.name)) ∧ wr.drew.cell? ⟨b, o + k * 9, none⟩ = some (.string (txt a2.name))) := Lib.hid ⟨X3.out.below HVD.out X3.out.lt, C3.out _ HVD.out _ _ g1, C3.out _ HVD.out _ _ g2⟩
          have hne : (a1.name == a2.name) = false := beq_eq_false_iff_ne.2 (fun e => HAP.out k j (a2, f2) (a1, f1) hkj g2 g1 e.symm)
          have t1 : (txt a1.name).toList = a1.name := txt_toList _
          have t2 : (txt a2.name).toList = a2.name := txt_toList _
          have k1 : (0 : Int) ≤ (k : Int) := by omega
          have k2 : (k : Int) < (j : Int) := by omega
          have k3 : (k : Int) < (KK : Int) := by omega
          clear g1 g2
          go_wp2_with fail
          refine wp_region_noPanic ?_
          refine wp_region_held_drew (S := fun _ => True) (by kernel_rfl) trivial (fun hS => ?_)
          refine wpAnyH_take (i := 0) (oi := ?o1_0_1) (v := ?v1_0_1) ?i1_0_1 (by kernel_rfl) (by kernel_rfl) (by kernel_rfl) (fun _ _ _ h => h) (Or.inl ⟨?g1_0_1, ?y1_0_1⟩) hS ?_
          case i1_0_1 => simp only [List.getElem?_toArray, List.getElem?_cons_succ, List.getElem?_cons_zero]; rfl
          case g1_0_1 => rfl
          case y1_0_1 => (intro w hSw; (go_simp <;> with_reducible rfl))
          (try simp only [Act.put, List.setIfInBounds_toArray, List.set_cons_zero, List.set_cons_succ])
          refine held_more (S' := fun w' => Blk w' w2.heap.size 27 #[.string (txt nm), .int .i64 (kd : Int), .int .i64 (ty : Int), .int .u64 (lo : Int), .int .u64 (hi : Int), .slice B2 0 m2, .bool mu, .int .i64 (mo : Int), .slice (some ⟨b, o, none⟩) KK c2] ∧ w'.cell? ⟨b, o + j * 9, none⟩ = some (.string (txt a1.name)) ∧ w'.cell? ⟨b, o + k * 9, none⟩ = some (.string (txt a2.name))) (fun _ _ => trivial) _ _ _ _ ?_
          replace hS := XD.out
          refine wpAnyH_take (i := 1) (oi := ?o1_1_2) (v := ?v1_1_2) ?i1_1_2 (by kernel_rfl) (by kernel_rfl) (by kernel_rfl) (fun _ _ _ h => h) (Or.inl ⟨?g1_1_2, ?y1_1_2⟩) hS ?_
          case i1_1_2 => simp only [List.getElem?_toArray, List.getElem?_cons_succ, List.getElem?_cons_zero]; rfl
          case g1_1_2 => rfl
          case y1_1_2 => (intro w hSw; have hc := (hSw.1.cell 8).trans rfl; (go_simp <;> with_reducible rfl))
          (try simp only [Act.put, List.setIfInBounds_toArray, List.set_cons_zero, List.set_cons_succ])
          refine wpAnyH_take (i := 2) (oi := ?o1_2_3) (v := ?v1_2_3) ?i1_2_3 (by kernel_rfl) (by kernel_rfl) (by kernel_rfl) (fun _ _ _ h => h) (Or.inl ⟨?g1_2_3, ?y1_2_3⟩) hS ?_
          case i1_2_3 => simp only [List.getElem?_toArray, List.getElem?_cons_succ, List.getElem?_cons_zero]; rfl
          case g1_2_3 => rfl
          case y1_2_3 => (intro w hSw; (go_simp <;> with_reducible rfl))
          (try simp only [Act.put, List.setIfInBounds_toArray, List.set_cons_zero, List.set_cons_succ])
          refine wpAnyH_take (i := 3) (oi := ?o1_3_4) (v := ?v1_3_4) ?i1_3_4 (by kernel_rfl) (by kernel_rfl) (by kernel_rfl) (fun _ _ _ h => h) (Or.inl ⟨?g1_3_4, ?y1_3_4⟩) hS ?_
          case i1_3_4 => simp only [List.getElem?_toArray, List.getElem?_cons_succ, List.getElem?_cons_zero]; rfl
          case g1_3_4 => rfl
          case y1_3_4 => (intro w hSw; (go_simp <;> with_reducible rfl))
          (try simp only [Act.put, List.setIfInBounds_toArray, List.set_cons_zero, List.set_cons_succ])
          refine wpAnyH_take (i := 4) (oi := ?o1_4_5) (v := ?v1_4_5) ?i1_4_5 (by kernel_rfl) (by kernel_rfl) (by kernel_rfl) (fun _ _ _ h => h) (Or.inl ⟨?g1_4_5, ?y1_4_5⟩) hS ?_
          case i1_4_5 => simp only [List.getElem?_toArray, List.getElem?_cons_succ, List.getElem?_cons_zero]; rfl
          case g1_4_5 => rfl
          case y1_4_5 => (intro w hSw; (go_simp <;> with_reducible rfl))
          (try simp only [Act.put, List.setIfInBounds_toArray, List.set_cons_zero, List.set_cons_succ])
          refine wpAnyH_take (i := 5) (oi := ?o1_5_6) (v := ?v1_5_6) ?i1_5_6 (by kernel_rfl) (by kernel_rfl) (by kernel_rfl) (fun _ _ _ h => h) (Or.inl ⟨?g1_5_6, ?y1_5_6⟩) hS ?_
          case i1_5_6 => simp only [List.getElem?_toArray, List.getElem?_cons_succ, List.getElem?_cons_zero]; rfl
          case g1_5_6 => rfl
          case y1_5_6 => (intro w hSw; have hc := hSw.2.1; (go_simp <;> with_reducible rfl))
          (try simp only [Act.put, List.setIfInBounds_toArray, List.set_cons_zero, List.set_cons_succ])
          refine wpAnyH_take (i := 6) (oi := ?o1_6_7) (v := ?v1_6_7) ?i1_6_7 (by kernel_rfl) (by kernel_rfl) (by kernel_rfl) (fun _ _ _ h => h) (Or.inl ⟨?g1_6_7, ?y1_6_7⟩) hS ?_
          case i1_6_7 => simp only [List.getElem?_toArray, List.getElem?_cons_succ, List.getElem?_cons_zero]; rfl
          case g1_6_7 => rfl
          case y1_6_7 => (intro w hSw; (go_simp <;> with_reducible rfl))
          (try simp only [Act.put, List.setIfInBounds_toArray, List.set_cons_zero, List.set_cons_succ])
          refine wpAnyH_take (i := 7) (oi := ?o1_7_8) (v := ?v1_7_8) ?i1_7_8 (by kernel_rfl) (by kernel_rfl) (by kernel_rfl) (fun _ _ _ h => h) (Or.inl ⟨?g1_7_8, ?y1_7_8⟩) hS ?_
          case i1_7_8 => simp only [List.getElem?_toArray, List.getElem?_cons_succ, List.getElem?_cons_zero]; rfl
          case g1_7_8 => rfl
          case y1_7_8 => (intro w hSw; have hc := (hSw.1.cell 8).trans rfl; (go_simp <;> with_reducible rfl))
          (try simp only [Act.put, List.setIfInBounds_toArray, List.set_cons_zero, List.set_cons_succ])
          refine wpAnyH_take (i := 8) (oi := ?o1_8_9) (v := ?v1_8_9) ?i1_8_9 (by kernel_rfl) (by kernel_rfl) (by kernel_rfl) (fun _ _ _ h => h) (Or.inl ⟨?g1_8_9, ?y1_8_9⟩) hS ?_
          case i1_8_9 => simp only [List.getElem?_toArray, List.getElem?_cons_succ, List.getElem?_cons_zero]; rfl
          case g1_8_9 => rfl
          case y1_8_9 => (intro w hSw; (go_simp <;> with_reducible rfl))
          (try simp only [Act.put, List.setIfInBounds_toArray, List.set_cons_zero, List.set_cons_succ])
          refine wpAnyH_take (i := 9) (oi := ?o1_9_10) (v := ?v1_9_10) ?i1_9_10 (by kernel_rfl) (by kernel_rfl) (by kernel_rfl) (fun _ _ _ h => h) (Or.inl ⟨?g1_9_10, ?y1_9_10⟩) hS ?_
          case i1_9_10 => simp only [List.getElem?_toArray, List.getElem?_cons_succ, List.getElem?_cons_zero]; rfl
          case g1_9_10 => rfl
          case y1_9_10 => (intro w hSw; (go_simp <;> with_reducible rfl))
          (try simp only [Act.put, List.setIfInBounds_toArray, List.set_cons_zero, List.set_cons_succ])
          refine wpAnyH_take (i := 10) (oi := ?o1_10_11) (v := ?v1_10_11) ?i1_10_11 (by kernel_rfl) (by kernel_rfl) (by kernel_rfl) (fun _ _ _ h => h) (Or.inl ⟨?g1_10_11, ?y1_10_11⟩) hS ?_
          case i1_10_11 => simp only [List.getElem?_toArray, List.getElem?_cons_succ, List.getElem?_cons_zero]; rfl
          case g1_10_11 => rfl
          case y1_10_11 => (intro w hSw; (go_simp <;> with_reducible rfl))
          (try simp only [Act.put, List.setIfInBounds_toArray, List.set_cons_zero, List.set_cons_succ])
          refine wpAnyH_take (i := 11) (oi := ?o1_11_12) (v := ?v1_11_12) ?i1_11_12 (by kernel_rfl) (by kernel_rfl) (by kernel_rfl) (fun _ _ _ h => h) (Or.inl ⟨?g1_11_12, ?y1_11_12⟩) hS ?_
          case i1_11_12 => simp only [List.getElem?_toArray, List.getElem?_cons_succ, List.getElem?_cons_zero]; rfl
          case g1_11_12 => rfl
          case y1_11_12 => (intro w hSw; have hc := hSw.2.2; (go_simp <;> with_reducible rfl))
          (try simp only [Act.put, List.setIfInBounds_toArray, List.set_cons_zero, List.set_cons_succ])
          refine wpAnyH_take (i := 12) (oi := ?o1_12_13) (v := ?v1_12_13) ?i1_12_13 (by kernel_rfl) (by kernel_rfl) (by kernel_rfl) (fun _ _ _ h => h) (Or.inl ⟨?g1_12_13, ?y1_12_13⟩) hS ?_
          case i1_12_13 => simp only [List.getElem?_toArray, List.getElem?_cons_succ, List.getElem?_cons_zero]; rfl
          case g1_12_13 => rfl
          case y1_12_13 => (intro w hSw; (go_simp <;> with_reducible rfl))
          (try simp only [Act.put, List.setIfInBounds_toArray, List.set_cons_zero, List.set_cons_succ])
          refine wpAnyH_done (by kernel_rfl) ?_ _
          refine NoPanic.normal ?_
          clear hS XD
          go_wp2
          go_roundw
          case rel => exact ⟨k + 1, by omega, by go_num, HVD⟩
          case measure => simp [intOf]; omega
        · have k2 : ¬ (k : Int) < (j : Int) := by omega
          go_wp2
          go_roundw
          case rel => exact ⟨j + 1, by omega, by go_num, HV⟩
          case measure => simp [intOf]; omega
    · have i2 : ¬ (j : Int) < (KK : Int) := by omega
      have LR : Hid (SpN wr S N [.string (txt nm), .int .i64 (kd : Int), .int .i64 (ty : Int), .int .u64 (lo : Int), .int .u64 (hi : Int), .slice B2 0 m2, .bool mu, .int .i64 (mo : Int), .slice (some ⟨b, o, none⟩) KK c2] (⟨nm, kd, ty, lo, hi, [], mu, mo⟩, f)) := Lib.hid (L3.out.under HW.out S3.out (fun g hg => (N3.out g hg).1))
      have SZ : Hid ((w2.alloc (.cells #[.string (txt nm), .int .i64 (kd : Int), .int .i64 (ty : Int), .int .u64 (lo : Int), .int .u64 (hi : Int), .slice B2 0 m2, .bool mu, .int .i64 (mo : Int), .slice (some ⟨b, o, none⟩) KK c2] 27)).heap.size ≤ wr.heap.size) := Lib.hid HW.out.size
      have HP := Lib.hid (splain_any f ⟨nm, kd, ty, lo, hi, [], mu, mo⟩ _ wr S N LR.out (fun g hg => Nat.lt_of_lt_of_le (S3.out g hg) SZ.out) (fun g hg => Nat.lt_of_lt_of_le (N3.out g hg).1 SZ.out) (Nat.le_trans FX.out.1 (by omega)))
      have HR : Hid (Below w.heap.size w wr) := Lib.hid (H3.out.trans (HW.out.mono H3.out.size))
      have TR : Hid (Wide wr b (o + KK * 9)) := Lib.hid (T3.out.below HW.out)
      have NR : Hid (∀ g, N g → g < wr.heap.size ∧ g ≠ b) := Lib.hid (fun g hg => ⟨Nat.lt_of_lt_of_le (N3.out g hg).1 SZ.out, (N3.out g hg).2⟩)
  
      have q0 := (XR.out.cell 0).trans rfl
      have q1 := (XR.out.cell 1).trans rfl
      have q2 := (XR.out.cell 2).trans rfl
      have q3 := (XR.out.cell 3).trans rfl
      have q4 := (XR.out.cell 4).trans rfl
      have q5 := (XR.out.cell 5).trans rfl
      have q6 := (XR.out.cell 6).trans rfl
      have q7 := (XR.out.cell 7).trans rfl
      clear HW C3 S3 N3 X3 L3 H3 T3 LR SZ
      go_wp2_with fail
      refine HP.out.mono ?_
      intro r w4 hr
      obtain ⟨cs4, rfl, hl, hb⟩ := hr
      obtain ⟨B4, m4, A4, c4, d4, rfl, -, -, -⟩ := hl.shape
      have hkk : f.len = KK := HKL.out
      simp only [hkk, List.length_nil] at hl ⊢
      clear hkk
      have hk : Below wr.heap.size wr (w4.alloc (.cells #[.string (txt nm), .int .i64 (kd : Int), .int .i64 (ty : Int), .int .u64 (lo : Int), .int .u64 (hi : Int), .slice B4 0 m4, .bool mu, .int .i64 (mo : Int), .slice A4 KK c4] 33)) := hb.alloc hb.size _
      have H5 : Hid (Below w.heap.size w (w4.alloc (.cells #[.string (txt nm), .int .i64 (kd : Int), .int .i64 (ty : Int), .int .u64 (lo : Int), .int .u64 (hi : Int), .slice B4 0 m4, .bool mu, .int .i64 (mo : Int), .slice A4 KK c4] 33))) := Lib.hid (HR.out.trans (hk.mono HR.out.size))
      have X5 := Lib.hid (XR.out.below hk XR.out.lt)
      have T5 := Lib.hid (TR.out.below hk)
      have G4 : Hid (b < w4.heap.size) := Lib.hid (Nat.lt_of_lt_of_le TR.out.lt hb.size)
      have Y5 : Hid (Blk (w4.alloc (.cells #[.string (txt nm), .int .i64 (kd : Int), .int .i64 (ty : Int), .int .u64 (lo : Int), .int .u64 (hi : Int), .slice B4 0 m4, .bool mu, .int .i64 (mo : Int), .slice A4 KK c4] 33)) w4.heap.size 33 #[.string (txt nm), .int .i64 (kd : Int), .int .i64 (ty : Int), .int .u64 (lo : Int), .int .u64 (hi : Int), .slice B4 0 m4, .bool mu, .int .i64 (mo : Int), .slice A4 KK c4]) := Lib.hid (Blk.new _ _ _)
      have hm : SpN w4 (fun g => g ≠ b ∧ g < w4.heap.size) (fun g => g ≠ b ∧ g < w4.heap.size) [.string (txt nm), .int .i64 (kd : Int), .int .i64 (ty : Int), .int .u64 (lo : Int), .int .u64 (hi : Int), .slice B4 0 m4, .bool mu, .int .i64 (mo : Int), .slice A4 KK c4] (⟨nm, kd, ty, lo, hi, [], mu, mo⟩, f) := hl.mono stay_spc (fun g hg => ⟨fun e => by have := hg.1; have := TR.out.lt; omega, hg.2⟩) (fun g hg => ⟨(NR.out g hg).2, Nat.lt_of_lt_of_le (NR.out g hg).1 hb.size⟩)
      have L5 : Hid (SpN (w4.alloc (.cells #[.string (txt nm), .int .i64 (kd : Int), .int .i64 (ty : Int), .int .u64 (lo : Int), .int .u64 (hi : Int), .slice B4 0 m4, .bool mu, .int .i64 (mo : Int), .slice A4 KK c4] 33)) (fun g => g ≠ b ∧ g < w4.heap.size) (fun g => g ≠ b ∧ g < w4.heap.size) [.string (txt nm), .int .i64 (kd : Int), .int .i64 (ty : Int), .int .u64 (lo : Int), .int .u64 (hi : Int), .slice B4 0 m4, .bool mu, .int .i64 (mo : Int), .slice A4 KK c4] (⟨nm, kd, ty, lo, hi, [], mu, mo⟩, f)) := Lib.hid (SpN.under hm ((Below.refl _ _).alloc (Nat.le_refl _) _) (fun g hg => hg.2) (fun g hg => hg.2))
      clear hm
      clear hl hb hk q0 q1 q2 q3 q4 q5 q6 q7 q8 XR HR TR NR HP
      go_wp2
      go_loopw [11] (fun i wr => ∃ j : Nat, j ≤ KK ∧ i = .int .i64 (j : Int) ∧ Hid (Blk wr w2.heap.size 27 #[.string (txt nm), .int .i64 (kd : Int), .int .i64 (ty : Int), .int .u64 (lo : Int), .int .u64 (hi : Int), .slice B2 0 m2, .bool mu, .int .i64 (mo : Int), .slice (some ⟨b, o, none⟩) KK c2]) ∧ Hid (Blk wr w4.heap.size 33 #[.string (txt nm), .int .i64 (kd : Int), .int .i64 (ty : Int), .int .u64 (lo : Int), .int .u64 (hi : Int), .slice B4 0 m4, .bool mu, .int .i64 (mo : Int), .slice A4 KK c4]) ∧ Hid (Below w.heap.size w wr) ∧ Hid (Wide wr b (o + KK * 9)) ∧
        Hid (SpN wr (fun g => g ≠ b ∧ g < w4.heap.size) (fun g => g ≠ b ∧ g < w4.heap.size) [.string (txt nm), .int .i64 (kd : Int), .int .i64 (ty : Int), .int .u64 (lo : Int), .int .u64 (hi : Int), .slice B4 0 m4, .bool mu, .int .i64 (mo : Int), .slice A4 KK c4] (⟨nm, kd, ty, lo, hi, [], mu, mo⟩, f)) ∧ Hid (w4.heap.size ≤ wr.heap.size)) (fun i _ => KK - (intOf i).toNat)
      case atStart => exact ⟨0, by omega, rfl, X5, Y5, H5, T5, L5, Lib.hid (by simp)⟩
      case round =>
        clear X5 Y5 H5 T5 L5
        obtain ⟨n, hn, rfl, XS, YS, HS, TS5, LS, ZS⟩ := hrel
        have q8 : wr.cell? ⟨w2.heap.size, 8, none⟩ = some (.slice (some ⟨b, o, none⟩) KK c2) := (XS.out.cell 8).trans rfl
        by_cases hn2 : n < KK
        · obtain ⟨⟨u0, hu0⟩, hf0⟩ := TS5.out.cell (j := o + n * 9) (by omega)
          obtain ⟨⟨u3, hu3⟩, hf3⟩ := (TS5.out.set_ (o + n * 9) (.string ⟨#[120]⟩)).cell (j := o + n * 9 + 3) (by omega)
          have i1 : (0 : Int) ≤ (n : Int) := by omega
          have i3 : (n : Int) < (KK : Int) := by omega
          have q8' : (wr.setCell ⟨b, o + n * 9, none⟩ (.string ⟨#[120]⟩)).cell? ⟨w2.heap.size, 8, none⟩ = some (.slice (some ⟨b, o, none⟩) KK c2) := ((XS.out.far (p := ⟨b, o + n * 9, none⟩) (Nat.ne_of_gt G3.out) (.string ⟨#[120]⟩)).cell 8).trans rfl
          have XE := Veil7.mk ((XS.out.far (p := ⟨b, o + n * 9, none⟩) (Nat.ne_of_gt G3.out) (.string ⟨#[120]⟩)).far (p := ⟨b, o + n * 9 + 3, none⟩) (Nat.ne_of_gt G3.out) (.int .u64 77))
          have YE := Veil7.mk ((YS.out.far (p := ⟨b, o + n * 9, none⟩) (Nat.ne_of_gt G4.out) (.string ⟨#[120]⟩)).far (p := ⟨b, o + n * 9 + 3, none⟩) (Nat.ne_of_gt G4.out) (.int .u64 77))
          have TE := Veil7.mk ((TS5.out.set_ (o + n * 9) (.string ⟨#[120]⟩)).set_ (o + n * 9 + 3) (.int .u64 77))
          have HE := Veil7.mk ((HS.out.setCell (p := ⟨b, o + n * 9, none⟩) G2.out (.string ⟨#[120]⟩)).setCell (p := ⟨b, o + n * 9 + 3, none⟩) G2.out (.int .u64 77))
          have LE := Veil7.mk ((LS.out.apart (w' := wr.setCell ⟨b, o + n * 9, none⟩ (.string ⟨#[120]⟩)) (fun g hg => Below.heap_setCell _ _ _ _ hg.1) (fun g hg => Below.heap_setCell _ _ _ _ hg.1)).apart (w' := (wr.setCell ⟨b, o + n * 9, none⟩ (.string ⟨#[120]⟩)).setCell ⟨b, o + n * 9 + 3, none⟩ (.int .u64 77)) (fun g hg => Below.heap_setCell _ _ _ _ hg.1) (fun g hg => Below.heap_setCell _ _ _ _ hg.1))
          have ZE := Veil7.mk (show w4.heap.size ≤ ((wr.setCell ⟨b, o + n * 9, none⟩ (.string ⟨#[120]⟩)).setCell ⟨b, o + n * 9 + 3, none⟩ (.int .u64 77)).heap.size by have := ZS.out; simpa [World.setCell] using this)
          clear XS YS HS TS5 LS ZS
          go_wp2
          go_roundw
          case rel => exact ⟨n + 1, by omega, by go_num, Lib.hid XE.out, Lib.hid YE.out, Lib.hid HE.out, Lib.hid TE.out, Lib.hid LE.out, Lib.hid ZE.out⟩
          case measure => simp [intOf]; omega
        · have i3 : ¬ (n : Int) < (KK : Int) := by omega
          obtain ⟨wo, hwo⟩ : ∃ wo, wo = wr := ⟨_, rfl⟩
          subst hwo
          have q5 : wo.cell? ⟨w2.heap.size, 5, none⟩ = some (.slice B2 0 m2) := (XS.out.cell 5).trans rfl
          go_wp2
          go_loopw [12] (fun i wr => i = .int .i64 0 ∧ wr = wo) (fun _ _ => 0)
          case atStart => exact ⟨rfl, rfl⟩
          case round =>
            obtain ⟨rfl, rfl⟩ := hrel
            go_wp2_with fail
            refine (M.out _ HS.out).mono ?_
            intro r w6 hr
            have hr2 : LieP ((⟨nm, kd, ty, lo, hi, [], mu, mo⟩, f), 0) _ r w6 := SpP.lie hr
            obtain ⟨B6, m6, A6, c6, rfl, hl, hb⟩ := hr2.flat2 0 rfl 0 rfl KK HKL.out
            have hk : Below wr.heap.size wr (w6.alloc (.cells #[.string (txt nm), .int .i64 (kd : Int), .int .i64 (ty : Int), .int .u64 (lo : Int), .int .u64 (hi : Int), .slice B6 0 m6, .bool mu, .int .i64 (mo : Int), .slice A6 KK c6] 27)) := hb.alloc hb.size _
            have H7 : Hid (Below w.heap.size w (w6.alloc (.cells #[.string (txt nm), .int .i64 (kd : Int), .int .i64 (ty : Int), .int .u64 (lo : Int), .int .u64 (hi : Int), .slice B6 0 m6, .bool mu, .int .i64 (mo : Int), .slice A6 KK c6] 27))) := Lib.hid (HS.out.trans (hk.mono HS.out.size))
            have XA := Lib.hid (XS.out.below hk XS.out.lt)
            have XW := Lib.hid (YS.out.below hk YS.out.lt)
            have LW := Lib.hid (Lies.below ⟨_, _, fun g hg => Nat.lt_of_lt_of_le hg.2 ZS.out, fun g hg => Nat.lt_of_lt_of_le hg.2 ZS.out, LS.out⟩ hk)
            have XB : Hid (Blk (w6.alloc (.cells #[.string (txt nm), .int .i64 (kd : Int), .int .i64 (ty : Int), .int .u64 (lo : Int), .int .u64 (hi : Int), .slice B6 0 m6, .bool mu, .int .i64 (mo : Int), .slice A6 KK c6] 27)) w6.heap.size 27 #[.string (txt nm), .int .i64 (kd : Int), .int .i64 (ty : Int), .int .u64 (lo : Int), .int .u64 (hi : Int), .slice B6 0 m6, .bool mu, .int .i64 (mo : Int), .slice A6 KK c6]) := Lib.hid (Blk.new _ _ _)
            have LB : Hid (Lies (w6.alloc (.cells #[.string (txt nm), .int .i64 (kd : Int), .int .i64 (ty : Int), .int .u64 (lo : Int), .int .u64 (hi : Int), .slice B6 0 m6, .bool mu, .int .i64 (mo : Int), .slice A6 KK c6] 27)) [.string (txt nm), .int .i64 (kd : Int), .int .i64 (ty : Int), .int .u64 (lo : Int), .int .u64 (hi : Int), .slice B6 0 m6, .bool mu, .int .i64 (mo : Int), .slice A6 KK c6] (⟨nm, kd, ty, lo, hi, [], mu, mo⟩, f)) := Lib.hid (hl.below ((Below.refl _ _).alloc (Nat.le_refl _) _))
            have p5 := (XW.out.cell 5).trans rfl
            clear hr hr2 hl hb hk q5 q8 XS YS HS TS5 LS ZS
            go_wp2_with fail
            clear p5
            have HD : Hid (Below (w6.alloc (.cells #[.string (txt nm), .int .i64 (kd : Int), .int .i64 (ty : Int), .int .u64 (lo : Int), .int .u64 (hi : Int), .slice B6 0 m6, .bool mu, .int .i64 (mo : Int), .slice A6 KK c6] 27)).heap.size (w6.alloc (.cells #[.string (txt nm), .int .i64 (kd : Int), .int .i64 (ty : Int), .int .u64 (lo : Int), .int .u64 (hi : Int), .slice B6 0 m6, .bool mu, .int .i64 (mo : Int), .slice A6 KK c6] 27)) (w6.alloc (.cells #[.string (txt nm), .int .i64 (kd : Int), .int .i64 (ty : Int), .int .u64 (lo : Int), .int .u64 (hi : Int), .slice B6 0 m6, .bool mu, .int .i64 (mo : Int), .slice A6 KK c6] 27)).drew) := Lib.hid (Below.refl _ _).drew
            have LB8 := Lib.hid (LB.out.below HD.out)
            have LW8 := Lib.hid (LW.out.below HD.out)
            have XA8 := Lib.hid (XA.out.below HD.out XA.out.lt)
            have XB8 := Lib.hid (XB.out.below HD.out XB.out.lt)
            have XW8 := Lib.hid (XW.out.below HD.out XW.out.lt)
            have H8 := Lib.hid (H7.out.trans (HD.out.mono H7.out.size))
            clear LB LW XA XB XW HD
            refine wp_region_noPanic ?_
            refine wp_region_held_drew (S := fun _ => True) (by kernel_rfl) trivial (fun hS => ?_)
            refine wpAnyH_take (i := 0) (oi := ?o2_0_1) (v := ?v2_0_1) ?i2_0_1 (by kernel_rfl) (by kernel_rfl) (by kernel_rfl) (fun _ _ _ h => h) (Or.inl ⟨?g2_0_1, ?y2_0_1⟩) hS ?_
            case i2_0_1 => simp only [List.getElem?_toArray, List.getElem?_cons_succ, List.getElem?_cons_zero]; rfl
            case g2_0_1 => rfl
            case y2_0_1 => (intro w hSw; (go_simp <;> with_reducible rfl))
            (try simp only [Act.put, List.setIfInBounds_toArray, List.set_cons_zero, List.set_cons_succ])
            refine wpAnyH_take (i := 1) (oi := ?o2_1_2) (v := ?v2_1_2) ?i2_1_2 (by kernel_rfl) (by kernel_rfl) (by kernel_rfl) (fun _ _ _ h => h) (Or.inl ⟨?g2_1_2, ?y2_1_2⟩) hS ?_
            case i2_1_2 => simp only [List.getElem?_toArray, List.getElem?_cons_succ, List.getElem?_cons_zero]; rfl
            case g2_1_2 => rfl
            case y2_1_2 => (intro w hSw; (go_simp <;> with_reducible rfl))
            (try simp only [Act.put, List.setIfInBounds_toArray, List.set_cons_zero, List.set_cons_succ])
            refine wpAnyH_take (i := 2) (oi := ?o2_2_3) (v := ?v2_2_3) ?i2_2_3 (by kernel_rfl) (by kernel_rfl) (by kernel_rfl) (fun _ _ _ h => h) (Or.inl ⟨?g2_2_3, ?y2_2_3⟩) hS ?_
            case i2_2_3 => simp only [List.getElem?_toArray, List.getElem?_cons_succ, List.getElem?_cons_zero]; rfl
            case g2_2_3 => rfl
            case y2_2_3 => (intro w hSw; (go_simp <;> with_reducible rfl))
            (try simp only [Act.put, List.setIfInBounds_toArray, List.set_cons_zero, List.set_cons_succ])
            refine wpAnyH_take (i := 3) (oi := ?o2_3_4) (v := ?v2_3_4) ?i2_3_4 (by kernel_rfl) (by kernel_rfl) (by kernel_rfl) (fun _ _ _ h => h) (Or.inl ⟨?g2_3_4, ?y2_3_4⟩) hS ?_
            case i2_3_4 => simp only [List.getElem?_toArray, List.getElem?_cons_succ, List.getElem?_cons_zero]; rfl
            case g2_3_4 => rfl
            case y2_3_4 => (intro w hSw; (go_simp <;> with_reducible rfl))
            (try simp only [Act.put, List.setIfInBounds_toArray, List.set_cons_zero, List.set_cons_succ])
            refine held_more (S' := fun w' => Blk w' w2.heap.size 27 #[.string (txt nm), .int .i64 (kd : Int), .int .i64 (ty : Int), .int .u64 (lo : Int), .int .u64 (hi : Int), .slice B2 0 m2, .bool mu, .int .i64 (mo : Int), .slice (some ⟨b, o, none⟩) KK c2] ∧ Blk w' w6.heap.size 27 #[.string (txt nm), .int .i64 (kd : Int), .int .i64 (ty : Int), .int .u64 (lo : Int), .int .u64 (hi : Int), .slice B6 0 m6, .bool mu, .int .i64 (mo : Int), .slice A6 KK c6] ∧ Blk w' w4.heap.size 33 #[.string (txt nm), .int .i64 (kd : Int), .int .i64 (ty : Int), .int .u64 (lo : Int), .int .u64 (hi : Int), .slice B4 0 m4, .bool mu, .int .i64 (mo : Int), .slice A4 KK c4]) (fun _ _ => trivial) _ _ _ _ ?_
            replace hS := And.intro XA8.out (And.intro XB8.out XW8.out)
            refine wpAnyH_take (i := 4) (oi := ?o2_4_5) (v := ?v2_4_5) ?i2_4_5 (by kernel_rfl) (by kernel_rfl) (by kernel_rfl) (fun _ _ _ h => h) (Or.inl ⟨?g2_4_5, ?y2_4_5⟩) hS ?_
            case i2_4_5 => simp only [List.getElem?_toArray, List.getElem?_cons_succ, List.getElem?_cons_zero]; rfl
            case g2_4_5 => rfl
            case y2_4_5 => (intro w hSw; have q0 := (hSw.2.1.cell 0).trans rfl; have q1 := (hSw.2.1.cell 1).trans rfl; have q2 := (hSw.2.1.cell 2).trans rfl; have q3 := (hSw.2.1.cell 3).trans rfl; have q4 := (hSw.2.1.cell 4).trans rfl; have q5 := (hSw.2.1.cell 5).trans rfl; have q6 := (hSw.2.1.cell 6).trans rfl; have q7 := (hSw.2.1.cell 7).trans rfl; have q8 := (hSw.2.1.cell 8).trans rfl; (go_simp <;> with_reducible rfl))
            (try simp only [Act.put, List.setIfInBounds_toArray, List.set_cons_zero, List.set_cons_succ])
            refine wpAnyH_take (i := 6) (oi := ?o2_6_6) (v := ?v2_6_6) ?i2_6_6 (by kernel_rfl) (by kernel_rfl) (by kernel_rfl) (fun _ _ _ h => h) (Or.inl ⟨?g2_6_6, ?y2_6_6⟩) hS ?_
            case i2_6_6 => simp only [List.getElem?_toArray, List.getElem?_cons_succ, List.getElem?_cons_zero]; rfl
            case g2_6_6 => rfl
            case y2_6_6 => (intro w hSw; have q0 := (hSw.2.2.cell 0).trans rfl; have q1 := (hSw.2.2.cell 1).trans rfl; have q2 := (hSw.2.2.cell 2).trans rfl; have q3 := (hSw.2.2.cell 3).trans rfl; have q4 := (hSw.2.2.cell 4).trans rfl; have q5 := (hSw.2.2.cell 5).trans rfl; have q6 := (hSw.2.2.cell 6).trans rfl; have q7 := (hSw.2.2.cell 7).trans rfl; have q8 := (hSw.2.2.cell 8).trans rfl; (go_simp <;> with_reducible rfl))
            (try simp only [Act.put, List.setIfInBounds_toArray, List.set_cons_zero, List.set_cons_succ])
            refine wpAnyH_ready (rs := [5]) (by kernel_rfl) (by simp) ?_
            refine (AllReadyH.cons (o := ?or2_7_5) ?ir2_7_5 (fun K hK => ?str2_7_5) AllReadyH.nil)
            case ir2_7_5 => simp only [List.getElem?_toArray, List.getElem?_cons_succ, List.getElem?_cons_zero]; rfl
            rw [if_pos (by rfl)]
            go_simp
            refine (plain_f 0 rfl KK HKL.out LB8.out FX.out).mono ?_
            rintro r w9 ⟨B9, m9, A9, c9, rfl, hl, hb⟩
            have LP := Lib.hid hl
            have LW9 := Lib.hid (LW8.out.below hb)
            have XA9 := Lib.hid (XA8.out.below hb XA8.out.lt)
            have XB9 := Lib.hid (XB8.out.below hb XB8.out.lt)
            have XW9 := Lib.hid (XW8.out.below hb XW8.out.lt)
            have H9 := Lib.hid (H8.out.trans (hb.mono H8.out.size))
            clear hl hb
            go_wp2_with fail
            refine hK.out _ _ ?sr2_7_5 (fun hS => ?_)
            case sr2_7_5 => (exact And.intro XA9.out (And.intro XB9.out XW9.out))
            clear hK K
            (try simp only [Act.put, List.setIfInBounds_toArray, List.set_cons_zero, List.set_cons_succ])
            refine wpAnyH_ready (rs := [7]) (by kernel_rfl) (by simp) ?_
            refine (AllReadyH.cons (o := ?or2_8_7) ?ir2_8_7 (fun K hK => ?str2_8_7) AllReadyH.nil)
            case ir2_8_7 => simp only [List.getElem?_toArray, List.getElem?_cons_succ, List.getElem?_cons_zero]; rfl
            rw [if_pos (by rfl)]
            go_simp
            refine (same_l LP.out LW9.out FX.out).mono ?_
            rintro r w10 ⟨rfl, hb⟩
            have XA10 := Lib.hid (XA9.out.below hb XA9.out.lt)
            have XB10 := Lib.hid (XB9.out.below hb XB9.out.lt)
            have XW10 := Lib.hid (XW9.out.below hb XW9.out.lt)
            have H10 := Lib.hid (H9.out.trans (hb.mono H9.out.size))
            clear hb
            go_wp2_with fail
            refine hK.out _ _ ?sr2_8_7 (fun hS => ?_)
            case sr2_8_7 => (exact And.intro XA10.out (And.intro XB10.out XW10.out))
            clear hK K
            (try simp only [Act.put, List.setIfInBounds_toArray, List.set_cons_zero, List.set_cons_succ])
            refine wpAnyH_take (i := 8) (oi := ?o2_8_9) (v := ?v2_8_9) ?i2_8_9 (by kernel_rfl) (by kernel_rfl) (by kernel_rfl) (fun _ _ _ h => h) (Or.inl ⟨?g2_8_9, ?y2_8_9⟩) hS ?_
            case i2_8_9 => simp only [List.getElem?_toArray, List.getElem?_cons_succ, List.getElem?_cons_zero]; rfl
            case g2_8_9 => rfl
            case y2_8_9 => (intro w hSw; (go_simp <;> with_reducible rfl))
            (try simp only [Act.put, List.setIfInBounds_toArray, List.set_cons_zero, List.set_cons_succ])
            refine wpAnyH_take (i := 9) (oi := ?o2_9_10) (v := ?v2_9_10) ?i2_9_10 (by kernel_rfl) (by kernel_rfl) (by kernel_rfl) (fun _ _ _ h => h) (Or.inl ⟨?g2_9_10, ?y2_9_10⟩) hS ?_
            case i2_9_10 => simp only [List.getElem?_toArray, List.getElem?_cons_succ, List.getElem?_cons_zero]; rfl
            case g2_9_10 => rfl
            case y2_9_10 => (intro w hSw; (go_simp <;> with_reducible rfl))
            (try simp only [Act.put, List.setIfInBounds_toArray, List.set_cons_zero, List.set_cons_succ])
            refine wpAnyH_take (i := 10) (oi := ?o2_10_11) (v := ?v2_10_11) ?i2_10_11 (by kernel_rfl) (by kernel_rfl) (by kernel_rfl) (fun _ _ _ h => h) (Or.inl ⟨?g2_10_11, ?y2_10_11⟩) hS ?_
            case i2_10_11 => simp only [List.getElem?_toArray, List.getElem?_cons_succ, List.getElem?_cons_zero]; rfl
            case g2_10_11 => rfl
            case y2_10_11 => (intro w hSw; (go_simp <;> with_reducible rfl))
            (try simp only [Act.put, List.setIfInBounds_toArray, List.set_cons_zero, List.set_cons_succ])
            refine wpAnyH_take (i := 11) (oi := ?o2_11_12) (v := ?v2_11_12) ?i2_11_12 (by kernel_rfl) (by kernel_rfl) (by kernel_rfl) (fun _ _ _ h => h) (Or.inl ⟨?g2_11_12, ?y2_11_12⟩) hS ?_
            case i2_11_12 => simp only [List.getElem?_toArray, List.getElem?_cons_succ, List.getElem?_cons_zero]; rfl
            case g2_11_12 => rfl
            case y2_11_12 => (intro w hSw; have q1 := (hSw.1.cell 1).trans rfl; (go_simp <;> with_reducible rfl))
            (try simp only [Act.put, List.setIfInBounds_toArray, List.set_cons_zero, List.set_cons_succ])
            refine wpAnyH_take (i := 12) (oi := ?o2_12_13) (v := ?v2_12_13) ?i2_12_13 (by kernel_rfl) (by kernel_rfl) (by kernel_rfl) (fun _ _ _ h => h) (Or.inl ⟨?g2_12_13, ?y2_12_13⟩) hS ?_
            case i2_12_13 => simp only [List.getElem?_toArray, List.getElem?_cons_succ, List.getElem?_cons_zero]; rfl
            case g2_12_13 => rfl
            case y2_12_13 => (intro w hSw; have hc := HKK.out.1; (go_simp <;> with_reducible rfl))
            (try simp only [Act.put, List.setIfInBounds_toArray, List.set_cons_zero, List.set_cons_succ])
            refine wpAnyH_take (i := 13) (oi := ?o2_13_14) (v := ?v2_13_14) ?i2_13_14 (by kernel_rfl) (by kernel_rfl) (by kernel_rfl) (fun _ _ _ h => h) (Or.inl ⟨?g2_13_14, ?y2_13_14⟩) hS ?_
            case i2_13_14 => simp only [List.getElem?_toArray, List.getElem?_cons_succ, List.getElem?_cons_zero]; rfl
            case g2_13_14 => rfl
            case y2_13_14 => (intro w hSw; (go_simp <;> with_reducible rfl))
            (try simp only [Act.put, List.setIfInBounds_toArray, List.set_cons_zero, List.set_cons_succ])
            refine wpAnyH_take (i := 14) (oi := ?o2_14_15) (v := ?v2_14_15) ?i2_14_15 (by kernel_rfl) (by kernel_rfl) (by kernel_rfl) (fun _ _ _ h => h) (Or.inl ⟨?g2_14_15, ?y2_14_15⟩) hS ?_
            case i2_14_15 => simp only [List.getElem?_toArray, List.getElem?_cons_succ, List.getElem?_cons_zero]; rfl
            case g2_14_15 => rfl
            case y2_14_15 => (intro w hSw; have q8 := (hSw.1.cell 8).trans rfl; (go_simp <;> with_reducible rfl))
            (try simp only [Act.put, List.setIfInBounds_toArray, List.set_cons_zero, List.set_cons_succ])
            refine wpAnyH_take (i := 15) (oi := ?o2_15_16) (v := ?v2_15_16) ?i2_15_16 (by kernel_rfl) (by kernel_rfl) (by kernel_rfl) (fun _ _ _ h => h) (Or.inl ⟨?g2_15_16, ?y2_15_16⟩) hS ?_
            case i2_15_16 => simp only [List.getElem?_toArray, List.getElem?_cons_succ, List.getElem?_cons_zero]; rfl
            case g2_15_16 => rfl
            case y2_15_16 => (intro w hSw; (go_simp <;> with_reducible rfl))
            (try simp only [Act.put, List.setIfInBounds_toArray, List.set_cons_zero, List.set_cons_succ])
            refine wpAnyH_take (i := 16) (oi := ?o2_16_17) (v := ?v2_16_17) ?i2_16_17 (by kernel_rfl) (by kernel_rfl) (by kernel_rfl) (fun _ _ _ h => h) (Or.inl ⟨?g2_16_17, ?y2_16_17⟩) hS ?_
            case i2_16_17 => simp only [List.getElem?_toArray, List.getElem?_cons_succ, List.getElem?_cons_zero]; rfl
            case g2_16_17 => rfl
            case y2_16_17 => (intro w hSw; have hc := HKK.out.2; (go_simp <;> with_reducible rfl))
            (try simp only [Act.put, List.setIfInBounds_toArray, List.set_cons_zero, List.set_cons_succ])
            refine wpAnyH_take (i := 17) (oi := ?o2_17_18) (v := ?v2_17_18) ?i2_17_18 (by kernel_rfl) (by kernel_rfl) (by kernel_rfl) (fun _ _ _ h => h) (Or.inl ⟨?g2_17_18, ?y2_17_18⟩) hS ?_
            case i2_17_18 => simp only [List.getElem?_toArray, List.getElem?_cons_succ, List.getElem?_cons_zero]; rfl
            case g2_17_18 => rfl
            case y2_17_18 => (intro w hSw; (go_simp <;> with_reducible rfl))
            (try simp only [Act.put, List.setIfInBounds_toArray, List.set_cons_zero, List.set_cons_succ])
            refine wpAnyH_take (i := 18) (oi := ?o2_18_19) (v := ?v2_18_19) ?i2_18_19 (by kernel_rfl) (by kernel_rfl) (by kernel_rfl) (fun _ _ _ h => h) (Or.inl ⟨?g2_18_19, ?y2_18_19⟩) hS ?_
            case i2_18_19 => simp only [List.getElem?_toArray, List.getElem?_cons_succ, List.getElem?_cons_zero]; rfl
            case g2_18_19 => rfl
            case y2_18_19 => (intro w hSw; (go_simp <;> with_reducible rfl))
            (try simp only [Act.put, List.setIfInBounds_toArray, List.set_cons_zero, List.set_cons_succ])
            refine wpAnyH_take (i := 19) (oi := ?o2_19_20) (v := ?v2_19_20) ?i2_19_20 (by kernel_rfl) (by kernel_rfl) (by kernel_rfl) (fun _ _ _ h => h) (Or.inl ⟨?g2_19_20, ?y2_19_20⟩) hS ?_
            case i2_19_20 => simp only [List.getElem?_toArray, List.getElem?_cons_succ, List.getElem?_cons_zero]; rfl
            case g2_19_20 => rfl
            case y2_19_20 => (intro w hSw; (go_simp <;> with_reducible rfl))
            (try simp only [Act.put, List.setIfInBounds_toArray, List.set_cons_zero, List.set_cons_succ])
            refine wpAnyH_done (by kernel_rfl) ?_ _
            refine NoPanic.normal ?_
            clear hS
            go_wp2
            go_ret
            exact ⟨rfl, H10.out⟩

end Go.Proofs.Ytkpbjgjflabloaa
