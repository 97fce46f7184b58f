/- PtvPrs -/
import Derived.Test.YtleidkpdpabkpaaGreatDoorBM21
import Derived.Test.YtleidkpdpabkpaaGreatDoorBM30
set_option linter.unusedSimpArgs false
set_option linter.unusedVariables false
set_option maxRecDepth 100000
set_option maxHeartbeats 8000000
namespace Go.Proofs.YtleidkpdpabkpaaGreatDoor
open Go.RowKit
theorem stepD_bad {d : Nat} {r : List UInt8} {e p : Nat} (h : stepD d r = .inr (e, p)) : (e = 21 ∨ e = 22 ∨ e = 13) ∧ p ≤ r.length := by
 unfold stepD at h
 by_cases h1 : r.head? ≠ some 47
 ·rw [if_pos h1] at h; injection h with h; injection h with h2 h3; subst h2 h3; exact ⟨.inl rfl, Nat.zero_le _⟩
 rw [if_neg h1] at h
 by_cases h6 : d = 6
 ·rw [if_pos h6] at h; injection h with h; injection h with h2 h3; subst h2 h3; exact ⟨.inr (.inr rfl), Nat.zero_le _⟩
 rw [if_neg h6] at h
 have hr : r ≠ [] := fun e => by subst e; exact h1 (by simp)
 obtain ⟨h2, h3⟩ := stepX_bad hr h
 exact ⟨h2.elim .inl fun h => .inr (.inl h), h3⟩
theorem stepD_ok {d : Nat} {r : List UInt8} {x : Stp} {n : Nat} (h : stepD d r = .inl (x, n)) : d ≠ 6 ∧ 1 ≤ n ∧ n ≤ r.length := by
 unfold stepD at h
 by_cases h1 : r.head? ≠ some 47
 ·rw [if_pos h1] at h; cases h
 rw [if_neg h1] at h
 by_cases h6 : d = 6
 ·rw [if_pos h6] at h; cases h
 rw [if_neg h6] at h
 obtain ⟨-, -, h3, h4⟩ := stepX_ok (Decidable.not_not.1 h1) h
 exact ⟨h6, by rw [h3]; simp [stepT], h4⟩
def PrS (s : List UInt8) (o : List Stp) (a : Nat) : Prop := (s = [] ∧ o = [] ∧ a = 0) ∨ (PrL s o a ∧ (o = [] → a < s.length))
theorem PrS.go {s : List UInt8} {o : List Stp} {a : Nat} (h : PrS s o a) (ha : a ≤ s.length) (hg : o = [] ∨ s.drop a ≠ []) : (∀ e p, stepD o.length (s.drop a) = .inr (e, p) → parseX15 s = ([], e, a + p)) ∧
  ∀ x n, stepD o.length (s.drop a) = .inl (x, n) → PrS s (o ++ [x]) (a + n) ∧ a + n ≤ s.length ∧ 1 ≤ n := by
 rcases h with ⟨rfl, rfl, rfl⟩ | ⟨h, h0⟩
 ·refine ⟨fun e p k => ?_, fun x n k => ?_⟩
  ·have : stepD 0 [] = .inr (21, 0) := rfl
   simp only [List.drop_nil, List.length_nil] at k
   rw [this] at k; injection k with k; injection k with k1 k2; subst k1 k2; rfl
  ·have := stepD_ok k; simp at this; omega
 ·have hl : a < s.length := by
   rcases hg with hg | hg
   ·exact h0 hg
   ·by_cases h1 : a < s.length
    ·exact h1
    ·exact absurd (List.drop_eq_nil_iff.2 (by omega)) hg
  have hne : s.drop a ≠ [] := fun e => by have := List.drop_eq_nil_iff.1 e; omega
  obtain ⟨f, h1, h2, h3⟩ := h.in_ hl
  rw [runD hne] at h1
  refine ⟨fun e p k => ?_, fun x n k => ?_⟩
  ·rw [k] at h1; exact h1
  ·rw [k] at h1
   simp only [List.drop_drop] at h1
   obtain ⟨k1, k2, k3⟩ := stepD_ok k
   rw [List.length_drop] at k3
   exact ⟨.inr ⟨PrL_next h1 h2 (by omega) h3 k1, fun e => by simp at e⟩, by omega, k2⟩
theorem PrS.six {s : List UInt8} {o : List Stp} {a : Nat} (h : PrS s o a) : o.length ≤ 6 := by
 rcases h with ⟨-, rfl, -⟩ | ⟨⟨f, -, -, h⟩, -⟩
 ·exact Nat.zero_le _
 ·exact h
theorem PrS.end_ {s : List UInt8} {o : List Stp} {a : Nat} (h : PrS s o a) (ha : a ≤ s.length) (h0 : o ≠ []) (hd : s.drop a = []) : parseX15 s = (o, 0, 0) := by
 rcases h with ⟨-, rfl, -⟩ | ⟨h, -⟩
 ·exact absurd rfl h0
 ·have : a = s.length := by have := List.drop_eq_nil_iff.1 hd; omega
  subst this
  exact h.end_
def leftM (w : World) (g : Nat) : Nat := match w.cell? ⟨g, 0, none⟩ with | some (.string b) => b.size | _ => 0
theorem leftM_of {w : World} {g : Nat} {l : List UInt8} (h : RdS w g l) : leftM w g = l.length := by
 unfold leftM
 rw [show w.cell? ⟨g, 0, none⟩ = some (.string (txt l)) from (h.cell 0).trans rfl]
 exact txt_size l
theorem parse15_root (w : World) : Calls Tryz.prog 109 #[.string (txt [47])] w (PrsN (parseX15 [47]) w) := by
 have e0 : txt [47] = (⟨#[47]⟩ : ByteArray) := rfl
 go_enter Tryz.func109, Tryz.ntmps109
 go_wp2
 go_ret3
 exact PrsN.bad rfl rfl (Below.refl _ _)
theorem parse15_some (s : List UInt8) (h47 : s ≠ [47]) (hs : s.length ≤ 9223372036854775807) (w : World) : Calls Tryz.prog 109 #[.string (txt s)] w (PrsN (parseX15 s) w) := by
 have hsz := txt_size s
 have ts : (txt s).toList = s := txt_toList s
 have g47 : (s == [47]) = false := beq_eq_false_iff_ne.2 h47
 have HST : Hid (PrS s [] 0) := hHd (by
  by_cases h0 : s = []
  ·exact .inl ⟨h0, rfl, rfl⟩
  ·exact .inr ⟨⟨s.length, by unfold parseX15; rw [if_neg h47, if_neg h0]; rfl, by omega, by simp⟩, fun _ => List.length_pos_iff.2 h0⟩)
 have HR0 : Hid (RdS (w.alloc (.cells #[.string (txt s)] 169)) w.heap.size (s.drop 0)) := hHd (Blk.new w _ _)
 have HB0 : Hid (Below w.heap.size w (w.alloc (.cells #[.string (txt s)] 169))) := hHd bAl
 have HZ0 : Hid (w.heap.size + 1 ≤ (w.alloc (.cells #[.string (txt s)] 169)).heap.size) := hHd (by simp)
 clear h47
 go_enter Tryz.func109, Tryz.ntmps109
 go_wp2
 go_loopw [5, 7, 8] (fun v _ _ wr => ∃ (o : List Stp) (a : Nat), a ≤ s.length ∧ Hid (OwnS (w.heap.size + 1) wr v o) ∧ Hid (PrS s o a) ∧ Hid (RdS wr w.heap.size (s.drop a)) ∧ Hid (Below w.heap.size w wr) ∧ Hid (w.heap.size + 1 ≤ wr.heap.size)) (fun v _ _ wr => leftM wr w.heap.size)
 case atStart => exact ⟨[], 0, Nat.zero_le _, hHd (OwnS.nil _ _), HST, HR0, HB0, HZ0⟩
 case round =>
  obtain ⟨o, a, ha, HOW, HL, HR, HB, HZ⟩ := hrel
  obtain ⟨A, c, rfl⟩ := HOW.out.shape
  have HDL : Hid ((s.drop a).length ≤ 9223372036854775807) := hHd (by rw [List.length_drop]; omega)
  have y0 : wr.cell? ⟨w.heap.size, 0, none⟩ = some (.string (txt (s.drop a))) := (HR.out.cell 0).trans rfl
  have td : (txt (s.drop a)).toList = s.drop a := txt_toList _
  by_cases h0 : o = []
  ·have GO := HL.out.go ha (.inl h0)
   have j0 : ((o.length : Int) == 0) = true := beq_iff_eq.2 (by rw [h0]; rfl)
   have j1 : (o.length == 0) = true := beq_iff_eq.2 (by rw [h0]; rfl)
   clear h0
   cases hD : stepD o.length (s.drop a) with
   | inr ep =>
    obtain ⟨e, p⟩ := ep
    obtain ⟨he, hp⟩ := stepD_bad hD
    have HF := hHd (GO.1 e p hD)
    have C : Hid (Calls Tryz.prog 117 #[.pointer (some ⟨w.heap.size, 0, none⟩), .int .i64 (o.length : Int)] wr (fun r w' => ∃ x y, RdP w.heap.size ((s.drop a).drop p) (.tuple #[.agg #[.string (txt x), .string (txt y)], .int .i64 (e : Int)]) wr r w')) := hHd ((step_any w.heap.size (s.drop a) o.length HDL.out wr HR.out).mono fun r w' k => by unfold StpP at k; rw [hD] at k; exact k)
    have hdl : ((s.drop a).drop p).length = s.length - (a + p) := by rw [List.drop_drop, List.length_drop]
    have hal : a + p ≤ s.length := by rw [List.length_drop] at hp; omega
    have e0 : ((e : Int) == 0) = false := beq_eq_false_iff_ne.2 (by omega)
    have e1 : ((e : Int) != 0) = true := by unfold bne; rw [e0]; rfl
    have e2 : (e == 0) = false := beq_eq_false_iff_ne.2 (by omega)
    clear he hp hD
    generalize (s.drop a).drop p = lf at C hdl
    have hlz := txt_size lf
    obtain ⟨ll, hll⟩ : ∃ ll, ll = lf.length := ⟨_, rfl⟩
    rw [← hll] at hdl hlz
    have hlw : IntKind.i64.wrap ((s.length : Int) - (ll : Int)) = ((a + p : Nat) : Int) := by rw [IntWalk.i64_in _ (by omega)]; omega
    clear hll
    go_wp2_with fail
    refine C.out.mono ?_
    rintro r w1 ⟨x, y, rfl, hR1, hG1⟩
    have HB1 := hHd (HB.out.grown hG1 HB.out.size (fun k hk => by injection hk with hk; omega))
    have HBA : Hid (Below w.heap.size w (w1.alloc (.cells #[.string (txt x), .string (txt y)] 52))) := hHd (HB1.out.alloc HB1.out.size _)
    have HRA : Hid (RdS (w1.alloc (.cells #[.string (txt x), .string (txt y)] 52)) w.heap.size lf) := hHd (hR1.alloc _)
    have u0 : (w1.alloc (.cells #[.string (txt x), .string (txt y)] 52)).cell? ⟨w.heap.size, 0, none⟩ = some (.string (txt lf)) := (HRA.out.cell 0).trans rfl
    have u1 : (w1.alloc (.cells #[.string (txt x), .string (txt y)] 52)).drew.cell? ⟨w.heap.size, 0, none⟩ = some (.string (txt lf)) := ((HRA.out.below (Below.refl _ _).drew HRA.out.lt).cell 0).trans rfl
    have HFE : Hid (∀ i, i = ((a + p : Nat) : Int) → PrsN (parseX15 s) w (.returned (.tuple #[.slice none 0 0, .int .i64 (e : Int), .int .i64 i])) (w1.alloc (.cells #[.string (txt x), .string (txt y)] 52)).drew) := hHd (fun i hi => PrsN.bad HF.out hi HBA.out.drew)
    clear hR1 hG1 C hdl hal
    go_wp2_with fail
    go_region
    all_goals go_wp2_with fail
    all_goals go_ret3
    all_goals exact HFE.out _ (by first | rfl | omega)
   | inl xn =>
    obtain ⟨x, n⟩ := xn
    obtain ⟨hn1, hn2, hn3⟩ := GO.2 x n hD
    have HNX := hHd hn1
    have o6 := (hn1 : PrS s (o ++ [x]) (a + n)).six
    rw [List.length_append, List.length_singleton] at o6
    have C : Hid (Calls Tryz.prog 117 #[.pointer (some ⟨w.heap.size, 0, none⟩), .int .i64 (o.length : Int)] wr (RdP w.heap.size (s.drop (a + n)) (.tuple #[.agg #[.string (txt x.1), .string (txt x.2)], .int .i64 0]) wr)) := hHd ((step_any w.heap.size (s.drop a) o.length HDL.out wr HR.out).mono fun r w' k => by unfold StpP at k; rw [hD] at k; simp only [List.drop_drop] at k; exact k)
    clear hD hn1
    obtain ⟨x1, x2⟩ := x
    go_wp2_with fail
    refine C.out.mono ?_
    rintro r w1 ⟨rfl, hR1, hG1⟩
    have HB1 := hHd (HB.out.grown hG1 HB.out.size (fun k hk => by injection hk with hk; omega))
    have HO1 : Hid (OwnS (w.heap.size + 1) w1 (.slice A o.length c) o) := hHd (OwnK.keep HOW.out (fun k hk => hG1.block k (HOW.out.lt k hk).2 (fun e => by injection e with e; have := (HOW.out.lt k hk).1; omega)))
    have HZ1 : Hid (w.heap.size + 1 ≤ w1.heap.size) := hHd (Nat.le_trans HZ.out hG1.size)
    have HR1 := hHd hR1
    have q0 : (w1.alloc (.cells #[.string (txt x1), .string (txt x2)] 52)).cell? ⟨w1.heap.size, 0, none⟩ = some (.string (txt x1)) := (Blk.new w1 52 #[.string (txt x1), .string (txt x2)]).cell 0
    have q1 : (w1.alloc (.cells #[.string (txt x1), .string (txt x2)] 52)).cell? ⟨w1.heap.size, 1, none⟩ = some (.string (txt x2)) := (Blk.new w1 52 #[.string (txt x1), .string (txt x2)]).cell 1
    have HAL : Hid (Below w1.heap.size w1 ((w1.alloc (.cells #[.string (txt x1), .string (txt x2)] 52)).alloc (.cells #[.string (txt x1), .string (txt x2)] 52))) := hHd (bAl |>.alloc (by simp) _)
    have HOB : Hid (OwnS (w.heap.size + 1) ((w1.alloc (.cells #[.string (txt x1), .string (txt x2)] 52)).alloc (.cells #[.string (txt x1), .string (txt x2)] 52)) (.slice A o.length c) o) := hHd (HO1.out.below HAL.out)
    have HBB : Hid (Blk ((w1.alloc (.cells #[.string (txt x1), .string (txt x2)] 52)).alloc (.cells #[.string (txt x1), .string (txt x2)] 52)) (w1.heap.size + 1) 52 #[.string (txt x1), .string (txt x2)]) := hHd (by have h := Blk.new (w1.alloc (.cells #[.string (txt x1), .string (txt x2)] 52)) 52 #[.string (txt x1), .string (txt x2)]; rwa [show (w1.alloc (.cells #[.string (txt x1), .string (txt x2)] 52)).heap.size = w1.heap.size + 1 by simp] at h)
    have HBS : Hid (w.heap.size + 1 ≤ ((w1.alloc (.cells #[.string (txt x1), .string (txt x2)] 52)).alloc (.cells #[.string (txt x1), .string (txt x2)] 52)).heap.size) := hHd (Nat.le_trans HZ1.out HAL.out.size)
    have HON : Hid (∀ u ∈ [Value.string (txt x1), .string (txt x2)], u.oneCell' = true) := hHd (by simp [Value.oneCell'])
    have HRB : Hid (RdS ((w1.alloc (.cells #[.string (txt x1), .string (txt x2)] 52)).alloc (.cells #[.string (txt x1), .string (txt x2)] 52)) w.heap.size (s.drop (a + n))) := hHd (HR1.out.below HAL.out HR1.out.lt)
    have HLA : Hid (Below w.heap.size w ((w1.alloc (.cells #[.string (txt x1), .string (txt x2)] 52)).alloc (.cells #[.string (txt x1), .string (txt x2)] 52))) := hHd (HB1.out.trans (HAL.out.mono HB1.out.size))
    clear hR1 hG1 C
    go_wp2_with (at_builtin; refine wpList_append_k (P := Tryz.prog) (ts := 53) Tryz.underlying53 Tryz.cellsSt szeroN (by omega) rfl _ _ rfl rfl (w.heap.size + 1) (.slice A o.length c) o.length (stC o) rfl HOB.out (w1.heap.size + 1) rfl [.string (txt x1), .string (txt x2)] HBB.out rfl HON.out (by omega) (by omega) HBS.out ?_; intro v' w' hap)
    obtain ⟨A9, c9, rfl⟩ := OwnS.shape (own_snoc (x := (x1, x2)) hap.1 : OwnS (w.heap.size + 1) w' v' (o ++ [(x1, x2)]))
    have HOW9 : Hid (OwnS (w.heap.size + 1) w' (.slice A9 (o ++ [(x1, x2)]).length c9) (o ++ [(x1, x2)])) := hHd (own_snoc (x := (x1, x2)) hap.1)
    have hb9 := hap.below HOB.out HBS.out
    have HB9 : Hid (Below w.heap.size w w') := hHd (HLA.out.trans (hb9.mono (Nat.le_succ _)))
    have HR9 : Hid (RdS w' w.heap.size (s.drop (a + n))) := hHd (HRB.out.below hb9 (Nat.lt_succ_self _))
    have HZ9 : Hid (w.heap.size + 1 ≤ w'.heap.size) := hHd (Nat.le_trans HBS.out hb9.size)
    clear hap hb9
    go_wp2
    go_roundw
    case rel => exact ⟨o ++ [(x1, x2)], a + n, hn2, HOW9, HNX, HR9, HB9, HZ9⟩
    case measure =>
     show leftM w' w.heap.size < leftM wr w.heap.size
     rw [leftM_of HR9.out, leftM_of HR.out, List.length_drop, List.length_drop]
     omega
  ·have hp : o.length ≠ 0 := fun e => h0 (List.eq_nil_of_length_eq_zero e)
   have j0 : ((o.length : Int) == 0) = false := beq_eq_false_iff_ne.2 (by omega)
   have j1 : (o.length == 0) = false := beq_eq_false_iff_ne.2 hp
   by_cases hd : s.drop a = []
   ·have HF := hHd (HL.out.end_ ha h0 hd)
    rw [hd] at y0
    have e0 : txt [] = (⟨#[]⟩ : ByteArray) := rfl
    clear hd h0 td HL
    go_wp2
    go_ret3
    rw [HF.out]
    exact ⟨_, rfl, (HOW.out.mono (Nat.le_succ _)).wayN, HB.out⟩
   ·have GO := HL.out.go ha (.inr hd)
    have k0 : (s.drop a == []) = false := beq_eq_false_iff_ne.2 hd
    have k1 : (s.drop a).isEmpty = false := by simpa using hd
    clear hd h0
    cases hD : stepD o.length (s.drop a) with
    | inr ep =>
     obtain ⟨e, p⟩ := ep
     obtain ⟨he, hp⟩ := stepD_bad hD
     have HF := hHd (GO.1 e p hD)
     have C : Hid (Calls Tryz.prog 117 #[.pointer (some ⟨w.heap.size, 0, none⟩), .int .i64 (o.length : Int)] wr (fun r w' => ∃ x y, RdP w.heap.size ((s.drop a).drop p) (.tuple #[.agg #[.string (txt x), .string (txt y)], .int .i64 (e : Int)]) wr r w')) := hHd ((step_any w.heap.size (s.drop a) o.length HDL.out wr HR.out).mono fun r w' k => by unfold StpP at k; rw [hD] at k; exact k)
     have hdl : ((s.drop a).drop p).length = s.length - (a + p) := by rw [List.drop_drop, List.length_drop]
     have hal : a + p ≤ s.length := by rw [List.length_drop] at hp; omega
     have e0 : ((e : Int) == 0) = false := beq_eq_false_iff_ne.2 (by omega)
     have e1 : ((e : Int) != 0) = true := by unfold bne; rw [e0]; rfl
     have e2 : (e == 0) = false := beq_eq_false_iff_ne.2 (by omega)
     clear he hp hD
     generalize (s.drop a).drop p = lf at C hdl
     have hlz := txt_size lf
     obtain ⟨ll, hll⟩ : ∃ ll, ll = lf.length := ⟨_, rfl⟩
     rw [← hll] at hdl hlz
     have hlw : IntKind.i64.wrap ((s.length : Int) - (ll : Int)) = ((a + p : Nat) : Int) := by rw [IntWalk.i64_in _ (by omega)]; omega
     clear hll
     go_wp2_with fail
     refine C.out.mono ?_
     rintro r w1 ⟨x, y, rfl, hR1, hG1⟩
     have HB1 := hHd (HB.out.grown hG1 HB.out.size (fun k hk => by injection hk with hk; omega))
     have HBA : Hid (Below w.heap.size w (w1.alloc (.cells #[.string (txt x), .string (txt y)] 52))) := hHd (HB1.out.alloc HB1.out.size _)
     have HRA : Hid (RdS (w1.alloc (.cells #[.string (txt x), .string (txt y)] 52)) w.heap.size lf) := hHd (hR1.alloc _)
     have u0 : (w1.alloc (.cells #[.string (txt x), .string (txt y)] 52)).cell? ⟨w.heap.size, 0, none⟩ = some (.string (txt lf)) := (HRA.out.cell 0).trans rfl
     have u1 : (w1.alloc (.cells #[.string (txt x), .string (txt y)] 52)).drew.cell? ⟨w.heap.size, 0, none⟩ = some (.string (txt lf)) := ((HRA.out.below (Below.refl _ _).drew HRA.out.lt).cell 0).trans rfl
     have HFE : Hid (∀ i, i = ((a + p : Nat) : Int) → PrsN (parseX15 s) w (.returned (.tuple #[.slice none 0 0, .int .i64 (e : Int), .int .i64 i])) (w1.alloc (.cells #[.string (txt x), .string (txt y)] 52)).drew) := hHd (fun i hi => PrsN.bad HF.out hi HBA.out.drew)
     clear hR1 hG1 C hdl hal
     go_wp2_with fail
     go_region
     all_goals go_wp2_with fail
     all_goals go_ret3
     all_goals exact HFE.out _ (by first | rfl | omega)
    | inl xn =>
     obtain ⟨x, n⟩ := xn
     obtain ⟨hn1, hn2, hn3⟩ := GO.2 x n hD
     have HNX := hHd hn1
     have o6 := (hn1 : PrS s (o ++ [x]) (a + n)).six
     rw [List.length_append, List.length_singleton] at o6
     have C : Hid (Calls Tryz.prog 117 #[.pointer (some ⟨w.heap.size, 0, none⟩), .int .i64 (o.length : Int)] wr (RdP w.heap.size (s.drop (a + n)) (.tuple #[.agg #[.string (txt x.1), .string (txt x.2)], .int .i64 0]) wr)) := hHd ((step_any w.heap.size (s.drop a) o.length HDL.out wr HR.out).mono fun r w' k => by unfold StpP at k; rw [hD] at k; simp only [List.drop_drop] at k; exact k)
     clear hD hn1
     obtain ⟨x1, x2⟩ := x
     go_wp2_with fail
     refine C.out.mono ?_
     rintro r w1 ⟨rfl, hR1, hG1⟩
     have HB1 := hHd (HB.out.grown hG1 HB.out.size (fun k hk => by injection hk with hk; omega))
     have HO1 : Hid (OwnS (w.heap.size + 1) w1 (.slice A o.length c) o) := hHd (OwnK.keep HOW.out (fun k hk => hG1.block k (HOW.out.lt k hk).2 (fun e => by injection e with e; have := (HOW.out.lt k hk).1; omega)))
     have HZ1 : Hid (w.heap.size + 1 ≤ w1.heap.size) := hHd (Nat.le_trans HZ.out hG1.size)
     have HR1 := hHd hR1
     have q0 : (w1.alloc (.cells #[.string (txt x1), .string (txt x2)] 52)).cell? ⟨w1.heap.size, 0, none⟩ = some (.string (txt x1)) := (Blk.new w1 52 #[.string (txt x1), .string (txt x2)]).cell 0
     have q1 : (w1.alloc (.cells #[.string (txt x1), .string (txt x2)] 52)).cell? ⟨w1.heap.size, 1, none⟩ = some (.string (txt x2)) := (Blk.new w1 52 #[.string (txt x1), .string (txt x2)]).cell 1
     have HAL : Hid (Below w1.heap.size w1 ((w1.alloc (.cells #[.string (txt x1), .string (txt x2)] 52)).alloc (.cells #[.string (txt x1), .string (txt x2)] 52))) := hHd (bAl |>.alloc (by simp) _)
     have HOB : Hid (OwnS (w.heap.size + 1) ((w1.alloc (.cells #[.string (txt x1), .string (txt x2)] 52)).alloc (.cells #[.string (txt x1), .string (txt x2)] 52)) (.slice A o.length c) o) := hHd (HO1.out.below HAL.out)
     have HBB : Hid (Blk ((w1.alloc (.cells #[.string (txt x1), .string (txt x2)] 52)).alloc (.cells #[.string (txt x1), .string (txt x2)] 52)) (w1.heap.size + 1) 52 #[.string (txt x1), .string (txt x2)]) := hHd (by have h := Blk.new (w1.alloc (.cells #[.string (txt x1), .string (txt x2)] 52)) 52 #[.string (txt x1), .string (txt x2)]; rwa [show (w1.alloc (.cells #[.string (txt x1), .string (txt x2)] 52)).heap.size = w1.heap.size + 1 by simp] at h)
     have HBS : Hid (w.heap.size + 1 ≤ ((w1.alloc (.cells #[.string (txt x1), .string (txt x2)] 52)).alloc (.cells #[.string (txt x1), .string (txt x2)] 52)).heap.size) := hHd (Nat.le_trans HZ1.out HAL.out.size)
     have HON : Hid (∀ u ∈ [Value.string (txt x1), .string (txt x2)], u.oneCell' = true) := hHd (by simp [Value.oneCell'])
     have HRB : Hid (RdS ((w1.alloc (.cells #[.string (txt x1), .string (txt x2)] 52)).alloc (.cells #[.string (txt x1), .string (txt x2)] 52)) w.heap.size (s.drop (a + n))) := hHd (HR1.out.below HAL.out HR1.out.lt)
     have HLA : Hid (Below w.heap.size w ((w1.alloc (.cells #[.string (txt x1), .string (txt x2)] 52)).alloc (.cells #[.string (txt x1), .string (txt x2)] 52))) := hHd (HB1.out.trans (HAL.out.mono HB1.out.size))
     clear hR1 hG1 C
     go_wp2_with (at_builtin; refine wpList_append_k (P := Tryz.prog) (ts := 53) Tryz.underlying53 Tryz.cellsSt szeroN (by omega) rfl _ _ rfl rfl (w.heap.size + 1) (.slice A o.length c) o.length (stC o) rfl HOB.out (w1.heap.size + 1) rfl [.string (txt x1), .string (txt x2)] HBB.out rfl HON.out (by omega) (by omega) HBS.out ?_; intro v' w' hap)
     obtain ⟨A9, c9, rfl⟩ := OwnS.shape (own_snoc (x := (x1, x2)) hap.1 : OwnS (w.heap.size + 1) w' v' (o ++ [(x1, x2)]))
     have HOW9 : Hid (OwnS (w.heap.size + 1) w' (.slice A9 (o ++ [(x1, x2)]).length c9) (o ++ [(x1, x2)])) := hHd (own_snoc (x := (x1, x2)) hap.1)
     have hb9 := hap.below HOB.out HBS.out
     have HB9 : Hid (Below w.heap.size w w') := hHd (HLA.out.trans (hb9.mono (Nat.le_succ _)))
     have HR9 : Hid (RdS w' w.heap.size (s.drop (a + n))) := hHd (HRB.out.below hb9 (Nat.lt_succ_self _))
     have HZ9 : Hid (w.heap.size + 1 ≤ w'.heap.size) := hHd (Nat.le_trans HBS.out hb9.size)
     clear hap hb9
     go_wp2
     go_roundw
     case rel => exact ⟨o ++ [(x1, x2)], a + n, hn2, HOW9, HNX, HR9, HB9, HZ9⟩
     case measure =>
      show leftM w' w.heap.size < leftM wr w.heap.size
      rw [leftM_of HR9.out, leftM_of HR.out, List.length_drop, List.length_drop]
      omega
theorem parse15n_any (s : List UInt8) (hs : s.length ≤ 9223372036854775807) (w : World) : Calls Tryz.prog 109 #[.string (txt s)] w (PrsN (parseX15 s) w) := by
 by_cases h47 : s = [47]
 ·subst h47; exact parse15_root w
 exact parse15_some s h47 hs w
end Go.Proofs.YtleidkpdpabkpaaGreatDoor
