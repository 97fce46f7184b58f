/- PtvPrs PtvShw -/
import Derived.Test.YtikmilcdibldhaaDoorAM0
import Derived.Test.YtikmilcdibldhaaDoorAM11
import Derived.Test.YtikmilcdibldhaaDoorAM17
import Derived.Test.YtikmilcdibldhaaDoorAM16
set_option linter.unusedSimpArgs false
set_option linter.unusedVariables false
namespace Go.Proofs.YtikmilcdibldhaaDoor
open Go.RowKit
theorem stepD_bad {d : Nat} {r : List UInt8} {e p : Nat} (h : stepD d r = .inr (e, p)) : (e = 21 ∨ e = 22 ∨ e = 13) ∧ p ≤ r.length := by
 unfold stepD at h
 by_cases h1 : r.head? ≠ some 47
 ·rw [if_pos h1] at h; injection h with h; injection h with h2 h3; subst h2 h3; exact ⟨.inl rfl, Nat.zero_le _⟩
 rw [if_neg h1] at h
 by_cases h6 : d = 6
 ·rw [if_pos h6] at h; injection h with h; injection h with h2 h3; subst h2 h3; exact ⟨.inr (.inr rfl), Nat.zero_le _⟩
 rw [if_neg h6] at h
 have hr : r ≠ [] := fun e => by subst e; exact h1 (by simp)
 obtain ⟨h2, h3⟩ := stepX_bad hr h
 exact ⟨h2.elim .inl fun h => .inr (.inl h), h3⟩
theorem stepD_ok {d : Nat} {r : List UInt8} {x : Stp} {n : Nat} (h : stepD d r = .inl (x, n)) : d ≠ 6 ∧ 1 ≤ n ∧ n ≤ r.length := by
 unfold stepD at h
 by_cases h1 : r.head? ≠ some 47
 ·rw [if_pos h1] at h; cases h
 rw [if_neg h1] at h
 by_cases h6 : d = 6
 ·rw [if_pos h6] at h; cases h
 rw [if_neg h6] at h
 obtain ⟨-, -, h3, h4⟩ := stepX_ok (Decidable.not_not.1 h1) h
 exact ⟨h6, by rw [h3]; simp [stepT], h4⟩
def PrS (s : List UInt8) (o : List Stp) (a : Nat) : Prop := (s = [] ∧ o = [] ∧ a = 0) ∨ (PrL s o a ∧ (o = [] → a < s.length))
theorem PrS.go {s : List UInt8} {o : List Stp} {a : Nat} (h : PrS s o a) (ha : a ≤ s.length) (hg : o = [] ∨ s.drop a ≠ []) : (∀ e p, stepD o.length (s.drop a) = .inr (e, p) → parseX s = ([], e, a + p)) ∧
  ∀ x n, stepD o.length (s.drop a) = .inl (x, n) → PrS s (o ++ [x]) (a + n) ∧ a + n ≤ s.length ∧ 1 ≤ n := by
 rcases h with ⟨rfl, rfl, rfl⟩ | ⟨h, h0⟩
 ·refine ⟨fun e p k => ?_, fun x n k => ?_⟩
  ·have : stepD 0 [] = .inr (21, 0) := rfl
   simp only [List.drop_nil, List.length_nil] at k
   rw [this] at k; injection k with k; injection k with k1 k2; subst k1 k2; rfl
  ·have := stepD_ok k; simp at this; omega
 ·have hl : a < s.length := by
   rcases hg with hg | hg
   ·exact h0 hg
   ·by_cases h1 : a < s.length
    ·exact h1
    ·exact absurd (List.drop_eq_nil_iff.2 (by omega)) hg
  have hne : s.drop a ≠ [] := fun e => by have := List.drop_eq_nil_iff.1 e; omega
  obtain ⟨f, h1, h2, h3⟩ := h.in_ hl
  rw [runD hne] at h1
  refine ⟨fun e p k => ?_, fun x n k => ?_⟩
  ·rw [k] at h1; exact h1
  ·rw [k] at h1
   simp only [List.drop_drop] at h1
   obtain ⟨k1, k2, k3⟩ := stepD_ok k
   rw [List.length_drop] at k3
   exact ⟨.inr ⟨PrL_next h1 h2 (by omega) h3 k1, fun e => by simp at e⟩, by omega, k2⟩
theorem PrS.six {s : List UInt8} {o : List Stp} {a : Nat} (h : PrS s o a) : o.length ≤ 6 := by
 rcases h with ⟨-, rfl, -⟩ | ⟨⟨f, -, -, h⟩, -⟩
 ·exact Nat.zero_le _
 ·exact h
theorem PrS.end_ {s : List UInt8} {o : List Stp} {a : Nat} (h : PrS s o a) (ha : a ≤ s.length) (h0 : o ≠ []) (hd : s.drop a = []) : parseX s = (o, 0, 0) := by
 rcases h with ⟨-, rfl, -⟩ | ⟨h, -⟩
 ·exact absurd rfl h0
 ·have : a = s.length := by have := List.drop_eq_nil_iff.1 hd; omega
  subst this
  exact h.end_
def leftM (w : World) (g : Nat) : Nat := match w.cell? ⟨g, 0, none⟩ with | some (.string b) => b.size | _ => 0
theorem leftM_of {w : World} {g : Nat} {l : List UInt8} (h : RdS w g l) : leftM w g = l.length := by
 unfold leftM
 rw [show w.cell? ⟨g, 0, none⟩ = some (.string (txt l)) from (h.cell 0).trans rfl]
 exact txt_size l
set_option maxRecDepth 100000 in
set_option maxHeartbeats 4000000 in
theorem parse15_root (w : World) : Calls Tryd.prog 8 #[.string (txt [47])] w (PrsP (parseX [47]) w) := by
 have e0 : txt [47] = (⟨#[47]⟩ : ByteArray) := rfl
 go_enter Tryd.func8, Tryd.ntmps8
 go_wp2
 go_ret3
 exact PrsP.bad rfl rfl (Below.refl _ _)
set_option maxRecDepth 100000 in
set_option maxHeartbeats 8000000 in
theorem parse15_some (s : List UInt8) (h47 : s ≠ [47]) (hs : s.length ≤ 9223372036854775807) (w : World) : Calls Tryd.prog 8 #[.string (txt s)] w (PrsP (parseX s) w) := by
 have hsz := txt_size s
 have ts : (txt s).toList = s := txt_toList s
 have g47 : (s == [47]) = false := beq_eq_false_iff_ne.2 h47
 have HST : Hid (PrS s [] 0) := Lib.hid (by
  by_cases h0 : s = []
  ·exact .inl ⟨h0, rfl, rfl⟩
  ·exact .inr ⟨⟨s.length, by unfold parseX; rw [if_neg h47, if_neg h0]; rfl, by omega, by simp⟩, fun _ => List.length_pos_iff.2 h0⟩)
 have HR0 : Hid (RdS (w.alloc (.cells #[.string (txt s)] 51)) w.heap.size (s.drop 0)) := Lib.hid (Blk.new w _ _)
 have HB0 : Hid (Below w.heap.size w (w.alloc (.cells #[.string (txt s)] 51))) := Lib.hid ((Below.refl _ _).alloc (Nat.le_refl _) _)
 have HZ0 : Hid (w.heap.size + 1 ≤ (w.alloc (.cells #[.string (txt s)] 51)).heap.size) := Lib.hid (by simp)
 clear h47
 go_enter Tryd.func8, Tryd.ntmps8
 go_wp2
 go_loopw [5, 7, 8] (fun v _ _ wr => ∃ (o : List Stp) (a : Nat), a ≤ s.length ∧ Hid (OwnS (w.heap.size + 1) wr v o) ∧ Hid (PrS s o a) ∧ Hid (RdS wr w.heap.size (s.drop a)) ∧ Hid (Below w.heap.size w wr) ∧ Hid (w.heap.size + 1 ≤ wr.heap.size)) (fun v _ _ wr => leftM wr w.heap.size)
 case atStart => exact ⟨[], 0, Nat.zero_le _, Lib.hid (OwnS.nil _ _), HST, HR0, HB0, HZ0⟩
 case round =>
  obtain ⟨o, a, ha, HOW, HL, HR, HB, HZ⟩ := hrel
  obtain ⟨A, c, rfl⟩ := HOW.out.shape
  have HDL : Hid ((s.drop a).length ≤ 9223372036854775807) := Lib.hid (by rw [List.length_drop]; omega)
  have y0 : wr.cell? ⟨w.heap.size, 0, none⟩ = some (.string (txt (s.drop a))) := (HR.out.cell 0).trans rfl
  have td : (txt (s.drop a)).toList = s.drop a := txt_toList _
  by_cases h0 : o = []
  ·have GO := HL.out.go ha (.inl h0)
   have j0 : ((o.length : Int) == 0) = true := beq_iff_eq.2 (by rw [h0]; rfl)
   have j1 : (o.length == 0) = true := beq_iff_eq.2 (by rw [h0]; rfl)
   clear h0
   cases hD : stepD o.length (s.drop a) with
   | inr ep =>
    obtain ⟨e, p⟩ := ep
    obtain ⟨he, hp⟩ := stepD_bad hD
    have HF := Lib.hid (GO.1 e p hD)
    have C : Hid (Calls Tryd.prog 20 #[.pointer (some ⟨w.heap.size, 0, none⟩), .int .i64 (o.length : Int)] wr (fun r w' => ∃ x y, RdP w.heap.size ((s.drop a).drop p) (.tuple #[.agg #[.string (txt x), .string (txt y)], .int .i64 (e : Int)]) wr r w')) := Lib.hid ((step_any w.heap.size (s.drop a) o.length HDL.out wr HR.out).mono fun r w' k => by unfold StpP at k; rw [hD] at k; exact k)
    have hdl : ((s.drop a).drop p).length = s.length - (a + p) := by rw [List.drop_drop, List.length_drop]
    have hal : a + p ≤ s.length := by rw [List.length_drop] at hp; omega
    have e0 : ((e : Int) == 0) = false := beq_eq_false_iff_ne.2 (by omega)
    have e1 : ((e : Int) != 0) = true := by unfold bne; rw [e0]; rfl
    have e2 : (e == 0) = false := beq_eq_false_iff_ne.2 (by omega)
    clear he hp hD
    generalize (s.drop a).drop p = lf at C hdl
    have hlz := txt_size lf
    obtain ⟨ll, hll⟩ : ∃ ll, ll = lf.length := ⟨_, rfl⟩
    rw [← hll] at hdl hlz
    have hlw : IntKind.i64.wrap ((s.length : Int) - (ll : Int)) = ((a + p : Nat) : Int) := by rw [IntWalk.i64_in _ (by omega)]; omega
    clear hll
    go_wp2_with fail
    refine C.out.mono ?_
    rintro r w1 ⟨x, y, rfl, hR1, hG1⟩
    have HB1 := Lib.hid (HB.out.grown hG1 HB.out.size (fun k hk => by injection hk with hk; omega))
    have HBA : Hid (Below w.heap.size w (w1.alloc (.cells #[.string (txt x), .string (txt y)] 46))) := Lib.hid (HB1.out.alloc HB1.out.size _)
    have HRA : Hid (RdS (w1.alloc (.cells #[.string (txt x), .string (txt y)] 46)) w.heap.size lf) := Lib.hid (hR1.alloc _)
    have u0 : (w1.alloc (.cells #[.string (txt x), .string (txt y)] 46)).cell? ⟨w.heap.size, 0, none⟩ = some (.string (txt lf)) := (HRA.out.cell 0).trans rfl
    have u1 : (w1.alloc (.cells #[.string (txt x), .string (txt y)] 46)).drew.cell? ⟨w.heap.size, 0, none⟩ = some (.string (txt lf)) := ((HRA.out.below (Below.refl _ _).drew HRA.out.lt).cell 0).trans rfl
    have HFE : Hid (∀ i, i = ((a + p : Nat) : Int) → PrsP (parseX s) w (.returned (.tuple #[.slice none 0 0, .int .i64 (e : Int), .int .i64 i])) (w1.alloc (.cells #[.string (txt x), .string (txt y)] 46)).drew) := Lib.hid (fun i hi => PrsP.bad HF.out hi HBA.out.drew)
    clear hR1 hG1 C hdl hal
    go_wp2_with fail
    go_region
    all_goals go_wp2_with fail
    all_goals go_ret3
    all_goals exact HFE.out _ (by first | rfl | omega)
   | inl xn =>
    obtain ⟨x, n⟩ := xn
    obtain ⟨hn1, hn2, hn3⟩ := GO.2 x n hD
    have HNX := Lib.hid hn1
    have o6 := (hn1 : PrS s (o ++ [x]) (a + n)).six
    rw [List.length_append, List.length_singleton] at o6
    have C : Hid (Calls Tryd.prog 20 #[.pointer (some ⟨w.heap.size, 0, none⟩), .int .i64 (o.length : Int)] wr (RdP w.heap.size (s.drop (a + n)) (.tuple #[.agg #[.string (txt x.1), .string (txt x.2)], .int .i64 0]) wr)) := Lib.hid ((step_any w.heap.size (s.drop a) o.length HDL.out wr HR.out).mono fun r w' k => by unfold StpP at k; rw [hD] at k; simp only [List.drop_drop] at k; exact k)
    clear hD hn1
    obtain ⟨x1, x2⟩ := x
    go_wp2_with fail
    refine C.out.mono ?_
    rintro r w1 ⟨rfl, hR1, hG1⟩
    have HB1 := Lib.hid (HB.out.grown hG1 HB.out.size (fun k hk => by injection hk with hk; omega))
    have HO1 : Hid (OwnS (w.heap.size + 1) w1 (.slice A o.length c) o) := Lib.hid (OwnK.keep HOW.out (fun k hk => hG1.block k (HOW.out.lt k hk).2 (fun e => by injection e with e; have := (HOW.out.lt k hk).1; omega)))
    have HZ1 : Hid (w.heap.size + 1 ≤ w1.heap.size) := Lib.hid (Nat.le_trans HZ.out hG1.size)
    have HR1 := Lib.hid hR1
    have q0 : (w1.alloc (.cells #[.string (txt x1), .string (txt x2)] 46)).cell? ⟨w1.heap.size, 0, none⟩ = some (.string (txt x1)) := (Blk.new w1 46 #[.string (txt x1), .string (txt x2)]).cell 0
    have q1 : (w1.alloc (.cells #[.string (txt x1), .string (txt x2)] 46)).cell? ⟨w1.heap.size, 1, none⟩ = some (.string (txt x2)) := (Blk.new w1 46 #[.string (txt x1), .string (txt x2)]).cell 1
    have HAL : Hid (Below w1.heap.size w1 ((w1.alloc (.cells #[.string (txt x1), .string (txt x2)] 46)).alloc (.cells #[.string (txt x1), .string (txt x2)] 46))) := Lib.hid ((Below.refl _ _).alloc (Nat.le_refl _) _ |>.alloc (by simp) _)
    have HOB : Hid (OwnS (w.heap.size + 1) ((w1.alloc (.cells #[.string (txt x1), .string (txt x2)] 46)).alloc (.cells #[.string (txt x1), .string (txt x2)] 46)) (.slice A o.length c) o) := Lib.hid (HO1.out.below HAL.out)
    have HBB : Hid (Blk ((w1.alloc (.cells #[.string (txt x1), .string (txt x2)] 46)).alloc (.cells #[.string (txt x1), .string (txt x2)] 46)) (w1.heap.size + 1) 46 #[.string (txt x1), .string (txt x2)]) := Lib.hid (by have h := Blk.new (w1.alloc (.cells #[.string (txt x1), .string (txt x2)] 46)) 46 #[.string (txt x1), .string (txt x2)]; rwa [show (w1.alloc (.cells #[.string (txt x1), .string (txt x2)] 46)).heap.size = w1.heap.size + 1 by simp] at h)
    have HBS : Hid (w.heap.size + 1 ≤ ((w1.alloc (.cells #[.string (txt x1), .string (txt x2)] 46)).alloc (.cells #[.string (txt x1), .string (txt x2)] 46)).heap.size) := Lib.hid (Nat.le_trans HZ1.out HAL.out.size)
    have HON : Hid (∀ u ∈ [Value.string (txt x1), .string (txt x2)], u.oneCell' = true) := Lib.hid (by simp [Value.oneCell'])
    have HRB : Hid (RdS ((w1.alloc (.cells #[.string (txt x1), .string (txt x2)] 46)).alloc (.cells #[.string (txt x1), .string (txt x2)] 46)) w.heap.size (s.drop (a + n))) := Lib.hid (HR1.out.below HAL.out HR1.out.lt)
    have HLA : Hid (Below w.heap.size w ((w1.alloc (.cells #[.string (txt x1), .string (txt x2)] 46)).alloc (.cells #[.string (txt x1), .string (txt x2)] 46))) := Lib.hid (HB1.out.trans (HAL.out.mono HB1.out.size))
    clear hR1 hG1 C
    go_wp2_with (at_builtin; refine wpList_append_k (P := Tryd.prog) (ts := 23) Tryd.underlying23 Tryd.cellsSt szeroN (by omega) rfl _ _ rfl rfl (w.heap.size + 1) (.slice A o.length c) o.length (stC o) rfl HOB.out (w1.heap.size + 1) rfl [.string (txt x1), .string (txt x2)] HBB.out rfl HON.out (by omega) (by omega) HBS.out ?_; intro v' w' hap)
    obtain ⟨A9, c9, rfl⟩ := OwnS.shape (own_snoc (x := (x1, x2)) hap.1 : OwnS (w.heap.size + 1) w' v' (o ++ [(x1, x2)]))
    have HOW9 : Hid (OwnS (w.heap.size + 1) w' (.slice A9 (o ++ [(x1, x2)]).length c9) (o ++ [(x1, x2)])) := Lib.hid (own_snoc (x := (x1, x2)) hap.1)
    have hb9 := hap.below HOB.out HBS.out
    have HB9 : Hid (Below w.heap.size w w') := Lib.hid (HLA.out.trans (hb9.mono (Nat.le_succ _)))
    have HR9 : Hid (RdS w' w.heap.size (s.drop (a + n))) := Lib.hid (HRB.out.below hb9 (Nat.lt_succ_self _))
    have HZ9 : Hid (w.heap.size + 1 ≤ w'.heap.size) := Lib.hid (Nat.le_trans HBS.out hb9.size)
    clear hap hb9
    go_wp2
    go_roundw
    case rel => exact ⟨o ++ [(x1, x2)], a + n, hn2, HOW9, HNX, HR9, HB9, HZ9⟩
    case measure =>
     show leftM w' w.heap.size < leftM wr w.heap.size
     rw [leftM_of HR9.out, leftM_of HR.out, List.length_drop, List.length_drop]
     omega
  ·have hp : o.length ≠ 0 := fun e => h0 (List.eq_nil_of_length_eq_zero e)
   have j0 : ((o.length : Int) == 0) = false := beq_eq_false_iff_ne.2 (by omega)
   have j1 : (o.length == 0) = false := beq_eq_false_iff_ne.2 hp
   by_cases hd : s.drop a = []
   ·have HF := Lib.hid (HL.out.end_ ha h0 hd)
    rw [hd] at y0
    have e0 : txt [] = (⟨#[]⟩ : ByteArray) := rfl
    clear hd h0 td HL
    go_wp2
    go_ret3
    rw [HF.out]
    exact ⟨_, rfl, (HOW.out.mono (Nat.le_succ _)).way, HB.out⟩
   ·have GO := HL.out.go ha (.inr hd)
    have k0 : (s.drop a == []) = false := beq_eq_false_iff_ne.2 hd
    have k1 : (s.drop a).isEmpty = false := by simpa using hd
    clear hd h0
    cases hD : stepD o.length (s.drop a) with
    | inr ep =>
     obtain ⟨e, p⟩ := ep
     obtain ⟨he, hp⟩ := stepD_bad hD
     have HF := Lib.hid (GO.1 e p hD)
     have C : Hid (Calls Tryd.prog 20 #[.pointer (some ⟨w.heap.size, 0, none⟩), .int .i64 (o.length : Int)] wr (fun r w' => ∃ x y, RdP w.heap.size ((s.drop a).drop p) (.tuple #[.agg #[.string (txt x), .string (txt y)], .int .i64 (e : Int)]) wr r w')) := Lib.hid ((step_any w.heap.size (s.drop a) o.length HDL.out wr HR.out).mono fun r w' k => by unfold StpP at k; rw [hD] at k; exact k)
     have hdl : ((s.drop a).drop p).length = s.length - (a + p) := by rw [List.drop_drop, List.length_drop]
     have hal : a + p ≤ s.length := by rw [List.length_drop] at hp; omega
     have e0 : ((e : Int) == 0) = false := beq_eq_false_iff_ne.2 (by omega)
     have e1 : ((e : Int) != 0) = true := by unfold bne; rw [e0]; rfl
     have e2 : (e == 0) = false := beq_eq_false_iff_ne.2 (by omega)
     clear he hp hD
     generalize (s.drop a).drop p = lf at C hdl
     have hlz := txt_size lf
     obtain ⟨ll, hll⟩ : ∃ ll, ll = lf.length := ⟨_, rfl⟩
     rw [← hll] at hdl hlz
     have hlw : IntKind.i64.wrap ((s.length : Int) - (ll : Int)) = ((a + p : Nat) : Int) := by rw [IntWalk.i64_in _ (by omega)]; omega
     clear hll
     go_wp2_with fail
     refine C.out.mono ?_
     rintro r w1 ⟨x, y, rfl, hR1, hG1⟩
     have HB1 := Lib.hid (HB.out.grown hG1 HB.out.size (fun k hk => by injection hk with hk; omega))
     have HBA : Hid (Below w.heap.size w (w1.alloc (.cells #[.string (txt x), .string (txt y)] 46))) := Lib.hid (HB1.out.alloc HB1.out.size _)
     have HRA : Hid (RdS (w1.alloc (.cells #[.string (txt x), .string (txt y)] 46)) w.heap.size lf) := Lib.hid (hR1.alloc _)
     have u0 : (w1.alloc (.cells #[.string (txt x), .string (txt y)] 46)).cell? ⟨w.heap.size, 0, none⟩ = some (.string (txt lf)) := (HRA.out.cell 0).trans rfl
     have u1 : (w1.alloc (.cells #[.string (txt x), .string (txt y)] 46)).drew.cell? ⟨w.heap.size, 0, none⟩ = some (.string (txt lf)) := ((HRA.out.below (Below.refl _ _).drew HRA.out.lt).cell 0).trans rfl
     have HFE : Hid (∀ i, i = ((a + p : Nat) : Int) → PrsP (parseX s) w (.returned (.tuple #[.slice none 0 0, .int .i64 (e : Int), .int .i64 i])) (w1.alloc (.cells #[.string (txt x), .string (txt y)] 46)).drew) := Lib.hid (fun i hi => PrsP.bad HF.out hi HBA.out.drew)
     clear hR1 hG1 C hdl hal
     go_wp2_with fail
     go_region
     all_goals go_wp2_with fail
     all_goals go_ret3
     all_goals exact HFE.out _ (by first | rfl | omega)
    | inl xn =>
     obtain ⟨x, n⟩ := xn
     obtain ⟨hn1, hn2, hn3⟩ := GO.2 x n hD
     have HNX := Lib.hid hn1
     have o6 := (hn1 : PrS s (o ++ [x]) (a + n)).six
     rw [List.length_append, List.length_singleton] at o6
     have C : Hid (Calls Tryd.prog 20 #[.pointer (some ⟨w.heap.size, 0, none⟩), .int .i64 (o.length : Int)] wr (RdP w.heap.size (s.drop (a + n)) (.tuple #[.agg #[.string (txt x.1), .string (txt x.2)], .int .i64 0]) wr)) := Lib.hid ((step_any w.heap.size (s.drop a) o.length HDL.out wr HR.out).mono fun r w' k => by unfold StpP at k; rw [hD] at k; simp only [List.drop_drop] at k; exact k)
     clear hD hn1
     obtain ⟨x1, x2⟩ := x
     go_wp2_with fail
     refine C.out.mono ?_
     rintro r w1 ⟨rfl, hR1, hG1⟩
     have HB1 := Lib.hid (HB.out.grown hG1 HB.out.size (fun k hk => by injection hk with hk; omega))
     have HO1 : Hid (OwnS (w.heap.size + 1) w1 (.slice A o.length c) o) := Lib.hid (OwnK.keep HOW.out (fun k hk => hG1.block k (HOW.out.lt k hk).2 (fun e => by injection e with e; have := (HOW.out.lt k hk).1; omega)))
     have HZ1 : Hid (w.heap.size + 1 ≤ w1.heap.size) := Lib.hid (Nat.le_trans HZ.out hG1.size)
     have HR1 := Lib.hid hR1
     have q0 : (w1.alloc (.cells #[.string (txt x1), .string (txt x2)] 46)).cell? ⟨w1.heap.size, 0, none⟩ = some (.string (txt x1)) := (Blk.new w1 46 #[.string (txt x1), .string (txt x2)]).cell 0
     have q1 : (w1.alloc (.cells #[.string (txt x1), .string (txt x2)] 46)).cell? ⟨w1.heap.size, 1, none⟩ = some (.string (txt x2)) := (Blk.new w1 46 #[.string (txt x1), .string (txt x2)]).cell 1
     have HAL : Hid (Below w1.heap.size w1 ((w1.alloc (.cells #[.string (txt x1), .string (txt x2)] 46)).alloc (.cells #[.string (txt x1), .string (txt x2)] 46))) := Lib.hid ((Below.refl _ _).alloc (Nat.le_refl _) _ |>.alloc (by simp) _)
     have HOB : Hid (OwnS (w.heap.size + 1) ((w1.alloc (.cells #[.string (txt x1), .string (txt x2)] 46)).alloc (.cells #[.string (txt x1), .string (txt x2)] 46)) (.slice A o.length c) o) := Lib.hid (HO1.out.below HAL.out)
     have HBB : Hid (Blk ((w1.alloc (.cells #[.string (txt x1), .string (txt x2)] 46)).alloc (.cells #[.string (txt x1), .string (txt x2)] 46)) (w1.heap.size + 1) 46 #[.string (txt x1), .string (txt x2)]) := Lib.hid (by have h := Blk.new (w1.alloc (.cells #[.string (txt x1), .string (txt x2)] 46)) 46 #[.string (txt x1), .string (txt x2)]; rwa [show (w1.alloc (.cells #[.string (txt x1), .string (txt x2)] 46)).heap.size = w1.heap.size + 1 by simp] at h)
     have HBS : Hid (w.heap.size + 1 ≤ ((w1.alloc (.cells #[.string (txt x1), .string (txt x2)] 46)).alloc (.cells #[.string (txt x1), .string (txt x2)] 46)).heap.size) := Lib.hid (Nat.le_trans HZ1.out HAL.out.size)
     have HON : Hid (∀ u ∈ [Value.string (txt x1), .string (txt x2)], u.oneCell' = true) := Lib.hid (by simp [Value.oneCell'])
     have HRB : Hid (RdS ((w1.alloc (.cells #[.string (txt x1), .string (txt x2)] 46)).alloc (.cells #[.string (txt x1), .string (txt x2)] 46)) w.heap.size (s.drop (a + n))) := Lib.hid (HR1.out.below HAL.out HR1.out.lt)
     have HLA : Hid (Below w.heap.size w ((w1.alloc (.cells #[.string (txt x1), .string (txt x2)] 46)).alloc (.cells #[.string (txt x1), .string (txt x2)] 46))) := Lib.hid (HB1.out.trans (HAL.out.mono HB1.out.size))
     clear hR1 hG1 C
     go_wp2_with (at_builtin; refine wpList_append_k (P := Tryd.prog) (ts := 23) Tryd.underlying23 Tryd.cellsSt szeroN (by omega) rfl _ _ rfl rfl (w.heap.size + 1) (.slice A o.length c) o.length (stC o) rfl HOB.out (w1.heap.size + 1) rfl [.string (txt x1), .string (txt x2)] HBB.out rfl HON.out (by omega) (by omega) HBS.out ?_; intro v' w' hap)
     obtain ⟨A9, c9, rfl⟩ := OwnS.shape (own_snoc (x := (x1, x2)) hap.1 : OwnS (w.heap.size + 1) w' v' (o ++ [(x1, x2)]))
     have HOW9 : Hid (OwnS (w.heap.size + 1) w' (.slice A9 (o ++ [(x1, x2)]).length c9) (o ++ [(x1, x2)])) := Lib.hid (own_snoc (x := (x1, x2)) hap.1)
     have hb9 := hap.below HOB.out HBS.out
     have HB9 : Hid (Below w.heap.size w w') := Lib.hid (HLA.out.trans (hb9.mono (Nat.le_succ _)))
     have HR9 : Hid (RdS w' w.heap.size (s.drop (a + n))) := Lib.hid (HRB.out.below hb9 (Nat.lt_succ_self _))
     have HZ9 : Hid (w.heap.size + 1 ≤ w'.heap.size) := Lib.hid (Nat.le_trans HBS.out hb9.size)
     clear hap hb9
     go_wp2
     go_roundw
     case rel => exact ⟨o ++ [(x1, x2)], a + n, hn2, HOW9, HNX, HR9, HB9, HZ9⟩
     case measure =>
      show leftM w' w.heap.size < leftM wr w.heap.size
      rw [leftM_of HR9.out, leftM_of HR.out, List.length_drop, List.length_drop]
      omega
theorem parse15_any (s : List UInt8) (hs : s.length ≤ 9223372036854775807) (w : World) : Calls Tryd.prog 8 #[.string (txt s)] w (PrsP (parseX s) w) := by
 by_cases h47 : s = [47]
 ·subst h47; exact parse15_root w
 exact parse15_some s h47 hs w
end Go.Proofs.YtikmilcdibldhaaDoor
namespace Go.Proofs.YtikmilcdibldhaaDoor
open Go.RowKit
theorem show_nil {l : List Stp} (h : l = []) : showX l = [47] := by subst h; rfl
theorem show_many {l : List Stp} (h : 6 < l.length) : showX l = [] := by
 unfold showX
 by_cases ha : l.all okS = true
 ·rw [if_pos ha, if_neg (fun e => by subst e; simp at h), if_pos h]
 ·rw [if_neg ha]
def ShT (l : List Stp) (j : Nat) (t : List UInt8) : Prop := t = catT (l.take j) ∧ (l.take j).all okS = true ∧ t.length ≤ 27 * j
theorem ShT.of {l : List Stp} {j : Nat} {t : List UInt8} (h : ShL l j t) : ShT l j t := h
theorem sh_end {l : List Stp} {t : List UInt8} (h : ShL l l.length t) (h0 : l ≠ []) (h6 : ¬ 6 < l.length) : showX l = t := by
 rcases h.end_ with ⟨h1, -, -⟩ | ⟨-, h2, -⟩ | ⟨-, -, h3⟩
 ·exact absurd h1 h0
 ·exact absurd h2 h6
 ·exact h3
theorem bld_blk {w w' : World} {g b : Nat} {cs : Array Value} (hk : Lib.OthersKept 5 (some b) w w') (h : Blk w g 46 cs) (hg : g ≠ b) : Blk w' g 46 cs :=
 hk g _ h (fun e => hg (by injection e)) (fun c fz e => by injection e with _ e2; revert e2; decide)
set_option maxRecDepth 100000 in
set_option maxHeartbeats 8000000 in
theorem show15_in (l : List Stp) (v : Value) (w : World) (hv : WayV w.heap.size w v l) (h0 : l ≠ []) (h6 : ¬ 6 < l.length) (hs : ∀ s ∈ l, s.1.length ≤ 9223372036854775807 ∧ s.2.length ≤ 9223372036854775807) :
  Calls Tryd.prog 11 #[v] w (ShowP l w) := by
 obtain ⟨A, c, rfl⟩ := hv.shape
 have HA := Lib.hid hv
 have HLS := Lib.hid hs
 have HEND : Hid (∀ t, ShL l l.length t → showX l = t) := Lib.hid (fun t h => sh_end h h0 h6)
 have hp : 0 < l.length := List.length_pos_iff.2 h0
 have y0 : ((l.length : Int) == 0) = false := beq_eq_false_iff_ne.2 (by omega)
 have y1 : (l.length == 0) = false := beq_eq_false_iff_ne.2 (by omega)
 have y2 : ¬ (6 : Int) < (l.length : Int) := by omega
 have y3 : decide ((6 : Int) < (l.length : Int)) = false := decide_eq_false y2
 have y4 : decide (6 < l.length) = false := decide_eq_false h6
 have H6 := Lib.hid h6
 have HBL : Hid (Bld (w.alloc (.cells #[.pointer none, .slice none 0 0] 58)) w.heap.size w.heap.size []) := Lib.hid (Bld.fresh w)
 have HB0 : Hid (Below w.heap.size w (w.alloc (.cells #[.pointer none, .slice none 0 0] 58))) := Lib.hid ((Below.refl _ _).alloc (Nat.le_refl _) _)
 have HZ0 : Hid (w.heap.size < (w.alloc (.cells #[.pointer none, .slice none 0 0] 58)).heap.size) := Lib.hid (by simp)
 clear hv hs h0 h6
 go_enter Tryd.func11, Tryd.ntmps11
 go_wp2
 go_loopw [2, 5, 14] (fun _ _ i wr => ∃ (j : Nat) (t : List UInt8), j ≤ l.length ∧ i = .int .i64 (j : Int) ∧ Hid (ShL l j t) ∧ Hid (Bld wr w.heap.size w.heap.size t) ∧ Hid (Below w.heap.size w wr) ∧ Hid (w.heap.size < wr.heap.size)) (fun _ _ i _ => l.length - (intOf i).toNat)
 case atStart => exact ⟨0, [], Nat.zero_le _, rfl, Lib.hid (ShL.zero l), HBL, HB0, HZ0⟩
 case round =>
  obtain ⟨j, t, hj, rfl, HT, HBD, HB, HZ⟩ := hrel
  have i1 : (0 : Int) ≤ (j : Int) := by omega
  by_cases hlt : j < l.length
  ·have i2 : (j : Int) < (l.length : Int) := by omega
   obtain ⟨⟨n, k⟩, hs⟩ : ∃ s, l[j]? = some s := ⟨_, List.getElem?_eq_getElem hlt⟩
   obtain ⟨g, o, rfl, -, -, hgl, q0, q1⟩ := (HA.out.under HB.out (Nat.le_refl _) (Nat.le_refl _)).at hs
   have hmem : (n, k) ∈ l := List.mem_of_getElem? hs
   have n1 : j < l.length := hlt
   have HBX : Hid (Blk (wr.alloc (.cells #[.string (txt n), .string (txt k)] 46)) wr.heap.size 46 #[.string (txt n), .string (txt k)]) := Lib.hid (Blk.new _ _ _)
   have HALX : Hid (Below wr.heap.size wr (wr.alloc (.cells #[.string (txt n), .string (txt k)] 46))) := Lib.hid ((Below.refl _ _).alloc (Nat.le_refl _) _)
   have HBDX : Hid (Bld (wr.alloc (.cells #[.string (txt n), .string (txt k)] 46)) w.heap.size w.heap.size t) := Lib.hid (HBD.out.below HALX.out)
   have HWX : Hid (Below w.heap.size w (wr.alloc (.cells #[.string (txt n), .string (txt k)] 46))) := Lib.hid (HB.out.trans (HALX.out.mono HB.out.size))
   have HSX : Hid (w.heap.size ≤ (wr.alloc (.cells #[.string (txt n), .string (txt k)] 46)).heap.size) := Lib.hid (Nat.le_trans HB.out.size HALX.out.size)
   have c1 := Lib.hid (ident_any n (HLS.out _ hmem).1 (wr.alloc (.cells #[.string (txt n), .string (txt k)] 46)))
   have c2 := Lib.hid (ident_any k (HLS.out _ hmem).2 (wr.alloc (.cells #[.string (txt n), .string (txt k)] 46)))
   have x0 : (wr.alloc (.cells #[.string (txt n), .string (txt k)] 46)).cell? ⟨wr.heap.size, 0, none⟩ = some (.string (txt n)) := (HBX.out.cell 0).trans rfl
   have x1 : (wr.alloc (.cells #[.string (txt n), .string (txt k)] 46)).cell? ⟨wr.heap.size, 1, none⟩ = some (.string (txt k)) := (HBX.out.cell 1).trans rfl
   have tk : (txt k).toList = k := txt_toList k
   cases hn : identX n with
   | false =>
    have HF : Hid (showX l = []) := Lib.hid (show_bad hmem (by unfold okS; simp [hn]))
    have HN := Lib.hid hn
    clear hn hs hmem HT c2
    go_wp2_with fail
    refine c1.out.mono ?_
    rintro e w1 ⟨rfl, rfl⟩
    rw [HN.out]
    clear c1
    go_wp2
    go_ret
    exact ⟨by rw [HF.out]; rfl, HWX.out⟩
   | true =>
    have HN := Lib.hid hn
    have hnl := ident_len hn
    have htl := HT.out.2.2
    have h6 := H6.out
    have sz2 : (txt n).size ≤ 12 := by rw [txt_size]; omega
    have cat1 : (⟨#[47]⟩ : ByteArray) ++ txt n = txt (47 :: n) := by rw [show (⟨#[47]⟩ : ByteArray) = txt [47] from rfl, txt_catS]; rfl
    have C1 : Hid (Calls Tryd.prog 24 #[.pointer (some ⟨w.heap.size, 0, none⟩), .string (txt (47 :: n))] (wr.alloc (.cells #[.string (txt n), .string (txt k)] 46)) fun e w' => (∃ m : Int, e = .returned (.tuple #[.int .i64 m, .nilIface])) ∧ BldP (wr.alloc (.cells #[.string (txt n), .string (txt k)] 46)) w.heap.size w.heap.size (t ++ 47 :: n) w') := Lib.hid ((bstr_any w.heap.size w.heap.size t (47 :: n) _ HBDX.out (by rw [List.length_cons]; omega) HSX.out).mono fun e w' h => ⟨⟨_, h.1⟩, h.2⟩)
    have HGE : Hid (wr.heap.size ≠ w.heap.size) := Lib.hid (Nat.ne_of_gt HZ.out)
    by_cases h0 : k = []
    ·have HT2 : Hid (ShL l (j + 1) (t ++ (47 :: n))) := Lib.hid (by subst h0; have h := HT.out.step hs (by unfold okS; simp [hn]); rwa [stepT_no rfl] at h)
     have ke : txt k = (⟨#[]⟩ : ByteArray) := by rw [h0]; rfl
     rw [ke] at x1 q1 HBX HALX HBDX HWX HSX c1 x0 C1
     clear hn hs hmem hnl htl h6 c2 HT h0 ke tk
     go_wp2_with fail
     refine c1.out.mono ?_
     rintro e w1 ⟨rfl, rfl⟩
     rw [HN.out]
     clear c1
     go_wp2_with fail
     refine C1.out.mono ?_
     rintro e w1 ⟨⟨m, rfl⟩, hbd, hbb, hbk⟩
     have HBD1 := Lib.hid hbd
     have HB1 : Hid (Below w.heap.size w w1) := Lib.hid (HWX.out.trans hbb)
     have HZ1 : Hid (w.heap.size < w1.heap.size) := Lib.hid (Nat.lt_of_lt_of_le HZ.out (Nat.le_trans HALX.out.size hbb.size))
     have HBX1 := Lib.hid (bld_blk hbk HBX.out HGE.out)
     have z1 : w1.cell? ⟨wr.heap.size, 1, none⟩ = some (.string ⟨#[]⟩) := (HBX1.out.cell 1).trans rfl
     clear hbd hbb hbk C1
     go_wp2
     go_roundw
     case rel => exact ⟨j + 1, _, by omega, by go_num, HT2, HBD1, HB1, HZ1⟩
     case measure => simp [intOf]; omega
    ·have g1 : k.isEmpty = false := by simpa using h0
     have g2 : (k == []) = false := beq_eq_false_iff_ne.2 h0
     have g3 : (!k.isEmpty) = true := by rw [g1]; rfl
     have g4 : (k != []) = true := by unfold bne; rw [g2]; rfl
     cases hk : identX k with
     | false =>
      have HF : Hid (showX l = []) := Lib.hid (show_bad hmem (by unfold okS; simp [hk, h0]))
      have HK := Lib.hid hk
      clear hn hk hs hmem hnl htl h6 HT h0 C1
      go_wp2_with fail
      refine c1.out.mono ?_
      rintro e w1 ⟨rfl, rfl⟩
      rw [HN.out]
      clear c1
      go_wp2_with fail
      refine c2.out.mono ?_
      rintro e w1 ⟨rfl, rfl⟩
      rw [HK.out]
      clear c2
      go_wp2
      go_ret
      exact ⟨by rw [HF.out]; rfl, HWX.out⟩
     | true =>
      have HK := Lib.hid hk
      have hkl := ident_len hk
      have HT2 : Hid (ShL l (j + 1) (t ++ (47 :: n) ++ (91 :: k ++ [93]))) := Lib.hid (by have h := HT.out.step hs (by unfold okS; simp [hn, hk]); rw [stepT_key hk] at h; rwa [List.append_assoc])
      have sz3 : (txt k).size ≤ 12 := by rw [txt_size]; omega
      have cat2 : (⟨#[91]⟩ : ByteArray) ++ txt k ++ ⟨#[93]⟩ = txt (91 :: k ++ [93]) := by rw [show (⟨#[91]⟩ : ByteArray) = txt [91] from rfl, show (⟨#[93]⟩ : ByteArray) = txt [93] from rfl, txt_catS, txt_catS]; rfl
      have C2 : ∀ W, Bld W w.heap.size w.heap.size (t ++ 47 :: n) → w.heap.size ≤ W.heap.size → Hid (Calls Tryd.prog 24 #[.pointer (some ⟨w.heap.size, 0, none⟩), .string (txt (91 :: k ++ [93]))] W fun e w' => (∃ m : Int, e = .returned (.tuple #[.int .i64 m, .nilIface])) ∧ BldP W w.heap.size w.heap.size (t ++ 47 :: n ++ (91 :: k ++ [93])) w') := fun W h1 h2 => Lib.hid ((bstr_any w.heap.size w.heap.size (t ++ 47 :: n) (91 :: k ++ [93]) _ h1 (by simp only [List.length_cons, List.length_append, List.length_nil]; omega) h2).mono fun e w' h => ⟨⟨_, h.1⟩, h.2⟩)
      clear hn hk hs hmem hnl hkl htl h6 HT h0
      go_wp2_with fail
      refine c1.out.mono ?_
      rintro e w1 ⟨rfl, rfl⟩
      rw [HN.out]
      clear c1
      go_wp2_with fail
      refine c2.out.mono ?_
      rintro e w1 ⟨rfl, rfl⟩
      rw [HK.out]
      clear c2
      go_wp2_with fail
      refine C1.out.mono ?_
      rintro e w1 ⟨⟨m, rfl⟩, hbd, hbb, hbk⟩
      have HB1 : Hid (Below w.heap.size w w1) := Lib.hid (HWX.out.trans hbb)
      have HZ1 : Hid (w.heap.size < w1.heap.size) := Lib.hid (Nat.lt_of_lt_of_le HZ.out (Nat.le_trans HALX.out.size hbb.size))
      have HBX1 := Lib.hid (bld_blk hbk HBX.out HGE.out)
      have C3 := C2 w1 hbd HB1.out.size
      have z1 : w1.cell? ⟨wr.heap.size, 1, none⟩ = some (.string (txt k)) := (HBX1.out.cell 1).trans rfl
      clear hbd hbb hbk C1 C2
      go_wp2_with fail
      refine C3.out.mono ?_
      rintro e w2 ⟨⟨m2, rfl⟩, hbd, hbb, hbk⟩
      have HBD2 := Lib.hid hbd
      have HB2 : Hid (Below w.heap.size w w2) := Lib.hid (HB1.out.trans hbb)
      have HZ2 : Hid (w.heap.size < w2.heap.size) := Lib.hid (Nat.lt_of_lt_of_le HZ1.out hbb.size)
      clear hbd hbb hbk C3
      go_wp2
      go_roundw
      case rel => exact ⟨j + 1, _, by omega, by go_num, HT2, HBD2, HB2, HZ2⟩
      case measure => simp [intOf]; omega
  ·obtain rfl : j = l.length := by omega
   have i2 : ¬ (l.length : Int) < (l.length : Int) := by omega
   have HF := Lib.hid (HEND.out t HT.out)
   have C := Lib.hid (bstring_any w.heap.size w.heap.size t wr HBD.out HB.out.size)
   clear HT hlt
   go_wp2_with fail
   refine C.out.mono ?_
   rintro e w1 ⟨rfl, hbd, hbb, hbk⟩
   have HB1 : Hid (Below w.heap.size w w1) := Lib.hid (HB.out.trans hbb)
   clear hbd hbb hbk C
   go_wp2
   go_ret
   exact ⟨by rw [HF.out]; rfl, HB1.out⟩
set_option maxRecDepth 100000 in
set_option maxHeartbeats 1000000 in
theorem show15_any (l : List Stp) (v : Value) (w : World) (hv : WayV w.heap.size w v l) (hl : l.length ≤ 1000000) (hs : ∀ s ∈ l, s.1.length ≤ 9223372036854775807 ∧ s.2.length ≤ 9223372036854775807) :
  Calls Tryd.prog 11 #[v] w (ShowP l w) := by
 by_cases h0 : l = []
 ·obtain ⟨A, c, rfl⟩ := hv.shape
  have HF := Lib.hid (show_nil h0)
  have y0 : ((l.length : Int) == 0) = true := beq_iff_eq.2 (by rw [h0]; rfl)
  have y1 : (l.length == 0) = true := beq_iff_eq.2 (by rw [h0]; rfl)
  clear hv hs h0
  go_enter Tryd.func11, Tryd.ntmps11
  go_wp2
  go_ret
  exact ⟨by rw [HF.out]; rfl, Below.refl _ _⟩
 by_cases h6 : 6 < l.length
 ·obtain ⟨A, c, rfl⟩ := hv.shape
  have HF := Lib.hid (show_many h6)
  have y0 : ((l.length : Int) == 0) = false := beq_eq_false_iff_ne.2 (by omega)
  have y1 : (l.length == 0) = false := beq_eq_false_iff_ne.2 (by omega)
  have y2 : (6 : Int) < (l.length : Int) := by omega
  have y3 : decide ((6 : Int) < (l.length : Int)) = true := decide_eq_true y2
  have y4 : decide (6 < l.length) = true := decide_eq_true h6
  clear hv hs h0 h6
  go_enter Tryd.func11, Tryd.ntmps11
  go_wp2
  go_ret
  exact ⟨by rw [HF.out]; rfl, Below.refl _ _⟩
 exact show15_in l v w hv h0 h6 hs
end Go.Proofs.YtikmilcdibldhaaDoor
