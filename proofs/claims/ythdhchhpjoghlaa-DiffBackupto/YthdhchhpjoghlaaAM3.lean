/- VadRefC PthRefA TreRefA TreRefB -/
import Derived.Test.YthdhchhpjoghlaaAM2
import Derived.Test.YthdhchhpjoghlaaAM0
import Derived.Outline
set_option linter.unusedSimpArgs false
set_option linter.unusedVariables false
namespace Go.Proofs.Ythdhchhpjoghlaa
open Go.RowKit
attribute [local go_sem] Oper.semAt_some
theorem step_neq10 (s t : Stp) (W : World) : (binOp .neq 39 (.agg #[.string (txt s.1), .string (txt s.2)]) (.agg #[.string (txt t.1), .string (txt t.2)])).run Try.prog W = .ok (.bool (!decide (s = t))) W := by
 rw [run_neq_struct, show (10000 : Nat) = 9999 + 1 from rfl, run_equalIn_agg W 9999 39 _ _ (by simp only [Program.fieldsOf, Try.underlying39]) (by kernel_rfl)]
 simp only [Program.fieldsOf, Try.underlying39]
 simp only [Op.eqFields]
 go_simp
 simp only [txt_toList]
 by_cases h1 : s.1 = t.1
 ·by_cases h2 : s.2 = t.2
  ·have h : s = t := Prod.ext h1 h2
   simp [h]
  ·have h : s ≠ t := fun e => h2 (congrArg Prod.snd e)
   simp [h1, h2, h]
 ·have h : s ≠ t := fun e => h1 (congrArg Prod.fst e)
  simp [h1, h]
set_option maxRecDepth 100000 in
set_option maxHeartbeats 4000000 in
theorem rsteps10_any (l m : List Stp) (va vb : Value) (w : World) (ha : WayV w.heap.size w va l) (hb : WayV w.heap.size w vb m) (hl : l.length ≤ 1000000) (hm : m.length ≤ 1000000) :
  Calls Try.prog 22 #[va, vb] w (Ans9 (.bool (decide (l = m))) w) := by
 obtain ⟨A, c, rfl⟩ := ha.shape
 obtain ⟨B, d, rfl⟩ := hb.shape
 have HA := Lib.hid ha
 have HB := Lib.hid hb
 clear ha hb
 have l0 : (l.length : Int) ≤ 1000000 := by omega
 have m0 : (m.length : Int) ≤ 1000000 := by omega
 go_enter Try.func22, Try.ntmps22
 by_cases hlm : l.length = m.length
 ·have e0 : ((l.length : Int) != (m.length : Int)) = false := by unfold bne; rw [beq_iff_eq.2 (by omega : (l.length : Int) = (m.length : Int))]; rfl
  have HLM := Lib.hid hlm
  clear hlm
  go_wp2_with fail
  go_loopw [5] (fun v wr => ∃ j : Nat, j ≤ l.length ∧ v = .int .i64 (j : Int) ∧ Hid (∀ k, k < j → l[k]? = m[k]?) ∧ Hid (Below w.heap.size w wr)) (fun v _ => l.length - (intOf v).toNat)
  case atStart => exact ⟨0, Nat.zero_le _, rfl, Lib.hid (fun k hk => absurd hk (Nat.not_lt_zero _)), Lib.hid (Below.refl _ _)⟩
  case round =>
   obtain ⟨j, hj, rfl, HE, HW⟩ := hrel
   have i1 : (0 : Int) ≤ (j : Int) := by omega
   by_cases hlt : j < l.length
   ·obtain ⟨s, hs⟩ : ∃ s, l[j]? = some s := ⟨_, List.getElem?_eq_getElem hlt⟩
    obtain ⟨t, ht⟩ : ∃ t, m[j]? = some t := ⟨_, List.getElem?_eq_getElem (by have := HLM.out; omega)⟩
    obtain ⟨g, o, rfl, -, h2, h3, h4, h5⟩ := (HA.out.under HW.out (Nat.le_refl _) (Nat.le_refl _)).at hs
    obtain ⟨g', o', rfl, -, k2, k3, k4, k5⟩ := (HB.out.under HW.out (Nat.le_refl _) (Nat.le_refl _)).at ht
    have i2 : (j : Int) < (l.length : Int) := by omega
    have i3 : (j : Int) < (m.length : Int) := by have := HLM.out; omega
    have HS0 : Hid (wr.drew.cell? ⟨g, o + j * 2, none⟩ = some (.string (txt s.1)) ∧ wr.drew.cell? ⟨g, o + j * 2 + 1, none⟩ = some (.string (txt s.2)) ∧ wr.drew.cell? ⟨g', o' + j * 2, none⟩ = some (.string (txt t.1)) ∧ wr.drew.cell? ⟨g', o' + j * 2 + 1, none⟩ = some (.string (txt t.2))) := Lib.hid ⟨h4, h5, k4, k5⟩
    have HST := Lib.hid (And.intro hs ht)
    have HLT := Lib.hid hlt
    have n0 : j < l.length := hlt
    have n1 : j < m.length := by have := HLM.out; omega
    have e1 : ∀ W, (binOp .neq 39 (.agg #[.string (txt s.1), .string (txt s.2)]) (.agg #[.string (txt t.1), .string (txt t.2)])).run Try.prog W = .ok (.bool (!decide (s = t))) W := fun W => step_neq10 s t W
    have HWD : Hid (Below w.heap.size w wr.drew) := Lib.hid HW.out.drew
    clear hs ht h4 h5 k4 k5 hlt
    by_cases hst : s = t
    ·have b0 : (!decide (s = t)) = false := by rw [decide_eq_true hst]; rfl
     rw [b0] at e1
     have HEQ := Lib.hid hst
     clear hst b0
     go_wp2_with fail
     refine wp_region_noPanic ?_
     refine wp_region_held_drew (S := fun _ => True) (by kernel_rfl) trivial (fun hS => ?_)
     refine tkH 0 hS ?_
     refine tkH 1 hS ?_
     refine tkH 2 hS ?_
     refine held_more (S' := fun w' => w'.cell? ⟨g, o + j * 2, none⟩ = some (.string (txt s.1)) ∧ w'.cell? ⟨g, o + j * 2 + 1, none⟩ = some (.string (txt s.2)) ∧ w'.cell? ⟨g', o' + j * 2, none⟩ = some (.string (txt t.1)) ∧ w'.cell? ⟨g', o' + j * 2 + 1, none⟩ = some (.string (txt t.2))) (fun _ _ => trivial) _ _ _ _ ?_
     replace hS := HS0.out
     refine tkH 3 hS ?_ (hy := fun w hSw => by have q0 := hSw.1; have q1 := hSw.2.1; (go_simp <;> with_reducible rfl))
     refine tkH 4 hS ?_
     refine tkH 5 hS ?_
     refine tkH 6 hS ?_
     refine tkH 7 hS ?_ (hy := fun w hSw => by have q0 := hSw.2.2.1; have q1 := hSw.2.2.2; (go_simp <;> with_reducible rfl))
     refine tkH 8 hS ?_
     refine wpAnyH_done (by kernel_rfl) ?_ _
     refine NoPanic.normal ?_
     clear hS
     go_wp2
     go_roundw
     case rel => exact ⟨j + 1, HLT.out, by go_num, Lib.hid (fun k hk => by
      by_cases hkj : k < j
      ·exact HE.out k hkj
      ·have e : k = j := by omega
       subst e
       rw [HST.out.1, HST.out.2, HEQ.out]), HWD⟩
     case measure => have := HLT.out; simp [intOf]; omega
    ·have b0 : (!decide (s = t)) = true := by rw [decide_eq_false hst]; rfl
     rw [b0] at e1
     have HX : Hid (decide (l = m) = false) := Lib.hid (decide_eq_false fun e => hst (by have h1 := HST.out.1; have h2 := HST.out.2; rw [e, h2] at h1; injection h1 with h1; exact h1.symm))
     clear hst b0
     go_wp2_with fail
     refine wp_region_noPanic ?_
     refine wp_region_held_drew (S := fun _ => True) (by kernel_rfl) trivial (fun hS => ?_)
     refine tkH 0 hS ?_
     refine tkH 1 hS ?_
     refine tkH 2 hS ?_
     refine held_more (S' := fun w' => w'.cell? ⟨g, o + j * 2, none⟩ = some (.string (txt s.1)) ∧ w'.cell? ⟨g, o + j * 2 + 1, none⟩ = some (.string (txt s.2)) ∧ w'.cell? ⟨g', o' + j * 2, none⟩ = some (.string (txt t.1)) ∧ w'.cell? ⟨g', o' + j * 2 + 1, none⟩ = some (.string (txt t.2))) (fun _ _ => trivial) _ _ _ _ ?_
     replace hS := HS0.out
     refine tkH 3 hS ?_ (hy := fun w hSw => by have q0 := hSw.1; have q1 := hSw.2.1; (go_simp <;> with_reducible rfl))
     refine tkH 4 hS ?_
     refine tkH 5 hS ?_
     refine tkH 6 hS ?_
     refine tkH 7 hS ?_ (hy := fun w hSw => by have q0 := hSw.2.2.1; have q1 := hSw.2.2.2; (go_simp <;> with_reducible rfl))
     refine tkH 8 hS ?_
     refine wpAnyH_done (by kernel_rfl) ?_ _
     refine NoPanic.normal ?_
     clear hS
     go_wp2
     go_ret
     exact ⟨by rw [HX.out]; rfl, HWD.out⟩
   ·have i2 : ¬ (j : Int) < (l.length : Int) := by omega
    have HX : Hid (decide (l = m) = true) := Lib.hid (decide_eq_true (List.ext_getElem? fun k => by
     by_cases hk : k < j
     ·exact HE.out k hk
     ·rw [List.getElem?_eq_none (by omega), List.getElem?_eq_none (by have := HLM.out; omega)]))
    go_wp2
    go_ret
    exact ⟨by rw [HX.out]; rfl, HW.out⟩
 ·have e0 : ((l.length : Int) != (m.length : Int)) = true := by unfold bne; rw [beq_eq_false_iff_ne.2 (by omega : (l.length : Int) ≠ (m.length : Int))]; rfl
  have HX : Hid (decide (l = m) = false) := Lib.hid (decide_eq_false fun e => hlm (by rw [e]))
  go_wp2
  go_ret
  exact ⟨by rw [HX.out]; rfl, Below.refl _ _⟩
end Go.Proofs.Ythdhchhpjoghlaa
namespace Go.Proofs.Ythdhchhpjoghlaa
open Go.RowKit
theorem under_iff {way front : List Stp} : underX way front = true ↔ ∀ k, k < front.length → way[k]? = front[k]? := by
 unfold underX
 rw [decide_eq_true_eq]
 constructor
 ·intro h k hk
  rw [← h] at hk ⊢
  rw [List.length_take] at hk
  rw [List.getElem?_take_of_lt (by omega)]
 ·intro h
  refine List.ext_getElem? fun k => ?_
  by_cases hk : k < front.length
  ·rw [List.getElem?_take_of_lt hk]; exact h k hk
  ·rw [List.getElem?_take_eq_none (by omega), List.getElem?_eq_none (by omega)]
theorem under_no {way front : List Stp} {k : Nat} (hk : k < front.length) (h : way[k]? ≠ front[k]?) : underX way front = false := by
 cases hu : underX way front with
 | false => rfl
 | true => exact absurd (under_iff.1 hu k hk) h
attribute [local go_sem] Oper.semAt_some
set_option maxRecDepth 100000 in
set_option maxHeartbeats 4000000 in
theorem runder15_any (l m : List Stp) (va vb : Value) (w : World) (ha : WayV w.heap.size w va l) (hb : WayV w.heap.size w vb m) (hl : l.length ≤ 1000000) (hm : m.length ≤ 1000000) :
  Calls Try.prog 36 #[va, vb] w (Ans9 (.bool (underX l m)) w) := by
 obtain ⟨A, c, rfl⟩ := ha.shape
 obtain ⟨B, d, rfl⟩ := hb.shape
 have HA := Lib.hid ha
 have HB := Lib.hid hb
 clear ha hb
 have l0 : (l.length : Int) ≤ 1000000 := by omega
 have m0 : (m.length : Int) ≤ 1000000 := by omega
 go_enter Try.func36, Try.ntmps36
 go_wp2_with fail
 go_loopw [5] (fun v wr => ∃ j : Nat, j ≤ m.length ∧ v = .int .i64 (j : Int) ∧ Hid (∀ k, k < j → l[k]? = m[k]?) ∧ Hid (Below w.heap.size w wr)) (fun v _ => m.length - (intOf v).toNat)
 case atStart => exact ⟨0, Nat.zero_le _, rfl, Lib.hid (fun k hk => absurd hk (Nat.not_lt_zero _)), Lib.hid (Below.refl _ _)⟩
 case round =>
  obtain ⟨j, hj, rfl, HE, HW⟩ := hrel
  have i1 : (0 : Int) ≤ (j : Int) := by omega
  have HWD : Hid (Below w.heap.size w wr.drew) := Lib.hid HW.out.drew
  by_cases hlt : j < m.length
  ·have i3 : (j : Int) < (m.length : Int) := by omega
   obtain ⟨t, ht⟩ : ∃ t, m[j]? = some t := ⟨_, List.getElem?_eq_getElem hlt⟩
   by_cases hll : j < l.length
   ·obtain ⟨s, hs⟩ : ∃ s, l[j]? = some s := ⟨_, List.getElem?_eq_getElem hll⟩
    obtain ⟨g, o, rfl, -, h2, h3, h4, h5⟩ := (HA.out.under HW.out (Nat.le_refl _) (Nat.le_refl _)).at hs
    obtain ⟨g', o', rfl, -, k2, k3, k4, k5⟩ := (HB.out.under HW.out (Nat.le_refl _) (Nat.le_refl _)).at ht
    have i2 : (j : Int) < (l.length : Int) := by omega
    have i4 : ¬ (l.length : Int) ≤ (j : Int) := by omega
    have i5 : decide ((l.length : Int) ≤ (j : Int)) = false := decide_eq_false i4
    have i6 : decide (l.length ≤ j) = false := decide_eq_false (by omega)
    have HS0 : Hid (wr.drew.cell? ⟨g, o + j * 2, none⟩ = some (.string (txt s.1)) ∧ wr.drew.cell? ⟨g, o + j * 2 + 1, none⟩ = some (.string (txt s.2)) ∧ wr.drew.cell? ⟨g', o' + j * 2, none⟩ = some (.string (txt t.1)) ∧ wr.drew.cell? ⟨g', o' + j * 2 + 1, none⟩ = some (.string (txt t.2))) := Lib.hid ⟨h4, h5, k4, k5⟩
    have HST := Lib.hid (And.intro hs ht)
    have HLT := Lib.hid hlt
    have n0 : j < l.length := hll
    have n1 : j < m.length := hlt
    have e1 : ∀ W, (binOp .neq 39 (.agg #[.string (txt s.1), .string (txt s.2)]) (.agg #[.string (txt t.1), .string (txt t.2)])).run Try.prog W = .ok (.bool (!decide (s = t))) W := fun W => step_neq10 s t W
    clear hs ht h4 h5 k4 k5 hlt hll
    by_cases hst : s = t
    ·have b0 : (!decide (s = t)) = false := by rw [decide_eq_true hst]; rfl
     rw [b0] at e1
     have HEQ := Lib.hid hst
     clear hst b0
     go_wp2_with fail
     refine wp_region_noPanic ?_
     refine wp_region_held_drew (S := fun _ => True) (by kernel_rfl) trivial (fun hS => ?_)
     refine tkH 0 hS ?_
     refine tkH 1 hS ?_
     refine tkH 2 hS ?_
     refine tkH 3 hS ?_
     refine tkH 4 hS ?_
     refine tkH 5 hS ?_
     refine tkH 6 hS ?_
     refine tkH 7 hS ?_
     refine held_more (S' := fun w' => w'.cell? ⟨g, o + j * 2, none⟩ = some (.string (txt s.1)) ∧ w'.cell? ⟨g, o + j * 2 + 1, none⟩ = some (.string (txt s.2)) ∧ w'.cell? ⟨g', o' + j * 2, none⟩ = some (.string (txt t.1)) ∧ w'.cell? ⟨g', o' + j * 2 + 1, none⟩ = some (.string (txt t.2))) (fun _ _ => trivial) _ _ _ _ ?_
     replace hS := HS0.out
     refine tkH 8 hS ?_ (hy := fun w hSw => by have q0 := hSw.1; have q1 := hSw.2.1; (go_simp <;> with_reducible rfl))
     refine tkH 9 hS ?_
     refine tkH 10 hS ?_
     refine tkH 11 hS ?_
     refine tkH 12 hS ?_ (hy := fun w hSw => by have q0 := hSw.2.2.1; have q1 := hSw.2.2.2; (go_simp <;> with_reducible rfl))
     refine tkH 13 hS ?_
     refine tkH 14 hS ?_
     refine wpAnyH_done (by kernel_rfl) ?_ _
     refine NoPanic.normal ?_
     clear hS
     go_wp2
     go_roundw
     case rel => exact ⟨j + 1, HLT.out, by go_num, Lib.hid (fun k hk => by
      by_cases hkj : k < j
      ·exact HE.out k hkj
      ·have e : k = j := by omega
       subst e
       rw [HST.out.1, HST.out.2, HEQ.out]), HWD⟩
     case measure => have := HLT.out; simp [intOf]; omega
    ·have b0 : (!decide (s = t)) = true := by rw [decide_eq_false hst]; rfl
     rw [b0] at e1
     have HX : Hid (underX l m = false) := Lib.hid (under_no HLT.out (by rw [HST.out.1, HST.out.2]; intro e; injection e with e; exact hst e))
     clear hst b0
     go_wp2_with fail
     refine wp_region_noPanic ?_
     refine wp_region_held_drew (S := fun _ => True) (by kernel_rfl) trivial (fun hS => ?_)
     refine tkH 0 hS ?_
     refine tkH 1 hS ?_
     refine tkH 2 hS ?_
     refine tkH 3 hS ?_
     refine tkH 4 hS ?_
     refine tkH 5 hS ?_
     refine tkH 6 hS ?_
     refine tkH 7 hS ?_
     refine held_more (S' := fun w' => w'.cell? ⟨g, o + j * 2, none⟩ = some (.string (txt s.1)) ∧ w'.cell? ⟨g, o + j * 2 + 1, none⟩ = some (.string (txt s.2)) ∧ w'.cell? ⟨g', o' + j * 2, none⟩ = some (.string (txt t.1)) ∧ w'.cell? ⟨g', o' + j * 2 + 1, none⟩ = some (.string (txt t.2))) (fun _ _ => trivial) _ _ _ _ ?_
     replace hS := HS0.out
     refine tkH 8 hS ?_ (hy := fun w hSw => by have q0 := hSw.1; have q1 := hSw.2.1; (go_simp <;> with_reducible rfl))
     refine tkH 9 hS ?_
     refine tkH 10 hS ?_
     refine tkH 11 hS ?_
     refine tkH 12 hS ?_ (hy := fun w hSw => by have q0 := hSw.2.2.1; have q1 := hSw.2.2.2; (go_simp <;> with_reducible rfl))
     refine tkH 13 hS ?_
     refine tkH 14 hS ?_
     refine wpAnyH_done (by kernel_rfl) ?_ _
     refine NoPanic.normal ?_
     clear hS
     go_wp2
     go_ret
     exact ⟨by rw [HX.out]; rfl, HWD.out⟩
   ·have i4 : (l.length : Int) ≤ (j : Int) := by omega
    have i5 : decide ((l.length : Int) ≤ (j : Int)) = true := decide_eq_true i4
    have i6 : decide (l.length ≤ j) = true := decide_eq_true (by omega)
    have HX : Hid (underX l m = false) := Lib.hid (under_no hlt (by rw [ht, List.getElem?_eq_none (by omega)]; intro e; cases e))
    clear ht hll
    go_wp2_with fail
    refine wp_region_noPanic ?_
    refine wp_region_held_drew (S := fun _ => True) (by kernel_rfl) trivial (fun hS => ?_)
    refine tkH 0 hS ?_
    refine tkH 1 hS ?_
    refine tkH 2 hS ?_
    refine tkH 3 hS ?_
    refine tkH 4 hS ?_
    refine tkHo 5 hS ?_
    refine tkHo 6 hS ?_
    refine tkHo 7 hS ?_
    refine tkHo 8 hS ?_
    refine tkHo 9 hS ?_
    refine tkHo 10 hS ?_
    refine tkHo 11 hS ?_
    refine tkHo 12 hS ?_
    refine tkHo 13 hS ?_
    refine tkH 14 hS ?_
    refine wpAnyH_done (by kernel_rfl) ?_ _
    refine NoPanic.normal ?_
    go_wp2
    go_ret
    exact ⟨by rw [HX.out]; rfl, HWD.out⟩
  ·have i2 : ¬ (j : Int) < (m.length : Int) := by omega
   have HX : Hid (underX l m = true) := Lib.hid (under_iff.2 fun k hk => HE.out k (by omega))
   go_wp2
   go_ret
   exact ⟨by rw [HX.out]; rfl, HW.out⟩
theorem stepT_len {s : Stp} (h : okS s = true) : (stepT s).length ≤ 27 := by
 unfold okS at h
 simp only [Bool.and_eq_true] at h
 have h1 := ident_len h.1
 unfold stepT
 by_cases hk : identX s.2 = true
 ·have h2 := ident_len hk
  rw [if_pos hk]
  simp only [List.length_cons, List.length_append, List.length_nil]
  omega
 ·rw [if_neg hk]
  simp only [List.length_cons, List.length_append, List.length_nil]
  omega
theorem take_snoc15 {l : List Stp} {j : Nat} {s : Stp} (h : l[j]? = some s) : l.take (j + 1) = l.take j ++ [s] := by
 have hj : j < l.length := (List.getElem?_eq_some_iff.1 h).1
 rw [List.take_succ_eq_append_getElem hj]
 rw [List.getElem?_eq_getElem hj] at h
 injection h with h
 rw [h]
theorem catT_snoc (l : List Stp) (s : Stp) : catT (l ++ [s]) = catT l ++ stepT s := by rw [catT_app]; simp [catT]
def ShL (l : List Stp) (j : Nat) (t : List UInt8) : Prop := t = catT (l.take j) ∧ (l.take j).all okS = true ∧ t.length ≤ 27 * j
theorem ShL.zero (l : List Stp) : ShL l 0 [] := ⟨rfl, rfl, Nat.le_refl _⟩
theorem ShL.step {l : List Stp} {j : Nat} {t : List UInt8} {s : Stp} (h : ShL l j t) (hs : l[j]? = some s) (ho : okS s = true) : ShL l (j + 1) (t ++ stepT s) := by
 obtain ⟨h1, h2, h3⟩ := h
 have h4 := stepT_len ho
 refine ⟨by rw [take_snoc15 hs, catT_snoc, h1], by rw [take_snoc15 hs]; simp [h2, ho], by rw [List.length_append]; omega⟩
theorem ShL.end_ {l : List Stp} {t : List UInt8} (h : ShL l l.length t) : (l = [] ∧ t = [] ∧ showX l = [47]) ∨ (t ≠ [] ∧ 6 < l.length ∧ showX l = []) ∨ (t ≠ [] ∧ l.length ≤ 6 ∧ showX l = t) := by
 obtain ⟨h1, h2, h3⟩ := h
 rw [List.take_length] at h1 h2
 by_cases h0 : l = []
 ·subst h0; exact .inl ⟨rfl, h1, rfl⟩
 have ht : t ≠ [] := fun e => h0 (catT_nil (by rw [← h1, e]))
 by_cases h6 : 6 < l.length
 ·exact .inr (.inl ⟨ht, h6, by unfold showX; rw [if_pos h2, if_neg h0, if_pos h6]⟩)
 ·exact .inr (.inr ⟨ht, by omega, by unfold showX; rw [if_pos h2, if_neg h0, if_neg h6, h1]⟩)
end Go.Proofs.Ythdhchhpjoghlaa
namespace Go.Proofs.Ythdhchhpjoghlaa
open Go.RowKit
theorem Ans9.bool {b c : Bool} {w : World} {r : Ending} {w' : World} (h : Ans9 (.bool b) w r w') (e : b = c) : Ans9 (.bool c) w r w' := by subst e; exact h
set_option maxRecDepth 100000 in
set_option maxHeartbeats 1000000 in
theorem rless_name (a b : NdD) (A B : Option Addr) (m n c d : Nat) (w : World) (h1 : Go.Op.bytesLess a.name b.name = true) :
  Calls Try.prog 39 #[.agg #[.string (txt a.name), .string (txt a.key), .int .i64 a.kind, .int .u64 (a.num : Int), .string (txt a.text), .slice A m c], .agg #[.string (txt b.name), .string (txt b.key), .int .i64 b.kind, .int .u64 (b.num : Int), .string (txt b.text), .slice B n d]] w (Ans9 (.bool true) w) := by
 have hB : Below w.heap.size w ((w.alloc (.cells #[.string (txt a.name), .string (txt a.key), .int .i64 a.kind, .int .u64 (a.num : Int), .string (txt a.text), .slice A m c] 27)).alloc (.cells #[.string (txt b.name), .string (txt b.key), .int .i64 b.kind, .int .u64 (b.num : Int), .string (txt b.text), .slice B n d] 27)) := ((Below.refl _ _).alloc (Nat.le_refl _) _).alloc (by simp) _
 have HB := Lib.hid hB
 have t1 : (txt a.name).toList = a.name := txt_toList _
 have t2 : (txt b.name).toList = b.name := txt_toList _
 have t3 : (txt a.key).toList = a.key := txt_toList _
 have t4 : (txt b.key).toList = b.key := txt_toList _
 clear hB
 go_enter Try.func39, Try.ntmps39
 go_wp2
 go_ret
 exact ⟨rfl, HB.out⟩
set_option maxRecDepth 100000 in
set_option maxHeartbeats 1000000 in
theorem rless_key (a b : NdD) (A B : Option Addr) (m n c d : Nat) (w : World) (h1 : Go.Op.bytesLess a.name b.name = false) (h2 : (a.name == b.name) = true) (h3 : Go.Op.bytesLess a.key b.key = true) :
  Calls Try.prog 39 #[.agg #[.string (txt a.name), .string (txt a.key), .int .i64 a.kind, .int .u64 (a.num : Int), .string (txt a.text), .slice A m c], .agg #[.string (txt b.name), .string (txt b.key), .int .i64 b.kind, .int .u64 (b.num : Int), .string (txt b.text), .slice B n d]] w (Ans9 (.bool true) w) := by
 have hB : Below w.heap.size w ((w.alloc (.cells #[.string (txt a.name), .string (txt a.key), .int .i64 a.kind, .int .u64 (a.num : Int), .string (txt a.text), .slice A m c] 27)).alloc (.cells #[.string (txt b.name), .string (txt b.key), .int .i64 b.kind, .int .u64 (b.num : Int), .string (txt b.text), .slice B n d] 27)) := ((Below.refl _ _).alloc (Nat.le_refl _) _).alloc (by simp) _
 have HB := Lib.hid hB
 have t1 : (txt a.name).toList = a.name := txt_toList _
 have t2 : (txt b.name).toList = b.name := txt_toList _
 have t3 : (txt a.key).toList = a.key := txt_toList _
 have t4 : (txt b.key).toList = b.key := txt_toList _
 clear hB
 go_enter Try.func39, Try.ntmps39
 go_wp2
 go_ret
 exact ⟨rfl, HB.out⟩
set_option maxRecDepth 100000 in
set_option maxHeartbeats 1000000 in
theorem rless_not (a b : NdD) (A B : Option Addr) (m n c d : Nat) (w : World) (h1 : Go.Op.bytesLess a.name b.name = false) (h2 : (a.name == b.name) = true) (h3 : Go.Op.bytesLess a.key b.key = false) :
  Calls Try.prog 39 #[.agg #[.string (txt a.name), .string (txt a.key), .int .i64 a.kind, .int .u64 (a.num : Int), .string (txt a.text), .slice A m c], .agg #[.string (txt b.name), .string (txt b.key), .int .i64 b.kind, .int .u64 (b.num : Int), .string (txt b.text), .slice B n d]] w (Ans9 (.bool false) w) := by
 have hB : Below w.heap.size w ((w.alloc (.cells #[.string (txt a.name), .string (txt a.key), .int .i64 a.kind, .int .u64 (a.num : Int), .string (txt a.text), .slice A m c] 27)).alloc (.cells #[.string (txt b.name), .string (txt b.key), .int .i64 b.kind, .int .u64 (b.num : Int), .string (txt b.text), .slice B n d] 27)) := ((Below.refl _ _).alloc (Nat.le_refl _) _).alloc (by simp) _
 have HB := Lib.hid hB
 have t1 : (txt a.name).toList = a.name := txt_toList _
 have t2 : (txt b.name).toList = b.name := txt_toList _
 have t3 : (txt a.key).toList = a.key := txt_toList _
 have t4 : (txt b.key).toList = b.key := txt_toList _
 clear hB
 go_enter Try.func39, Try.ntmps39
 go_wp2
 go_ret
 exact ⟨rfl, HB.out⟩
set_option maxRecDepth 100000 in
set_option maxHeartbeats 1000000 in
theorem rless_no (a b : NdD) (A B : Option Addr) (m n c d : Nat) (w : World) (h1 : Go.Op.bytesLess a.name b.name = false) (h2 : (a.name == b.name) = false) :
  Calls Try.prog 39 #[.agg #[.string (txt a.name), .string (txt a.key), .int .i64 a.kind, .int .u64 (a.num : Int), .string (txt a.text), .slice A m c], .agg #[.string (txt b.name), .string (txt b.key), .int .i64 b.kind, .int .u64 (b.num : Int), .string (txt b.text), .slice B n d]] w (Ans9 (.bool false) w) := by
 have hB : Below w.heap.size w ((w.alloc (.cells #[.string (txt a.name), .string (txt a.key), .int .i64 a.kind, .int .u64 (a.num : Int), .string (txt a.text), .slice A m c] 27)).alloc (.cells #[.string (txt b.name), .string (txt b.key), .int .i64 b.kind, .int .u64 (b.num : Int), .string (txt b.text), .slice B n d] 27)) := ((Below.refl _ _).alloc (Nat.le_refl _) _).alloc (by simp) _
 have HB := Lib.hid hB
 have t1 : (txt a.name).toList = a.name := txt_toList _
 have t2 : (txt b.name).toList = b.name := txt_toList _
 have t3 : (txt a.key).toList = a.key := txt_toList _
 have t4 : (txt b.key).toList = b.key := txt_toList _
 clear hB
 go_enter Try.func39, Try.ntmps39
 go_wp2
 go_ret
 exact ⟨rfl, HB.out⟩
theorem rless_any (x y : Nd) (cs ds : List Value) (w : World) (hx : LieN w cs x) (hy : LieN w ds y) :
  Calls Try.prog 39 #[.agg cs.toArray, .agg ds.toArray] w (Ans9 (.bool (lessX x.1 y.1)) w) := by
 obtain ⟨A, c, rfl, -⟩ := hx.shape
 obtain ⟨B, d, rfl, -⟩ := hy.shape
 cases h1 : Go.Op.bytesLess x.1.name y.1.name with
 | true => exact (rless_name x.1 y.1 _ _ _ _ _ _ w h1).mono fun _ _ h => h.bool (by simp [lessX, lessS, stp, ltY, h1])
 | false =>
  by_cases h2 : x.1.name = y.1.name
  ·cases h3 : Go.Op.bytesLess x.1.key y.1.key with
   | true => exact (rless_key x.1 y.1 _ _ _ _ _ _ w h1 (beq_iff_eq.2 h2) h3).mono fun _ _ h => h.bool (by simp [lessX, lessS, stp, ltY, h1, h2, h3])
   | false => exact (rless_not x.1 y.1 _ _ _ _ _ _ w h1 (beq_iff_eq.2 h2) h3).mono fun _ _ h => h.bool (by rw [h2] at h1; simp [lessX, lessS, stp, ltY, h1, h2, h3])
  ·exact (rless_no x.1 y.1 _ _ _ _ _ _ w h1 (beq_eq_false_iff_ne.2 h2)).mono fun _ _ h => h.bool (by simp [lessX, lessS, stp, ltY, h1, h2])
set_option maxRecDepth 100000 in
set_option maxHeartbeats 1000000 in
theorem rfindn_any (s : Stp) (x : Nd) (cs : List Value) (w : World) (hx : LieN w cs x) (hl : x.2.len ≤ 1000000) :
  Calls Try.prog 19 #[.agg cs.toArray, .agg #[.string (txt s.1), .string (txt s.2)]] w (Ans9 (.int .i64 (findIx s x.2)) w) := by
 obtain ⟨A, c, rfl, hk⟩ := hx.shape
 obtain ⟨a, f⟩ := x
 have hB : Below w.heap.size w ((w.alloc (.cells #[.string (txt a.name), .string (txt a.key), .int .i64 a.kind, .int .u64 (a.num : Int), .string (txt a.text), .slice A f.len c] 27)).alloc (.cells #[.string (txt s.1), .string (txt s.2)] 39)) := ((Below.refl _ _).alloc (Nat.le_refl _) _).alloc (by simp) _
 have HB := Lib.hid hB
 have tn : (txt s.1).toList = s.1 := txt_toList _
 have tk : (txt s.2).toList = s.2 := txt_toList _
 have HK : Hid (RowT w.heap.size w (.slice A f.len c) f) := Lib.hid hk
 have HLL : Hid (f.len ≤ 1000000) := Lib.hid hl
 clear hk hx hB hl
 go_enter Try.func19, Try.ntmps19
 go_wp2
 go_loopw [5] (fun i wr => ∃ k : Nat, k ≤ f.len ∧ i = .int .i64 (k : Int) ∧ Hid (∀ j, j < k → ∀ y, f.get? j = some y → stp y.1 ≠ s) ∧ Blk wr w.heap.size 27 #[.string (txt a.name), .string (txt a.key), .int .i64 a.kind, .int .u64 (a.num : Int), .string (txt a.text), .slice A f.len c] ∧ Blk wr (w.heap.size + 1) 39 #[.string (txt s.1), .string (txt s.2)] ∧ Below w.heap.size w wr) (fun i _ => f.len - (intOf i).toNat)
 case atStart =>
  have hb2 : Blk ((w.alloc (.cells #[.string (txt a.name), .string (txt a.key), .int .i64 a.kind, .int .u64 (a.num : Int), .string (txt a.text), .slice A f.len c] 27)).alloc (.cells #[.string (txt s.1), .string (txt s.2)] 39)) (w.heap.size + 1) 39 #[.string (txt s.1), .string (txt s.2)] := by
   have h := Blk.new (w.alloc (.cells #[.string (txt a.name), .string (txt a.key), .int .i64 a.kind, .int .u64 (a.num : Int), .string (txt a.text), .slice A f.len c] 27)) 39 #[.string (txt s.1), .string (txt s.2)]
   rw [show (w.alloc (.cells #[.string (txt a.name), .string (txt a.key), .int .i64 a.kind, .int .u64 (a.num : Int), .string (txt a.text), .slice A f.len c] 27)).heap.size = w.heap.size + 1 by simp] at h
   exact h
  exact ⟨0, Nat.zero_le _, rfl, Lib.hid (fun j h => by omega), (Blk.new w _ _).alloc _, hb2, HB.out⟩
 case round =>
  obtain ⟨k, hk, rfl, HL, hP, hQ, hB⟩ := hrel
  have p5 : wr.cell? ⟨w.heap.size, 5, none⟩ = some (.slice A f.len c) := (hP.cell 5).trans rfl
  have HBr := Lib.hid hB
  have HP := Lib.hid hP
  have HQ := Lib.hid hQ
  by_cases hlt : k < f.len
  ·obtain ⟨a1, q, hg⟩ := Fr.get_some hlt
   obtain ⟨b, o, A', c', rfl, -, -, hbl, -, hcl⟩ := HK.out.at hg
   have i1 : (0 : Int) ≤ (k : Int) := by omega
   have i2 : (k : Int) < (f.len : Int) := by omega
   have i3 : (f.len : Int) ≤ 1000000 := by have := HLL.out; omega
   have q0 : wr.cell? ⟨b, o + k * 6, none⟩ = some (.string (txt a1.name)) := (hB.cell (p := ⟨b, o + k * 6, none⟩) hbl).trans (hcl 0 _ rfl)
   have q1 : wr.cell? ⟨b, o + k * 6 + 1, none⟩ = some (.string (txt a1.key)) := (hB.cell (p := ⟨b, o + k * 6 + 1, none⟩) hbl).trans (hcl 1 _ rfl)
   have r0 : wr.cell? ⟨w.heap.size + 1, 0, none⟩ = some (.string (txt s.1)) := (hQ.cell 0).trans rfl
   have r1 : wr.cell? ⟨w.heap.size + 1, 1, none⟩ = some (.string (txt s.2)) := (hQ.cell 1).trans rfl
   have ta : (txt a1.name).toList = a1.name := txt_toList _
   have tb : (txt a1.key).toList = a1.key := txt_toList _
   have HG := Lib.hid hg
   clear hcl hg hP hQ hB hbl
   by_cases hn : a1.name = s.1
   ·have h1 : (a1.name == s.1) = true := beq_iff_eq.2 hn
    by_cases hk2 : a1.key = s.2
    ·have h2 : (a1.key == s.2) = true := beq_iff_eq.2 hk2
     have HF : Hid (findIx s f = (k : Int)) := Lib.hid (by unfold findIx; rw [find_lt HL.out ⟨_, HG.out, Prod.ext hn hk2⟩])
     clear hn hk2
     go_wp2_with fail
     go_region
     all_goals go_wp2
     all_goals go_ret
     all_goals exact ⟨by rw [HF.out]; rfl, HBr.out.drew⟩
    ·have h2 : (a1.key == s.2) = false := beq_eq_false_iff_ne.2 hk2
     have HL2 : Hid (∀ j, j < k + 1 → ∀ y, f.get? j = some y → stp y.1 ≠ s) := Lib.hid (fun j hj y hy => by
      by_cases e : j = k
      ·subst e; rw [HG.out] at hy; injection hy with hy; subst hy; exact fun e => hk2 (congrArg Prod.snd e)
      ·exact HL.out j (by omega) y hy)
     clear hn hk2
     go_wp2_with fail
     go_region
     all_goals go_wp2
     all_goals go_roundw
     all_goals first | exact ⟨k + 1, by omega, by go_num, HL2, HP.out.below (Below.refl _ _).drew HP.out.lt, HQ.out.below (Below.refl _ _).drew HQ.out.lt, HBr.out.drew⟩ | (simp [intOf]; omega)
   ·have h1 : (a1.name == s.1) = false := beq_eq_false_iff_ne.2 hn
    have HL2 : Hid (∀ j, j < k + 1 → ∀ y, f.get? j = some y → stp y.1 ≠ s) := Lib.hid (fun j hj y hy => by
     by_cases e : j = k
     ·subst e; rw [HG.out] at hy; injection hy with hy; subst hy; exact fun e => hn (congrArg Prod.fst e)
     ·exact HL.out j (by omega) y hy)
    clear hn
    go_wp2_with fail
    go_region
    all_goals go_wp2
    all_goals go_roundw
    all_goals first | exact ⟨k + 1, by omega, by go_num, HL2, HP.out.below (Below.refl _ _).drew HP.out.lt, HQ.out.below (Below.refl _ _).drew HQ.out.lt, HBr.out.drew⟩ | (simp [intOf]; omega)
  ·have HF : Hid (findIx s f = -1) := Lib.hid (by unfold findIx; rw [find_out (fun j hj y hy => HL.out j (by omega) y hy)])
   have i2 : ¬ (k : Int) < (f.len : Int) := by omega
   clear hP hQ hB
   go_wp2
   go_ret
   exact ⟨by rw [HF.out]; rfl, HBr.out⟩
end Go.Proofs.Ythdhchhpjoghlaa
namespace Go.Proofs.Ythdhchhpjoghlaa
open Go.RowKit
set_option maxRecDepth 100000 in
set_option maxHeartbeats 2000000 in
theorem rsizef_any (f : NdF) : ∀ (a : NdD) (A : Option Addr) (c : Nat) (w : World), RowT w.heap.size w (.slice A f.len c) f → f.size ≤ 1000000 →
  Calls Try.prog 20 #[.agg #[.string (txt a.name), .string (txt a.key), .int .i64 a.kind, .int .u64 (a.num : Int), .string (txt a.text), .slice A f.len c]] w (Ans9 (.int .i64 ((f.size + 1 : Nat) : Int)) w) := by
 refine Fr.byKids (P := fun f => ∀ (a : NdD) (A : Option Addr) (c : Nat) (w : World), RowT w.heap.size w (.slice A f.len c) f → f.size ≤ 1000000 →
  Calls Try.prog 20 #[.agg #[.string (txt a.name), .string (txt a.key), .int .i64 a.kind, .int .u64 (a.num : Int), .string (txt a.text), .slice A f.len c]] w (Ans9 (.int .i64 ((f.size + 1 : Nat) : Int)) w)) ?_ f
 clear f
 intro f hkids a A c w hk hsz
 have hB : Below w.heap.size w (w.alloc (.cells #[.string (txt a.name), .string (txt a.key), .int .i64 a.kind, .int .u64 (a.num : Int), .string (txt a.text), .slice A f.len c] 27)) := (Below.refl _ _).alloc (Nat.le_refl _) _
 have HB0 := Lib.hid hB
 have HI := Lib.hid hkids
 have HK : Hid (RowT w.heap.size w (.slice A f.len c) f) := Lib.hid hk
 have HZ : Hid (f.size ≤ 1000000) := Lib.hid hsz
 clear hkids hk hsz hB
 go_enter Try.func20, Try.ntmps20
 go_wp2
 go_loopw [3, 4] (fun m i wr => ∃ (j s : Nat), j ≤ f.len ∧ i = .int .i64 (j : Int) ∧ m = .int .i64 (s : Int) ∧ Hid (s = (Fr.take j f).size + 1) ∧ Blk wr w.heap.size 27 #[.string (txt a.name), .string (txt a.key), .int .i64 a.kind, .int .u64 (a.num : Int), .string (txt a.text), .slice A f.len c] ∧ Below w.heap.size w wr) (fun _ i _ => f.len - (intOf i).toNat)
 case atStart => exact ⟨0, 1, Nat.zero_le _, rfl, rfl, Lib.hid (by simp [Fr.take, Fr.size]), Blk.new _ _ _, HB0.out⟩
 case round =>
  obtain ⟨j, s, hj, rfl, rfl, HS, hP, hB⟩ := hrel
  have p5 : wr.cell? ⟨w.heap.size, 5, none⟩ = some (.slice A f.len c) := (hP.cell 5).trans rfl
  have HBr := Lib.hid hB
  by_cases hlt : j < f.len
  ·obtain ⟨a1, q, hg⟩ := Fr.get_some hlt
   obtain ⟨b, o, A', c', rfl, -, -, hbl, hrow, hcl⟩ := HK.out.at hg
   have hcell : ∀ i u, (ndC a1 (.slice A' q.len c'))[i]? = some u → wr.cell? ⟨b, o + j * 6 + i, none⟩ = some u := fun i u hu => (hB.cell (p := ⟨b, o + j * 6 + i, none⟩) hbl).trans (hcl i u hu)
   have q0 : wr.cell? ⟨b, o + j * 6, none⟩ = _ := hcell 0 _ rfl
   have q1 : wr.cell? ⟨b, o + j * 6 + 1, none⟩ = _ := hcell 1 _ rfl
   have q2 : wr.cell? ⟨b, o + j * 6 + 2, none⟩ = _ := hcell 2 _ rfl
   have q3 : wr.cell? ⟨b, o + j * 6 + 3, none⟩ = _ := hcell 3 _ rfl
   have q4 : wr.cell? ⟨b, o + j * 6 + 4, none⟩ = _ := hcell 4 _ rfl
   have q5 : wr.cell? ⟨b, o + j * 6 + 5, none⟩ = _ := hcell 5 _ rfl
   have i1 : (0 : Int) ≤ (j : Int) := by omega
   have i2 : (j : Int) < (f.len : Int) := by omega
   have i3 : (f.len : Int) ≤ 1000000 := by have := HZ.out; have := Fr.len_size f; omega
   have hts : (Fr.take (j + 1) f).size = (Fr.take j f).size + (q.size + 1) := by
    rw [(Fr.get_drop hg).2, Fr.size_app]; simp [Fr.size]
   have hle : (Fr.take (j + 1) f).size ≤ f.size := by
    have := congrArg Fr.size (Fr.take_app_drop (j + 1) f); rw [Fr.size_app] at this; omega
   obtain ⟨z, hz⟩ : ∃ z, z = q.size + 1 := ⟨_, rfl⟩
   have HI1 : Hid (Calls Try.prog 20 #[.agg #[.string (txt a1.name), .string (txt a1.key), .int .i64 a1.kind, .int .u64 (a1.num : Int), .string (txt a1.text), .slice A' q.len c']] wr (Ans9 (.int .i64 (z : Int)) wr)) := Lib.hid (by
    rw [hz]; exact HI.out j a1 q hg a1 A' c' wr (hrow.under hB (Nat.le_refl _) hB.size) (by have := HZ.out; omega))
   have i4 : (0 : Int) ≤ (s : Int) := by omega
   have i5 : (s : Int) ≤ 1000001 := by have := HS.out; have := HZ.out; omega
   have i6 : (0 : Int) ≤ (z : Int) := by omega
   have i7 : (z : Int) ≤ 1000001 := by have := HZ.out; omega
   have HS2 : Hid (s + z = (Fr.take (j + 1) f).size + 1) := Lib.hid (by have := HS.out; omega)
   have HP := Lib.hid hP
   clear hcl hg hrow hcell hts hle hz hP hB hbl
   go_wp2_with fail
   refine HI1.out.mono ?_
   rintro r w2 ⟨rfl, hb⟩
   have HP2 := Lib.hid (HP.out.below hb HP.out.lt)
   have HB2 := Lib.hid (HBr.out.trans (hb.mono HBr.out.size))
   clear hb
   go_wp2
   go_roundw
   case rel => exact ⟨j + 1, s + z, by omega, by go_num, by go_num, HS2, HP2.out, HB2.out⟩
   case measure => simp [intOf]; omega
  ·have i2 : ¬ (j : Int) < (f.len : Int) := by omega
   have HF : Hid (s = f.size + 1) := Lib.hid (by have := HS.out; rw [show j = f.len by omega, Fr.take_all] at this; exact this)
   clear hP hB
   go_wp2
   go_ret
   exact ⟨by rw [HF.out]; rfl, HBr.out⟩
theorem rsizet_any (x : Nd) (cs : List Value) (w : World) (hx : LieN w cs x) (hf : Few9 x) : Calls Try.prog 20 #[.agg cs.toArray] w (Ans9 (.int .i64 (sizeX x : Int)) w) := by
 obtain ⟨A, c, rfl, hk⟩ := hx.shape
 exact rsizef_any x.2 x.1 A c w hk hf
end Go.Proofs.Ythdhchhpjoghlaa
