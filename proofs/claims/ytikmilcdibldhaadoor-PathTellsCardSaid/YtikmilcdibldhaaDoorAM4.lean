/- PthRefA SpcMem -/
import Derived.Test.YtikmilcdibldhaaDoorAM0
import Derived.Test.YtikmilcdibldhaaDoorAM1
import Derived.Test.YtikmilcdibldhaaDoorAM2
import Derived.Test.YtikmilcdibldhaaDoorAM3
set_option linter.unusedSimpArgs false
set_option linter.unusedVariables false
namespace Go.Proofs.YtikmilcdibldhaaDoor
open Go.RowKit
def wl (r : List UInt8) : Nat := (r.takeWhile nmB).length
theorem wl_le (r : List UInt8) : wl r ≤ r.length := by
 unfold wl
 induction r with
 | nil => exact Nat.le_refl _
 | cons c r ih =>
  rw [List.takeWhile_cons]
  by_cases h : nmB c = true
  ·rw [if_pos h]; simp only [List.length_cons]; omega
  ·rw [if_neg h]; simp
theorem drop_at {s : List UInt8} {j : Nat} {c : UInt8} (h : s[j]? = some c) : s.drop j = c :: s.drop (j + 1) := by
 have hj : j < s.length := (List.getElem?_eq_some_iff.1 h).1
 rw [List.drop_eq_getElem_cons hj]
 rw [List.getElem?_eq_getElem hj] at h
 injection h with h
 rw [h]
theorem wl_in {s : List UInt8} {j : Nat} {c : UInt8} (h : s[j]? = some c) (hn : nmB c = true) : wl (s.drop j) = wl (s.drop (j + 1)) + 1 := by
 rw [drop_at h]
 unfold wl
 rw [List.takeWhile_cons, if_pos hn, List.length_cons]
theorem wl_no {s : List UInt8} {j : Nat} {c : UInt8} (h : s[j]? = some c) (hn : nmB c = false) : wl (s.drop j) = 0 := by
 rw [drop_at h]
 unfold wl
 rw [List.takeWhile_cons, hn]
 rfl
def WordP (s : List UInt8) (k : Nat) (w : World) (r : Ending) (w' : World) : Prop := r = .returned (.int .i64 ((k + wl (s.drop k) : Nat) : Int)) ∧ w = w'
set_option maxRecDepth 100000 in
set_option maxHeartbeats 2000000 in
theorem rword_any15 (s : List UInt8) (k : Nat) (hk : k ≤ s.length) (hs : s.length ≤ 9223372036854775807) (w : World) :
  Calls Tryd.prog 21 #[.string (txt s), .int .i64 (k : Int)] w (WordP s k w) := by
 have hsz := txt_size s
 have HP : Hid (∀ j : Nat, j + wl (s.drop j) = k + wl (s.drop k) → wl (s.drop j) = 0 → WordP s k w (.returned (.int .i64 (j : Int))) w) := Lib.hid (fun j h1 h2 => ⟨by rw [← h1, h2, Nat.add_zero], rfl⟩)
 go_enter Tryd.func21, Tryd.ntmps21
 go_wp2
 go_loop [1] (fun i => ∃ j : Nat, j ≤ s.length ∧ i = .int .i64 (j : Int) ∧ Hid (j + wl (s.drop j) = k + wl (s.drop k))) (fun i => s.length - (intOf i).toNat)
 case atStart => exact ⟨k, hk, rfl, Lib.hid rfl⟩
 case round =>
  obtain ⟨j, hj, rfl, HK⟩ := hrel
  by_cases h1 : j < s.length
  ·have d1 : (j : Int) < (s.length : Int) := by omega
   obtain ⟨c, hc⟩ : ∃ c, s[j]? = some c := ⟨_, List.getElem?_eq_getElem h1⟩
   have hin : j < (txt s).size := by rw [hsz]; exact h1
   have hix : (((txt s)[j]'hin).toNat : Int) = (c.toNat : Int) := by rw [txt_get s j h1 hin]; rw [List.getElem?_eq_getElem h1] at hc; injection hc with hc; rw [hc]
   cases hn : nmB c with
   | true =>
    have HK2 : Hid (j + 1 + wl (s.drop (j + 1)) = k + wl (s.drop k)) := Lib.hid (by rw [← HK.out, wl_in hc hn]; omega)
    have hw : (97 ≤ (c.toNat : Int) ∧ (c.toNat : Int) ≤ 122) ∨ ((¬ 97 ≤ (c.toNat : Int) ∨ (97 ≤ (c.toNat : Int) ∧ ¬ (c.toNat : Int) ≤ 122)) ∧ ((48 ≤ (c.toNat : Int) ∧ (c.toNat : Int) ≤ 57) ∨ (¬ 48 ≤ (c.toNat : Int) ∧ ((c.toNat : Int) == 45) = true))) := by
     rcases sm_cases c with ⟨_, g1, g2⟩ | ⟨hb, g⟩
     ·exact .inl ⟨g1, g2⟩
     ·rcases nm_ways c hb with ⟨_, q⟩ | ⟨q, _⟩
      ·exact .inr ⟨g, q⟩
      ·rw [q] at hn; cases hn
    clear hc hn HK HP
    generalize c.toNat = m at hix hw
    rcases hw with ⟨g1, g2⟩ | ⟨g | ⟨g, g'⟩, ⟨q1, q2⟩ | ⟨q1, q2⟩⟩
    all_goals
     go_wp2
     go_round
     case rel => exact ⟨j + 1, by omega, by go_num, HK2⟩
     case measure => simp [intOf]; omega
   | false =>
    have HF : Hid (WordP s k w (.returned (.int .i64 (j : Int))) w) := Lib.hid (HP.out j HK.out (wl_no hc hn))
    have hw : ((¬ 97 ≤ (c.toNat : Int) ∨ (97 ≤ (c.toNat : Int) ∧ ¬ (c.toNat : Int) ≤ 122)) ∧ ((c.toNat : Int) == 45) = false ∧ (¬ 48 ≤ (c.toNat : Int) ∨ (48 ≤ (c.toNat : Int) ∧ ¬ (c.toNat : Int) ≤ 57))) := by
     rcases sm_cases c with ⟨hb, g1, g2⟩ | ⟨hb, g⟩
     ·rw [sm_nm hb] at hn; cases hn
     ·rcases nm_ways c hb with ⟨q, _⟩ | ⟨_, q1, q2⟩
      ·rw [q] at hn; cases hn
      ·exact ⟨g, q1, q2⟩
    clear hc hn HK HP
    generalize c.toNat = m at hix hw
    rcases hw with ⟨g | ⟨g, g'⟩, q0, q | ⟨q, q'⟩⟩
    all_goals
     go_wp2
     go_ret
     exact HF.out
  ·obtain rfl : j = s.length := by omega
   have HF : Hid (WordP s k w (.returned (.int .i64 (s.length : Int))) w) := Lib.hid (HP.out _ HK.out (by rw [List.drop_length]; rfl))
   clear HK HP h1
   go_wp2
   go_ret
   exact HF.out
theorem under_iff {way front : List Stp} : underX way front = true ↔ ∀ k, k < front.length → way[k]? = front[k]? := by
 unfold underX
 rw [decide_eq_true_eq]
 constructor
 ·intro h k hk
  rw [← h] at hk ⊢
  rw [List.length_take] at hk
  rw [List.getElem?_take_of_lt (by omega)]
 ·intro h
  refine List.ext_getElem? fun k => ?_
  by_cases hk : k < front.length
  ·rw [List.getElem?_take_of_lt hk]; exact h k hk
  ·rw [List.getElem?_take_eq_none (by omega), List.getElem?_eq_none (by omega)]
theorem under_no {way front : List Stp} {k : Nat} (hk : k < front.length) (h : way[k]? ≠ front[k]?) : underX way front = false := by
 cases hu : underX way front with
 | false => rfl
 | true => exact absurd (under_iff.1 hu k hk) h
attribute [local go_sem] Oper.semAt_some
set_option maxRecDepth 100000 in
set_option maxHeartbeats 4000000 in
theorem runder15_any (l m : List Stp) (va vb : Value) (w : World) (ha : WayV w.heap.size w va l) (hb : WayV w.heap.size w vb m) (hl : l.length ≤ 1000000) (hm : m.length ≤ 1000000) :
  Calls Tryd.prog 18 #[va, vb] w (Ans9 (.bool (underX l m)) w) := by
 obtain ⟨A, c, rfl⟩ := ha.shape
 obtain ⟨B, d, rfl⟩ := hb.shape
 have HA := Lib.hid ha
 have HB := Lib.hid hb
 clear ha hb
 have l0 : (l.length : Int) ≤ 1000000 := by omega
 have m0 : (m.length : Int) ≤ 1000000 := by omega
 go_enter Tryd.func18, Tryd.ntmps18
 go_wp2_with fail
 go_loopw [5] (fun v wr => ∃ j : Nat, j ≤ m.length ∧ v = .int .i64 (j : Int) ∧ Hid (∀ k, k < j → l[k]? = m[k]?) ∧ Hid (Below w.heap.size w wr)) (fun v _ => m.length - (intOf v).toNat)
 case atStart => exact ⟨0, Nat.zero_le _, rfl, Lib.hid (fun k hk => absurd hk (Nat.not_lt_zero _)), Lib.hid (Below.refl _ _)⟩
 case round =>
  obtain ⟨j, hj, rfl, HE, HW⟩ := hrel
  have i1 : (0 : Int) ≤ (j : Int) := by omega
  have HWD : Hid (Below w.heap.size w wr.drew) := Lib.hid HW.out.drew
  by_cases hlt : j < m.length
  ·have i3 : (j : Int) < (m.length : Int) := by omega
   obtain ⟨t, ht⟩ : ∃ t, m[j]? = some t := ⟨_, List.getElem?_eq_getElem hlt⟩
   by_cases hll : j < l.length
   ·obtain ⟨s, hs⟩ : ∃ s, l[j]? = some s := ⟨_, List.getElem?_eq_getElem hll⟩
    obtain ⟨g, o, rfl, -, h2, h3, h4, h5⟩ := (HA.out.under HW.out (Nat.le_refl _) (Nat.le_refl _)).at hs
    obtain ⟨g', o', rfl, -, k2, k3, k4, k5⟩ := (HB.out.under HW.out (Nat.le_refl _) (Nat.le_refl _)).at ht
    have i2 : (j : Int) < (l.length : Int) := by omega
    have i4 : ¬ (l.length : Int) ≤ (j : Int) := by omega
    have i5 : decide ((l.length : Int) ≤ (j : Int)) = false := decide_eq_false i4
    have i6 : decide (l.length ≤ j) = false := decide_eq_false (by omega)
    have HS0 : Hid (wr.drew.cell? ⟨g, o + j * 2, none⟩ = some (.string (txt s.1)) ∧ wr.drew.cell? ⟨g, o + j * 2 + 1, none⟩ = some (.string (txt s.2)) ∧ wr.drew.cell? ⟨g', o' + j * 2, none⟩ = some (.string (txt t.1)) ∧ wr.drew.cell? ⟨g', o' + j * 2 + 1, none⟩ = some (.string (txt t.2))) := Lib.hid ⟨h4, h5, k4, k5⟩
    have HST := Lib.hid (And.intro hs ht)
    have HLT := Lib.hid hlt
    have n0 : j < l.length := hll
    have n1 : j < m.length := hlt
    have e1 : ∀ W, (binOp .neq 46 (.agg #[.string (txt s.1), .string (txt s.2)]) (.agg #[.string (txt t.1), .string (txt t.2)])).run Tryd.prog W = .ok (.bool (!decide (s = t))) W := fun W => step_neq10 s t W
    clear hs ht h4 h5 k4 k5 hlt hll
    by_cases hst : s = t
    ·have b0 : (!decide (s = t)) = false := by rw [decide_eq_true hst]; rfl
     rw [b0] at e1
     have HEQ := Lib.hid hst
     clear hst b0
     go_wp2_with fail
     refine wp_region_noPanic ?_
     refine wp_region_held_drew (S := fun _ => True) (by kernel_rfl) trivial (fun hS => ?_)
     refine wpAnyH_take (i := 0) (oi := ?o_0) (v := ?v_0) ?i_0 (by kernel_rfl) (by kernel_rfl) (by kernel_rfl) (fun _ _ _ h => h) (Or.inl ⟨?g_0, ?y_0⟩) hS ?_
     case i_0 => simp only [layG]; rfl
     case g_0 => rfl
     case y_0 => (intro w hSw; (go_simp <;> with_reducible rfl))
     (try simp only [Act.put, layS])
     refine wpAnyH_take (i := 1) (oi := ?o_1) (v := ?v_1) ?i_1 (by kernel_rfl) (by kernel_rfl) (by kernel_rfl) (fun _ _ _ h => h) (Or.inl ⟨?g_1, ?y_1⟩) hS ?_
     case i_1 => simp only [layG]; rfl
     case g_1 => rfl
     case y_1 => (intro w hSw; (go_simp <;> with_reducible rfl))
     (try simp only [Act.put, layS])
     refine wpAnyH_take (i := 2) (oi := ?o_2) (v := ?v_2) ?i_2 (by kernel_rfl) (by kernel_rfl) (by kernel_rfl) (fun _ _ _ h => h) (Or.inl ⟨?g_2, ?y_2⟩) hS ?_
     case i_2 => simp only [layG]; rfl
     case g_2 => rfl
     case y_2 => (intro w hSw; (go_simp <;> with_reducible rfl))
     (try simp only [Act.put, layS])
     refine wpAnyH_take (i := 3) (oi := ?o_3) (v := ?v_3) ?i_3 (by kernel_rfl) (by kernel_rfl) (by kernel_rfl) (fun _ _ _ h => h) (Or.inl ⟨?g_3, ?y_3⟩) hS ?_
     case i_3 => simp only [layG]; rfl
     case g_3 => rfl
     case y_3 => (intro w hSw; (go_simp <;> with_reducible rfl))
     (try simp only [Act.put, layS])
     refine wpAnyH_take (i := 4) (oi := ?o_4) (v := ?v_4) ?i_4 (by kernel_rfl) (by kernel_rfl) (by kernel_rfl) (fun _ _ _ h => h) (Or.inl ⟨?g_4, ?y_4⟩) hS ?_
     case i_4 => simp only [layG]; rfl
     case g_4 => rfl
     case y_4 => (intro w hSw; (go_simp <;> with_reducible rfl))
     (try simp only [Act.put, layS])
     refine wpAnyH_take (i := 5) (oi := ?o_5) (v := ?v_5) ?i_5 (by kernel_rfl) (by kernel_rfl) (by kernel_rfl) (fun _ _ _ h => h) (Or.inl ⟨?g_5, ?y_5⟩) hS ?_
     case i_5 => simp only [layG]; rfl
     case g_5 => rfl
     case y_5 => (intro w hSw; (go_simp <;> with_reducible rfl))
     (try simp only [Act.put, layS])
     refine wpAnyH_take (i := 6) (oi := ?o_6) (v := ?v_6) ?i_6 (by kernel_rfl) (by kernel_rfl) (by kernel_rfl) (fun _ _ _ h => h) (Or.inl ⟨?g_6, ?y_6⟩) hS ?_
     case i_6 => simp only [layG]; rfl
     case g_6 => rfl
     case y_6 => (intro w hSw; (go_simp <;> with_reducible rfl))
     (try simp only [Act.put, layS])
     refine wpAnyH_take (i := 7) (oi := ?o_7) (v := ?v_7) ?i_7 (by kernel_rfl) (by kernel_rfl) (by kernel_rfl) (fun _ _ _ h => h) (Or.inl ⟨?g_7, ?y_7⟩) hS ?_
     case i_7 => simp only [layG]; rfl
     case g_7 => rfl
     case y_7 => (intro w hSw; (go_simp <;> with_reducible rfl))
     (try simp only [Act.put, layS])
     refine held_more (S' := fun w' => w'.cell? ⟨g, o + j * 2, none⟩ = some (.string (txt s.1)) ∧ w'.cell? ⟨g, o + j * 2 + 1, none⟩ = some (.string (txt s.2)) ∧ w'.cell? ⟨g', o' + j * 2, none⟩ = some (.string (txt t.1)) ∧ w'.cell? ⟨g', o' + j * 2 + 1, none⟩ = some (.string (txt t.2))) (fun _ _ => trivial) _ _ _ _ ?_
     replace hS := HS0.out
     refine wpAnyH_take (i := 8) (oi := ?o_8) (v := ?v_8) ?i_8 (by kernel_rfl) (by kernel_rfl) (by kernel_rfl) (fun _ _ _ h => h) (Or.inl ⟨?g_8, ?y_8⟩) hS ?_
     case i_8 => simp only [layG]; rfl
     case g_8 => rfl
     case y_8 => (intro w hSw; have q0 := hSw.1; have q1 := hSw.2.1; (go_simp <;> with_reducible rfl))
     (try simp only [Act.put, layS])
     refine wpAnyH_take (i := 9) (oi := ?o_9) (v := ?v_9) ?i_9 (by kernel_rfl) (by kernel_rfl) (by kernel_rfl) (fun _ _ _ h => h) (Or.inl ⟨?g_9, ?y_9⟩) hS ?_
     case i_9 => simp only [layG]; rfl
     case g_9 => rfl
     case y_9 => (intro w hSw; (go_simp <;> with_reducible rfl))
     (try simp only [Act.put, layS])
     refine wpAnyH_take (i := 10) (oi := ?o_a) (v := ?v_a) ?i_a (by kernel_rfl) (by kernel_rfl) (by kernel_rfl) (fun _ _ _ h => h) (Or.inl ⟨?g_a, ?y_a⟩) hS ?_
     case i_a => simp only [layG]; rfl
     case g_a => rfl
     case y_a => (intro w hSw; (go_simp <;> with_reducible rfl))
     (try simp only [Act.put, layS])
     refine wpAnyH_take (i := 11) (oi := ?o_b) (v := ?v_b) ?i_b (by kernel_rfl) (by kernel_rfl) (by kernel_rfl) (fun _ _ _ h => h) (Or.inl ⟨?g_b, ?y_b⟩) hS ?_
     case i_b => simp only [layG]; rfl
     case g_b => rfl
     case y_b => (intro w hSw; (go_simp <;> with_reducible rfl))
     (try simp only [Act.put, layS])
     refine wpAnyH_take (i := 12) (oi := ?o_c) (v := ?v_c) ?i_c (by kernel_rfl) (by kernel_rfl) (by kernel_rfl) (fun _ _ _ h => h) (Or.inl ⟨?g_c, ?y_c⟩) hS ?_
     case i_c => simp only [layG]; rfl
     case g_c => rfl
     case y_c => (intro w hSw; have q0 := hSw.2.2.1; have q1 := hSw.2.2.2; (go_simp <;> with_reducible rfl))
     (try simp only [Act.put, layS])
     refine wpAnyH_take (i := 13) (oi := ?o_d) (v := ?v_d) ?i_d (by kernel_rfl) (by kernel_rfl) (by kernel_rfl) (fun _ _ _ h => h) (Or.inl ⟨?g_d, ?y_d⟩) hS ?_
     case i_d => simp only [layG]; rfl
     case g_d => rfl
     case y_d => (intro w hSw; (go_simp <;> with_reducible rfl))
     (try simp only [Act.put, layS])
     refine wpAnyH_take (i := 14) (oi := ?o_e) (v := ?v_e) ?i_e (by kernel_rfl) (by kernel_rfl) (by kernel_rfl) (fun _ _ _ h => h) (Or.inl ⟨?g_e, ?y_e⟩) hS ?_
     case i_e => simp only [layG]; rfl
     case g_e => rfl
     case y_e => (intro w hSw; (go_simp <;> with_reducible rfl))
     (try simp only [Act.put, layS])
     refine wpAnyH_done (by kernel_rfl) ?_ _
     refine NoPanic.normal ?_
     clear hS
     go_wp2
     go_roundw
     case rel => exact ⟨j + 1, HLT.out, by go_num, Lib.hid (fun k hk => by
      by_cases hkj : k < j
      ·exact HE.out k hkj
      ·have e : k = j := by omega
       subst e
       rw [HST.out.1, HST.out.2, HEQ.out]), HWD⟩
     case measure => have := HLT.out; simp [intOf]; omega
    ·have b0 : (!decide (s = t)) = true := by rw [decide_eq_false hst]; rfl
     rw [b0] at e1
     have HX : Hid (underX l m = false) := Lib.hid (under_no HLT.out (by rw [HST.out.1, HST.out.2]; intro e; injection e with e; exact hst e))
     clear hst b0
     go_wp2_with fail
     refine wp_region_noPanic ?_
     refine wp_region_held_drew (S := fun _ => True) (by kernel_rfl) trivial (fun hS => ?_)
     refine wpAnyH_take (i := 0) (oi := ?o_f) (v := ?v_f) ?i_f (by kernel_rfl) (by kernel_rfl) (by kernel_rfl) (fun _ _ _ h => h) (Or.inl ⟨?g_f, ?y_f⟩) hS ?_
     case i_f => simp only [layG]; rfl
     case g_f => rfl
     case y_f => (intro w hSw; (go_simp <;> with_reducible rfl))
     (try simp only [Act.put, layS])
     refine wpAnyH_take (i := 1) (oi := ?o_g) (v := ?v_g) ?i_g (by kernel_rfl) (by kernel_rfl) (by kernel_rfl) (fun _ _ _ h => h) (Or.inl ⟨?g_g, ?y_g⟩) hS ?_
     case i_g => simp only [layG]; rfl
     case g_g => rfl
     case y_g => (intro w hSw; (go_simp <;> with_reducible rfl))
     (try simp only [Act.put, layS])
     refine wpAnyH_take (i := 2) (oi := ?o_h) (v := ?v_h) ?i_h (by kernel_rfl) (by kernel_rfl) (by kernel_rfl) (fun _ _ _ h => h) (Or.inl ⟨?g_h, ?y_h⟩) hS ?_
     case i_h => simp only [layG]; rfl
     case g_h => rfl
     case y_h => (intro w hSw; (go_simp <;> with_reducible rfl))
     (try simp only [Act.put, layS])
     refine wpAnyH_take (i := 3) (oi := ?o_i) (v := ?v_i) ?i_i (by kernel_rfl) (by kernel_rfl) (by kernel_rfl) (fun _ _ _ h => h) (Or.inl ⟨?g_i, ?y_i⟩) hS ?_
     case i_i => simp only [layG]; rfl
     case g_i => rfl
     case y_i => (intro w hSw; (go_simp <;> with_reducible rfl))
     (try simp only [Act.put, layS])
     refine wpAnyH_take (i := 4) (oi := ?o_j) (v := ?v_j) ?i_j (by kernel_rfl) (by kernel_rfl) (by kernel_rfl) (fun _ _ _ h => h) (Or.inl ⟨?g_j, ?y_j⟩) hS ?_
     case i_j => simp only [layG]; rfl
     case g_j => rfl
     case y_j => (intro w hSw; (go_simp <;> with_reducible rfl))
     (try simp only [Act.put, layS])
     refine wpAnyH_take (i := 5) (oi := ?o_k) (v := ?v_k) ?i_k (by kernel_rfl) (by kernel_rfl) (by kernel_rfl) (fun _ _ _ h => h) (Or.inl ⟨?g_k, ?y_k⟩) hS ?_
     case i_k => simp only [layG]; rfl
     case g_k => rfl
     case y_k => (intro w hSw; (go_simp <;> with_reducible rfl))
     (try simp only [Act.put, layS])
     refine wpAnyH_take (i := 6) (oi := ?o_l) (v := ?v_l) ?i_l (by kernel_rfl) (by kernel_rfl) (by kernel_rfl) (fun _ _ _ h => h) (Or.inl ⟨?g_l, ?y_l⟩) hS ?_
     case i_l => simp only [layG]; rfl
     case g_l => rfl
     case y_l => (intro w hSw; (go_simp <;> with_reducible rfl))
     (try simp only [Act.put, layS])
     refine wpAnyH_take (i := 7) (oi := ?o_m) (v := ?v_m) ?i_m (by kernel_rfl) (by kernel_rfl) (by kernel_rfl) (fun _ _ _ h => h) (Or.inl ⟨?g_m, ?y_m⟩) hS ?_
     case i_m => simp only [layG]; rfl
     case g_m => rfl
     case y_m => (intro w hSw; (go_simp <;> with_reducible rfl))
     (try simp only [Act.put, layS])
     refine held_more (S' := fun w' => w'.cell? ⟨g, o + j * 2, none⟩ = some (.string (txt s.1)) ∧ w'.cell? ⟨g, o + j * 2 + 1, none⟩ = some (.string (txt s.2)) ∧ w'.cell? ⟨g', o' + j * 2, none⟩ = some (.string (txt t.1)) ∧ w'.cell? ⟨g', o' + j * 2 + 1, none⟩ = some (.string (txt t.2))) (fun _ _ => trivial) _ _ _ _ ?_
     replace hS := HS0.out
     refine wpAnyH_take (i := 8) (oi := ?o_n) (v := ?v_n) ?i_n (by kernel_rfl) (by kernel_rfl) (by kernel_rfl) (fun _ _ _ h => h) (Or.inl ⟨?g_n, ?y_n⟩) hS ?_
     case i_n => simp only [layG]; rfl
     case g_n => rfl
     case y_n => (intro w hSw; have q0 := hSw.1; have q1 := hSw.2.1; (go_simp <;> with_reducible rfl))
     (try simp only [Act.put, layS])
     refine wpAnyH_take (i := 9) (oi := ?o_o) (v := ?v_o) ?i_o (by kernel_rfl) (by kernel_rfl) (by kernel_rfl) (fun _ _ _ h => h) (Or.inl ⟨?g_o, ?y_o⟩) hS ?_
     case i_o => simp only [layG]; rfl
     case g_o => rfl
     case y_o => (intro w hSw; (go_simp <;> with_reducible rfl))
     (try simp only [Act.put, layS])
     refine wpAnyH_take (i := 10) (oi := ?o_p) (v := ?v_p) ?i_p (by kernel_rfl) (by kernel_rfl) (by kernel_rfl) (fun _ _ _ h => h) (Or.inl ⟨?g_p, ?y_p⟩) hS ?_
     case i_p => simp only [layG]; rfl
     case g_p => rfl
     case y_p => (intro w hSw; (go_simp <;> with_reducible rfl))
     (try simp only [Act.put, layS])
     refine wpAnyH_take (i := 11) (oi := ?o_q) (v := ?v_q) ?i_q (by kernel_rfl) (by kernel_rfl) (by kernel_rfl) (fun _ _ _ h => h) (Or.inl ⟨?g_q, ?y_q⟩) hS ?_
     case i_q => simp only [layG]; rfl
     case g_q => rfl
     case y_q => (intro w hSw; (go_simp <;> with_reducible rfl))
     (try simp only [Act.put, layS])
     refine wpAnyH_take (i := 12) (oi := ?o_r) (v := ?v_r) ?i_r (by kernel_rfl) (by kernel_rfl) (by kernel_rfl) (fun _ _ _ h => h) (Or.inl ⟨?g_r, ?y_r⟩) hS ?_
     case i_r => simp only [layG]; rfl
     case g_r => rfl
     case y_r => (intro w hSw; have q0 := hSw.2.2.1; have q1 := hSw.2.2.2; (go_simp <;> with_reducible rfl))
     (try simp only [Act.put, layS])
     refine wpAnyH_take (i := 13) (oi := ?o_s) (v := ?v_s) ?i_s (by kernel_rfl) (by kernel_rfl) (by kernel_rfl) (fun _ _ _ h => h) (Or.inl ⟨?g_s, ?y_s⟩) hS ?_
     case i_s => simp only [layG]; rfl
     case g_s => rfl
     case y_s => (intro w hSw; (go_simp <;> with_reducible rfl))
     (try simp only [Act.put, layS])
     refine wpAnyH_take (i := 14) (oi := ?o_t) (v := ?v_t) ?i_t (by kernel_rfl) (by kernel_rfl) (by kernel_rfl) (fun _ _ _ h => h) (Or.inl ⟨?g_t, ?y_t⟩) hS ?_
     case i_t => simp only [layG]; rfl
     case g_t => rfl
     case y_t => (intro w hSw; (go_simp <;> with_reducible rfl))
     (try simp only [Act.put, layS])
     refine wpAnyH_done (by kernel_rfl) ?_ _
     refine NoPanic.normal ?_
     clear hS
     go_wp2
     go_ret
     exact ⟨by rw [HX.out]; rfl, HWD.out⟩
   ·have i4 : (l.length : Int) ≤ (j : Int) := by omega
    have i5 : decide ((l.length : Int) ≤ (j : Int)) = true := decide_eq_true i4
    have i6 : decide (l.length ≤ j) = true := decide_eq_true (by omega)
    have HX : Hid (underX l m = false) := Lib.hid (under_no hlt (by rw [ht, List.getElem?_eq_none (by omega)]; intro e; cases e))
    clear ht hll
    go_wp2_with fail
    refine wp_region_noPanic ?_
    refine wp_region_held_drew (S := fun _ => True) (by kernel_rfl) trivial (fun hS => ?_)
    refine wpAnyH_take (i := 0) (oi := ?o_u) (v := ?v_u) ?i_u (by kernel_rfl) (by kernel_rfl) (by kernel_rfl) (fun _ _ _ h => h) (Or.inl ⟨?g_u, ?y_u⟩) hS ?_
    case i_u => simp only [layG]; rfl
    case g_u => rfl
    case y_u => (intro w hSw; (go_simp <;> with_reducible rfl))
    (try simp only [Act.put, layS])
    refine wpAnyH_take (i := 1) (oi := ?o_v) (v := ?v_v) ?i_v (by kernel_rfl) (by kernel_rfl) (by kernel_rfl) (fun _ _ _ h => h) (Or.inl ⟨?g_v, ?y_v⟩) hS ?_
    case i_v => simp only [layG]; rfl
    case g_v => rfl
    case y_v => (intro w hSw; (go_simp <;> with_reducible rfl))
    (try simp only [Act.put, layS])
    refine wpAnyH_take (i := 2) (oi := ?o_w) (v := ?v_w) ?i_w (by kernel_rfl) (by kernel_rfl) (by kernel_rfl) (fun _ _ _ h => h) (Or.inl ⟨?g_w, ?y_w⟩) hS ?_
    case i_w => simp only [layG]; rfl
    case g_w => rfl
    case y_w => (intro w hSw; (go_simp <;> with_reducible rfl))
    (try simp only [Act.put, layS])
    refine wpAnyH_take (i := 3) (oi := ?o_x) (v := ?v_x) ?i_x (by kernel_rfl) (by kernel_rfl) (by kernel_rfl) (fun _ _ _ h => h) (Or.inl ⟨?g_x, ?y_x⟩) hS ?_
    case i_x => simp only [layG]; rfl
    case g_x => rfl
    case y_x => (intro w hSw; (go_simp <;> with_reducible rfl))
    (try simp only [Act.put, layS])
    refine wpAnyH_take (i := 4) (oi := ?o_y) (v := ?v_y) ?i_y (by kernel_rfl) (by kernel_rfl) (by kernel_rfl) (fun _ _ _ h => h) (Or.inl ⟨?g_y, ?y_y⟩) hS ?_
    case i_y => simp only [layG]; rfl
    case g_y => rfl
    case y_y => (intro w hSw; (go_simp <;> with_reducible rfl))
    (try simp only [Act.put, layS])
    refine wpAnyH_take (i := 5) (oi := ?o_z) (v := undef) ?i_z (by kernel_rfl) (by kernel_rfl) (by kernel_rfl) (fun _ _ _ h => h) (Or.inr ⟨?g_z, rfl⟩) hS ?_
    case i_z => simp only [layG]; rfl
    case g_z => rfl
    (try simp only [Act.put, layS])
    refine wpAnyH_take (i := 6) (oi := ?o_10) (v := undef) ?i_10 (by kernel_rfl) (by kernel_rfl) (by kernel_rfl) (fun _ _ _ h => h) (Or.inr ⟨?g_10, rfl⟩) hS ?_
    case i_10 => simp only [layG]; rfl
    case g_10 => rfl
    (try simp only [Act.put, layS])
    refine wpAnyH_take (i := 7) (oi := ?o_11) (v := undef) ?i_11 (by kernel_rfl) (by kernel_rfl) (by kernel_rfl) (fun _ _ _ h => h) (Or.inr ⟨?g_11, rfl⟩) hS ?_
    case i_11 => simp only [layG]; rfl
    case g_11 => rfl
    (try simp only [Act.put, layS])
    refine wpAnyH_take (i := 8) (oi := ?o_12) (v := undef) ?i_12 (by kernel_rfl) (by kernel_rfl) (by kernel_rfl) (fun _ _ _ h => h) (Or.inr ⟨?g_12, rfl⟩) hS ?_
    case i_12 => simp only [layG]; rfl
    case g_12 => rfl
    (try simp only [Act.put, layS])
    refine wpAnyH_take (i := 9) (oi := ?o_13) (v := undef) ?i_13 (by kernel_rfl) (by kernel_rfl) (by kernel_rfl) (fun _ _ _ h => h) (Or.inr ⟨?g_13, rfl⟩) hS ?_
    case i_13 => simp only [layG]; rfl
    case g_13 => rfl
    (try simp only [Act.put, layS])
    refine wpAnyH_take (i := 10) (oi := ?o_14) (v := undef) ?i_14 (by kernel_rfl) (by kernel_rfl) (by kernel_rfl) (fun _ _ _ h => h) (Or.inr ⟨?g_14, rfl⟩) hS ?_
    case i_14 => simp only [layG]; rfl
    case g_14 => rfl
    (try simp only [Act.put, layS])
    refine wpAnyH_take (i := 11) (oi := ?o_15) (v := undef) ?i_15 (by kernel_rfl) (by kernel_rfl) (by kernel_rfl) (fun _ _ _ h => h) (Or.inr ⟨?g_15, rfl⟩) hS ?_
    case i_15 => simp only [layG]; rfl
    case g_15 => rfl
    (try simp only [Act.put, layS])
    refine wpAnyH_take (i := 12) (oi := ?o_16) (v := undef) ?i_16 (by kernel_rfl) (by kernel_rfl) (by kernel_rfl) (fun _ _ _ h => h) (Or.inr ⟨?g_16, rfl⟩) hS ?_
    case i_16 => simp only [layG]; rfl
    case g_16 => rfl
    (try simp only [Act.put, layS])
    refine wpAnyH_take (i := 13) (oi := ?o_17) (v := undef) ?i_17 (by kernel_rfl) (by kernel_rfl) (by kernel_rfl) (fun _ _ _ h => h) (Or.inr ⟨?g_17, rfl⟩) hS ?_
    case i_17 => simp only [layG]; rfl
    case g_17 => rfl
    (try simp only [Act.put, layS])
    refine wpAnyH_take (i := 14) (oi := ?o_18) (v := ?v_18) ?i_18 (by kernel_rfl) (by kernel_rfl) (by kernel_rfl) (fun _ _ _ h => h) (Or.inl ⟨?g_18, ?y_18⟩) hS ?_
    case i_18 => simp only [layG]; rfl
    case g_18 => rfl
    case y_18 => (intro w hSw; (go_simp <;> with_reducible rfl))
    (try simp only [Act.put, layS])
    refine wpAnyH_done (by kernel_rfl) ?_ _
    refine NoPanic.normal ?_
    go_wp2
    go_ret
    exact ⟨by rw [HX.out]; rfl, HWD.out⟩
  ·have i2 : ¬ (j : Int) < (m.length : Int) := by omega
   have HX : Hid (underX l m = true) := Lib.hid (under_iff.2 fun k hk => HE.out k (by omega))
   go_wp2
   go_ret
   exact ⟨by rw [HX.out]; rfl, HW.out⟩
theorem stepT_len {s : Stp} (h : okS s = true) : (stepT s).length ≤ 27 := by
 unfold okS at h
 simp only [Bool.and_eq_true] at h
 have h1 := ident_len h.1
 unfold stepT
 by_cases hk : identX s.2 = true
 ·have h2 := ident_len hk
  rw [if_pos hk]
  simp only [List.length_cons, List.length_append, List.length_nil]
  omega
 ·rw [if_neg hk]
  simp only [List.length_cons, List.length_append, List.length_nil]
  omega
theorem catT_len {l : List Stp} (h : l.all okS = true) : (catT l).length ≤ 27 * l.length := by
 induction l with
 | nil => exact Nat.le_refl _
 | cons s l ih =>
  simp only [List.all_cons, Bool.and_eq_true] at h
  have h1 := stepT_len h.1
  have h2 := ih h.2
  simp only [catT, List.length_append, List.length_cons]
  omega
theorem take_snoc15 {l : List Stp} {j : Nat} {s : Stp} (h : l[j]? = some s) : l.take (j + 1) = l.take j ++ [s] := by
 have hj : j < l.length := (List.getElem?_eq_some_iff.1 h).1
 rw [List.take_succ_eq_append_getElem hj]
 rw [List.getElem?_eq_getElem hj] at h
 injection h with h
 rw [h]
theorem catT_snoc (l : List Stp) (s : Stp) : catT (l ++ [s]) = catT l ++ stepT s := by rw [catT_app]; simp [catT]
def ShL (l : List Stp) (j : Nat) (t : List UInt8) : Prop := t = catT (l.take j) ∧ (l.take j).all okS = true ∧ t.length ≤ 27 * j
theorem ShL.zero (l : List Stp) : ShL l 0 [] := ⟨rfl, rfl, Nat.le_refl _⟩
theorem ShL.step {l : List Stp} {j : Nat} {t : List UInt8} {s : Stp} (h : ShL l j t) (hs : l[j]? = some s) (ho : okS s = true) : ShL l (j + 1) (t ++ stepT s) := by
 obtain ⟨h1, h2, h3⟩ := h
 have h4 := stepT_len ho
 refine ⟨by rw [take_snoc15 hs, catT_snoc, h1], by rw [take_snoc15 hs]; simp [h2, ho], by rw [List.length_append]; omega⟩
theorem ShL.end_ {l : List Stp} {t : List UInt8} (h : ShL l l.length t) : (l = [] ∧ t = [] ∧ showX l = [47]) ∨ (t ≠ [] ∧ 6 < l.length ∧ showX l = []) ∨ (t ≠ [] ∧ l.length ≤ 6 ∧ showX l = t) := by
 obtain ⟨h1, h2, h3⟩ := h
 rw [List.take_length] at h1 h2
 by_cases h0 : l = []
 ·subst h0; exact .inl ⟨rfl, h1, rfl⟩
 have ht : t ≠ [] := fun e => h0 (catT_nil (by rw [← h1, e]))
 by_cases h6 : 6 < l.length
 ·exact .inr (.inl ⟨ht, h6, by unfold showX; rw [if_pos h2, if_neg h0, if_pos h6]⟩)
 ·exact .inr (.inr ⟨ht, by omega, by unfold showX; rw [if_pos h2, if_neg h0, if_neg h6, h1]⟩)
theorem stepT_key {n k : List UInt8} (h : identX k = true) : stepT (n, k) = 47 :: n ++ (91 :: k ++ [93]) := by unfold stepT; simp [h]
theorem stepT_no {n k : List UInt8} (h : identX k = false) : stepT (n, k) = 47 :: n := by unfold stepT; simp [h]
def ShowP (l : List Stp) (w : World) (r : Ending) (w' : World) : Prop := r = .returned (.string (txt (showX l))) ∧ Below w.heap.size w w'
set_option maxRecDepth 100000 in
set_option maxHeartbeats 4000000 in
theorem rshow15_any (l : List Stp) (v : Value) (w : World) (hv : WayV w.heap.size w v l) (hl : l.length ≤ 1000000) (hs : ∀ s ∈ l, s.1.length ≤ 9223372036854775807 ∧ s.2.length ≤ 9223372036854775807) :
  Calls Tryd.prog 14 #[v] w (ShowP l w) := by
 obtain ⟨A, c, rfl⟩ := hv.shape
 have HA := Lib.hid hv
 have HLS := Lib.hid hs
 have HR : Hid (∀ t, showX l = t → ShowP l w (.returned (.string (txt t))) w) := Lib.hid (fun t h => ⟨by rw [h], Below.refl _ _⟩)
 clear hv hs
 have l0 : (l.length : Int) ≤ 1000000 := by omega
 go_enter Tryd.func14, Tryd.ntmps14
 go_wp2_with fail
 go_loop [3, 4, 5, 6] (fun v i _ _ => ∃ (j : Nat) (t : List UInt8), j ≤ l.length ∧ i = .int .i64 (j : Int) ∧ v = .string (txt t) ∧ Hid (ShL l j t)) (fun _ i _ _ => l.length - (intOf i).toNat)
 case atStart => exact ⟨0, [], Nat.zero_le _, rfl, rfl, Lib.hid (ShL.zero l)⟩
 case round =>
  obtain ⟨j, t, hj, rfl, rfl, HT⟩ := hrel
  have i1 : (0 : Int) ≤ (j : Int) := by omega
  by_cases hlt : j < l.length
  ·have i2 : (j : Int) < (l.length : Int) := by omega
   obtain ⟨⟨n, k⟩, hs⟩ : ∃ s, l[j]? = some s := ⟨_, List.getElem?_eq_getElem hlt⟩
   obtain ⟨g, o, rfl, -, -, -, q0, q1⟩ := HA.out.at hs
   have hmem : (n, k) ∈ l := List.mem_of_getElem? hs
   have c1 := Lib.hid (rident_any n (HLS.out _ hmem).1 w)
   have c2 := Lib.hid (rident_any k (HLS.out _ hmem).2 w)
   have tk : (txt k).toList = k := txt_toList k
   have HM := Lib.hid hs
   have n1 : j < l.length := hlt
   cases hn : identX n with
   | false =>
    have HF : Hid (showX l = []) := Lib.hid (show_bad hmem (by unfold okS; simp [hn]))
    have HN := Lib.hid hn
    clear hn hs hmem HT
    go_wp2_with fail
    refine c1.out.mono ?_
    rintro e w1 ⟨rfl, rfl⟩
    rw [HN.out]
    go_wp2_with fail
    refine c2.out.mono ?_
    rintro e w1 ⟨rfl, rfl⟩
    generalize identX k = bk
    clear c1 c2
    go_wp2
    go_ret
    exact HR.out [] HF.out
   | true =>
    have HN := Lib.hid hn
    cases hk : identX k with
    | false =>
     have HK := Lib.hid hk
     by_cases h0 : k = []
     ·subst h0
      have e0 : txt [] = (⟨#[]⟩ : ByteArray) := rfl
      have HT2 : Hid (ShL l (j + 1) (t ++ (47 :: n))) := Lib.hid (by have h := HT.out.step hs (by unfold okS; simp [hn]); rwa [stepT_no hk] at h)
      have ht := HT.out.2.2
      have hnl := ident_len hn
      have sz1 : (txt t).size ≤ 27000000 := by rw [txt_size]; omega
      have sz2 : (txt n).size ≤ 12 := by rw [txt_size]; omega
      have cat : txt t ++ (⟨#[47]⟩ ++ txt n) = txt (t ++ (47 :: n)) := by
       rw [show (⟨#[47]⟩ : ByteArray) = txt [47] from rfl, txt_catS, txt_catS]; rfl
      clear hn hk hs hmem ht hnl
      go_wp2_with fail
      refine c1.out.mono ?_
      rintro e w1 ⟨rfl, rfl⟩
      rw [HN.out]
      go_wp2_with fail
      refine c2.out.mono ?_
      rintro e w1 ⟨rfl, rfl⟩
      rw [HK.out]
      clear c1 c2
      go_wp2
      go_round
      case rel => exact ⟨j + 1, _, by omega, by go_num, rfl, HT2⟩
      case measure => simp [intOf]; omega
     ·have HF : Hid (showX l = []) := Lib.hid (show_bad hmem (by unfold okS; simp [hk, h0]))
      have g1 : k.isEmpty = false := by simpa using h0
      have g2 : (k == []) = false := beq_eq_false_iff_ne.2 h0
      have g3 : (!k.isEmpty) = true := by rw [g1]; rfl
      have g4 : (k != []) = true := by unfold bne; rw [g2]; rfl
      clear hn hk hs hmem HT h0
      go_wp2_with fail
      refine c1.out.mono ?_
      rintro e w1 ⟨rfl, rfl⟩
      rw [HN.out]
      go_wp2_with fail
      refine c2.out.mono ?_
      rintro e w1 ⟨rfl, rfl⟩
      rw [HK.out]
      clear c1 c2
      go_wp2
      go_ret
      exact HR.out [] HF.out
    | true =>
     have HK := Lib.hid hk
     have HT2 : Hid (ShL l (j + 1) (t ++ (47 :: n ++ (91 :: k ++ [93])))) := Lib.hid (by have h := HT.out.step hs (by unfold okS; simp [hn, hk]); rwa [stepT_key hk] at h)
     have ht := HT.out.2.2
     have hnl := ident_len hn
     have hkl := ident_len hk
     have sz1 : (txt t).size ≤ 27000000 := by rw [txt_size]; omega
     have sz2 : (txt n).size ≤ 12 := by rw [txt_size]; omega
     have sz3 : (txt k).size ≤ 12 := by rw [txt_size]; omega
     have cat : txt t ++ (⟨#[47]⟩ ++ txt n) ++ (⟨#[91]⟩ ++ txt k ++ ⟨#[93]⟩) = txt (t ++ (47 :: n ++ (91 :: k ++ [93]))) := by
      rw [show (⟨#[47]⟩ : ByteArray) = txt [47] from rfl, show (⟨#[91]⟩ : ByteArray) = txt [91] from rfl, show (⟨#[93]⟩ : ByteArray) = txt [93] from rfl, txt_catS, txt_catS, txt_catS, txt_catS, txt_catS]
      congr 1
      simp
     have g1 : k.isEmpty = false := by simpa using ident_ne hk
     clear hn hk hs hmem ht hnl hkl
     go_wp2_with fail
     refine c1.out.mono ?_
     rintro e w1 ⟨rfl, rfl⟩
     rw [HN.out]
     go_wp2_with fail
     refine c2.out.mono ?_
     rintro e w1 ⟨rfl, rfl⟩
     rw [HK.out]
     clear c1 c2
     go_wp2
     go_round
     case rel => exact ⟨j + 1, _, by omega, by go_num, rfl, HT2⟩
     case measure => simp [intOf]; omega
  ·obtain rfl : j = l.length := by omega
   have i2 : ¬ (l.length : Int) < (l.length : Int) := by omega
   have tt : (txt t).toList = t := txt_toList t
   rcases HT.out.end_ with ⟨h1, rfl, h3⟩ | ⟨h1, h2, h3⟩ | ⟨h1, h2, h3⟩
   ·have e0 : txt [] = (⟨#[]⟩ : ByteArray) := rfl
    have HF := Lib.hid h3
    clear HT h3 hlt h1
    go_wp2
    go_ret
    exact HR.out [47] HF.out
   ·have HF := Lib.hid h3
    have g1 : t.isEmpty = false := by simpa using h1
    have g2 : (t == []) = false := beq_eq_false_iff_ne.2 h1
    have i6 : (6 : Int) < (l.length : Int) := by omega
    clear HT h3 hlt h1 h2
    go_wp2
    go_ret
    exact HR.out [] HF.out
   ·have HF := Lib.hid h3
    have g1 : t.isEmpty = false := by simpa using h1
    have g2 : (t == []) = false := beq_eq_false_iff_ne.2 h1
    have i6 : ¬ (6 : Int) < (l.length : Int) := by omega
    clear HT h3 hlt h1 h2
    go_wp2
    go_ret
    exact HR.out t HF.out
end Go.Proofs.YtikmilcdibldhaaDoor
namespace Go.Proofs.YtikmilcdibldhaaDoor
open Go.RowKit
def SpcD : RdOf SpD := fun w N cs a => ∃ nv kv d, cs = [.string (txt a.name), .int .i64 (a.kind : Int), .int .i64 (a.typ : Int), .int .u64 (a.low : Int), .int .u64 (a.high : Int), nv, .bool a.must, .int .i64 (a.most : Int), kv] ∧
 Vals w d nv (txts a.names) ∧ (0 < a.names.length → N d) ∧ kv.oneCell' = true
theorem txts_len (l : List (List UInt8)) : (txts l).length = l.length := by simp [txts]
theorem Vals.heap {w w' : World} {d : Nat} {v : Value} {xs : List Value} (h : Vals w d v xs) (hk : 0 < xs.length → w'.heap[d]? = w.heap[d]?) : Vals w' d v xs := by
 obtain ⟨A, c, rfl, h1, h2⟩ := h
 refine ⟨A, c, rfl, h1, fun h0 => ?_⟩
 obtain ⟨hlt, off, rfl, hc⟩ := h2 h0
 have hb := hk h0
 refine ⟨?_, off, rfl, fun j u hj => (World.cell?_of_block (w := w) (a := ⟨d, off + j, none⟩) hb).trans (hc j u hj)⟩
 rw [Array.getElem?_eq_getElem hlt] at hb
 exact (Array.getElem?_eq_some_iff.1 hb).1
theorem stay_spc : StayD SpcD := by
 intro w w' N N' cs a hk hN ⟨nv, kv, d, h1, h2, h3, h4⟩
 refine ⟨nv, kv, d, h1, h2.heap (fun h0 => hk d (h3 ?_)), fun h0 => hN d (h3 h0), h4⟩
 rwa [txts_len] at h0
theorem one_spc : OneD SpcD := by
 intro w N cs a ⟨nv, kv, d, h1, ⟨A, c, h2, _⟩, _, h4⟩ u hu
 subst h1 h2
 simp only [List.mem_cons, List.not_mem_nil, or_false] at hu
 rcases hu with rfl | rfl | rfl | rfl | rfl | rfl | rfl | rfl | rfl <;> first | rfl | exact h4
abbrev SpN (w : World) (S N : Nat → Prop) (cs : List Value) (x : Sp) : Prop := FrN SpcD 9 8 w S N cs x.1 x.2
theorem SpN.shape {w : World} {S N : Nat → Prop} {cs : List Value} {x : Sp} (h : SpN w S N cs x) :
  ∃ B m A c d, cs = [.string (txt x.1.name), .int .i64 (x.1.kind : Int), .int .i64 (x.1.typ : Int), .int .u64 (x.1.low : Int), .int .u64 (x.1.high : Int), .slice B x.1.names.length m, .bool x.1.must, .int .i64 (x.1.most : Int), .slice A x.2.len c] ∧
   Vals w d (.slice B x.1.names.length m) (txts x.1.names) ∧ (0 < x.1.names.length → N d) ∧ FrV SpcD 9 8 w S N (.slice A x.2.len c) x.2 := by
 obtain ⟨_, ⟨nv, kv, d, rfl, h2, h3, _⟩, v, h5, h6⟩ := h
 obtain ⟨A, c, rfl⟩ := h6.shape
 simp at h5
 subst h5
 obtain ⟨B, m, e⟩ := h2.shape
 rw [txts_len] at e
 subst e
 exact ⟨B, m, A, c, d, rfl, h2, h3, h6⟩
theorem SpN.make {w : World} {S N : Nat → Prop} {a : SpD} {k : SpF} {nv kv : Value} {d : Nat} (h1 : Vals w d nv (txts a.names)) (h2 : 0 < a.names.length → N d) (h3 : FrV SpcD 9 8 w S N kv k) :
  SpN w S N [.string (txt a.name), .int .i64 (a.kind : Int), .int .i64 (a.typ : Int), .int .u64 (a.low : Int), .int .u64 (a.high : Int), nv, .bool a.must, .int .i64 (a.most : Int), kv] (a, k) := by
 refine ⟨rfl, ⟨nv, kv, d, rfl, h1, h2, ?_⟩, kv, rfl, h3⟩
 obtain ⟨A, c, rfl⟩ := h3.shape
 rfl
def Fresh (base : Nat) (w : World) (g : Nat) : Prop := base ≤ g ∧ ∃ cs t, w.heap[g]? = some (.cells cs t (0, 0))
theorem Fresh.lt {base : Nat} {w : World} {g : Nat} (h : Fresh base w g) : g < w.heap.size := by
 obtain ⟨_, cs, t, h⟩ := h
 exact (Array.getElem?_eq_some_iff.1 h).1
theorem Fresh.below {base : Nat} {w w' : World} {g : Nat} (h : Fresh base w g) (hb : Below w.heap.size w w') : Fresh base w' g := by
 have hl := h.lt
 obtain ⟨h0, cs, t, h⟩ := h
 exact ⟨h0, cs, t, (hb.block g hl).trans h⟩
def NewSp (base : Nat) (w : World) (cs : List Value) (x : Sp) : Prop := ∃ S N, (∀ g, S g → Fresh base w g) ∧ (∀ g, N g → Fresh base w g ∧ ¬ S g) ∧ SpN w S N cs x
def SpP (x : Sp × Nat) (w : World) (r : Ending) (w' : World) : Prop := ∃ cs, r = .returned (.tuple #[.agg cs.toArray, .int .i64 (x.2 : Int)]) ∧ NewSp w.heap.size w' cs x.1 ∧ Below w.heap.size w w'
def AnsP (v : Value) (w : World) (r : Ending) (w' : World) : Prop := r = .returned v ∧ Below w.heap.size w w'
def FindC (W0 : World) : Prop := ∀ (n : List UInt8) (S N : Nat → Prop) (cs : List Value) (x : Sp) (w : World), SpN w S N cs x → (∀ g, S g → g < w.heap.size) → x.2.len ≤ 1000000 → Below W0.heap.size W0 w →
 Calls Tryd.prog 19 #[.agg cs.toArray, .string (txt n)] w (AnsP (.int .i64 (findI n x.2)) w)
end Go.Proofs.YtikmilcdibldhaaDoor
