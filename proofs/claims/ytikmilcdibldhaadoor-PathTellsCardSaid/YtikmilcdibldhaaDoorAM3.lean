/- WayMem VadRefC -/
import Derived.Test.YtikmilcdibldhaaDoorAM0
import Derived.Test.YtikmilcdibldhaaDoorAM1
import Derived.Test.YtikmilcdibldhaaDoorAM2
set_option linter.unusedSimpArgs false
set_option linter.unusedVariables false
namespace Go.Proofs.YtikmilcdibldhaaDoor
open Go.RowKit
theorem Tryd.cellsSt : (Tryd.prog.info? 46).map (fun i => (i.zero, i.size, i.bytes)) = some (some (.agg #[.string ⟨#[]⟩, .string ⟨#[]⟩]), 2, 32) := by kernel_rfl
theorem szeroN : (Value.agg #[.string ⟨#[]⟩, .string ⟨#[]⟩]).cells.size = 2 := rfl
def stC : List Stp → List Value
 | [] => []
 | s :: l => .string (txt s.1) :: .string (txt s.2) :: stC l
theorem stC_len : ∀ l : List Stp, (stC l).length = l.length * 2
 | [] => rfl
 | s :: l => by simp only [stC, List.length_cons, stC_len l]; omega
theorem stC_one : ∀ (l : List Stp) (u : Value), u ∈ stC l → u.oneCell' = true
 | [], u, h => by cases h
 | s :: l, u, h => by
  simp only [stC, List.mem_cons] at h
  rcases h with rfl | rfl | h
  ·rfl
  ·rfl
  ·exact stC_one l u h
theorem stC_at : ∀ (l : List Stp) (j : Nat) (s : Stp), l[j]? = some s → (stC l)[j * 2]? = some (.string (txt s.1)) ∧ (stC l)[j * 2 + 1]? = some (.string (txt s.2))
 | [], j, s, h => by simp at h
 | t :: l, 0, s, h => by simp at h; subst h; exact ⟨rfl, rfl⟩
 | t :: l, j + 1, s, h => by
  have h1 := stC_at l j s (by simpa using h)
  rw [show (j + 1) * 2 = j * 2 + 1 + 1 by omega]
  simpa [stC] using h1
def OwnS (base : Nat) (w : World) (v : Value) (l : List Stp) : Prop := OwnK 46 2 w base v l.length (stC l)
section
variable {w w' : World} {base : Nat} {v : Value} {l : List Stp}
theorem OwnS.nil (w : World) (base : Nat) : OwnS base w (.slice none 0 0) [] := OwnK.nil _ _ _ _
theorem OwnS.below (h : OwnS base w v l) (hb : Below w.heap.size w w') : OwnS base w' v l := OwnK.below h hb
theorem OwnS.mono {b : Nat} (h : OwnS base w v l) (hb : b ≤ base) : OwnS b w v l := OwnK.mono h hb
theorem OwnS.lt (h : OwnS base w v l) : ∀ b, v.ownBlock = some b → base ≤ b ∧ b < w.heap.size := OwnK.lt h
theorem OwnS.shape (h : OwnS base w v l) : ∃ A c, v = .slice A l.length c := OwnK.shape h
theorem OwnS.way (h : OwnS base w v l) : WayV w.heap.size w v l := by
 obtain ⟨d, ⟨h0, A, c, rfl, h1, h2⟩, _⟩ := OwnK.row h
 refine ⟨A, c, rfl, h1, fun hp => ?_⟩
 obtain ⟨hlt, off, rfl, hc⟩ := h2 hp
 refine ⟨d, off, rfl, hlt, fun j s hs => ?_⟩
 obtain ⟨g1, g2⟩ := stC_at l j s hs
 exact ⟨hc _ _ g1, by have := hc _ _ g2; rwa [← Nat.add_assoc] at this⟩
end
theorem OwnS.one {w : World} (s : Stp) {base : Nat} (hb : base ≤ w.heap.size) : OwnS base (w.alloc (.cells #[.string (txt s.1), .string (txt s.2)] 46)) (.slice (some ⟨w.heap.size, 0, none⟩) 1 1) [s] :=
 ⟨rfl, .inr ⟨w.heap.size, 1, #[.string (txt s.1), .string (txt s.2)], rfl, hb, Blk.new w _ _, Nat.le_refl _, by unfold maxLen; omega, rfl, rfl⟩⟩
theorem OwnS.two {w : World} (s t : Stp) {base : Nat} (hb : base ≤ w.heap.size) : OwnS base (w.alloc (.cells #[.string (txt s.1), .string (txt s.2), .string (txt t.1), .string (txt t.2)] 46)) (.slice (some ⟨w.heap.size, 0, none⟩) 2 2) [s, t] :=
 ⟨rfl, .inr ⟨w.heap.size, 2, #[.string (txt s.1), .string (txt s.2), .string (txt t.1), .string (txt t.2)], rfl, hb, Blk.new w _ _, Nat.le_refl _, by unfold maxLen; omega, rfl, rfl⟩⟩
theorem app_none9 (w : World) (A : Option Addr) (c : Nat) : (Builtin.append_ #[23, 23] 23 #[.slice none 0 0, .slice A 0 c]).run Tryd.prog w = .ok (.slice none 0 0) w := by
 obtain ⟨i, hi, hz0, hz1, hz2⟩ := info_parts Tryd.cellsSt
 cases A with
 | none => simp [Builtin.append_, run_underlying Tryd.underlying23, sizeOf, typeInfo, hi, storeCells, Builtin.lenOf, Builtin.firstCells]
 | some ad =>
  have h := run_firstCells_some (P := Tryd.prog) w i.size 0 ad 0 c [] (by simp) (by simp)
  simp [Builtin.append_, run_underlying Tryd.underlying23, sizeOf, typeInfo, hi, storeCells, Builtin.lenOf, h]
theorem WayV.cells {b : Nat} {w : World} {A : Option Addr} {c : Nat} {l : List Stp} (h : WayV b w (.slice A l.length c) l) (h0 : 0 < l.length) : ∃ ad : Addr, A = some ad ∧ ∀ j u, (stC l)[j]? = some u → w.cell? (ad.add j) = some u := by
 obtain ⟨A', c', e, h1, h2⟩ := h
 injection e with e1 e2 e3
 subst e1 e3
 obtain ⟨g, o, rfl, hg, hc⟩ := h2 h0
 refine ⟨_, rfl, fun j u hu => ?_⟩
 have e1 : (⟨g, o, none⟩ : Addr).add j = ⟨g, o + j, none⟩ := by unfold Addr.add; split <;> simp_all
 rw [e1]
 have hj : j < (stC l).length := (List.getElem?_eq_some_iff.1 hu).1
 rw [stC_len] at hj
 obtain ⟨s, hs⟩ : ∃ s, l[j / 2]? = some s := ⟨_, List.getElem?_eq_getElem (by omega)⟩
 obtain ⟨g1, g2⟩ := stC_at l (j / 2) s hs
 obtain ⟨k1, k2⟩ := hc _ _ hs
 rcases Nat.mod_two_eq_zero_or_one j with h | h
 ·have hj2 : j / 2 * 2 = j := by omega
  rw [hj2] at g1 k1
  rw [hu] at g1
  rw [k1, g1]
 ·have hj2 : j / 2 * 2 + 1 = j := by omega
  rw [hj2] at g2
  rw [hu] at g2
  rw [show o + j = o + j / 2 * 2 + 1 by omega, k2, g2]
theorem app_way (w : World) (v : Value) (l : List Stp) (hv : WayV w.heap.size w v l) (hl : l.length ≤ 1000000) :
  ∃ v' w', (Builtin.append_ #[23, 23] 23 #[.slice none 0 0, v]).run Tryd.prog w = .ok v' w' ∧ OwnS w.heap.size w' v' l ∧ Below w.heap.size w w' := by
 obtain ⟨A, c, rfl⟩ := hv.shape
 by_cases h0 : 0 < l.length
 ·obtain ⟨ad, rfl, hc⟩ := hv.cells h0
  obtain ⟨i, hi, hz0, hz1, hz2⟩ := info_parts Tryd.cellsSt
  obtain ⟨v', w', hr, h2, h3, -, h5⟩ := run_append_own_at (P := Tryd.prog) w w.heap.size 23 23 46 i (.agg #[.string ⟨#[]⟩, .string ⟨#[]⟩]) 2 32 Tryd.underlying23 hi hz0 hz1 hz2 szeroN (by omega) (.slice none 0 0) 0 [] (OwnK.nil _ _ _ _) ad l.length c (stC l) (stC_len l) hc (stC_one l) (by unfold maxLen; omega) (by omega) (Nat.le_refl _)
  rw [Nat.zero_add] at h2
  exact ⟨v', w', hr, h2, ⟨h3.os, h3.tape, h3.output, h3.size, fun k hk => h3.block k hk (by simp [Value.ownBlock])⟩⟩
 ·have e : l = [] := List.eq_nil_of_length_eq_zero (by omega)
  subst e
  exact ⟨_, w, app_none9 w A c, OwnS.nil _ _, Below.refl _ _⟩
theorem stC_app (l m : List Stp) : stC (l ++ m) = stC l ++ stC m := by
 induction l with
 | nil => rfl
 | cons s l ih => simp [stC, ih]
end Go.Proofs.YtikmilcdibldhaaDoor
namespace Go.Proofs.YtikmilcdibldhaaDoor
open Go.RowKit
attribute [local go_sem] Oper.semAt_some
theorem step_neq10 (s t : Stp) (W : World) : (binOp .neq 46 (.agg #[.string (txt s.1), .string (txt s.2)]) (.agg #[.string (txt t.1), .string (txt t.2)])).run Tryd.prog W = .ok (.bool (!decide (s = t))) W := by
 rw [run_neq_struct, show (10000 : Nat) = 9999 + 1 from rfl, run_equalIn_agg W 9999 46 _ _ (by simp only [Program.fieldsOf, Tryd.underlying46]) (by kernel_rfl)]
 simp only [Program.fieldsOf, Tryd.underlying46]
 simp only [Op.eqFields]
 go_simp
 simp only [txt_toList]
 by_cases h1 : s.1 = t.1
 ·by_cases h2 : s.2 = t.2
  ·have h : s = t := Prod.ext h1 h2
   simp [h]
  ·have h : s ≠ t := fun e => h2 (congrArg Prod.snd e)
   simp [h1, h2, h]
 ·have h : s ≠ t := fun e => h1 (congrArg Prod.fst e)
  simp [h1, h]
set_option maxRecDepth 100000 in
set_option maxHeartbeats 4000000 in
theorem rsteps10_any (l m : List Stp) (va vb : Value) (w : World) (ha : WayV w.heap.size w va l) (hb : WayV w.heap.size w vb m) (hl : l.length ≤ 1000000) (hm : m.length ≤ 1000000) :
  Calls Tryd.prog 10 #[va, vb] w (Ans9 (.bool (decide (l = m))) w) := by
 obtain ⟨A, c, rfl⟩ := ha.shape
 obtain ⟨B, d, rfl⟩ := hb.shape
 have HA := Lib.hid ha
 have HB := Lib.hid hb
 clear ha hb
 have l0 : (l.length : Int) ≤ 1000000 := by omega
 have m0 : (m.length : Int) ≤ 1000000 := by omega
 go_enter Tryd.func10, Tryd.ntmps10
 by_cases hlm : l.length = m.length
 ·have e0 : ((l.length : Int) != (m.length : Int)) = false := by unfold bne; rw [beq_iff_eq.2 (by omega : (l.length : Int) = (m.length : Int))]; rfl
  have HLM := Lib.hid hlm
  clear hlm
  go_wp2_with fail
  go_loopw [5] (fun v wr => ∃ j : Nat, j ≤ l.length ∧ v = .int .i64 (j : Int) ∧ Hid (∀ k, k < j → l[k]? = m[k]?) ∧ Hid (Below w.heap.size w wr)) (fun v _ => l.length - (intOf v).toNat)
  case atStart => exact ⟨0, Nat.zero_le _, rfl, Lib.hid (fun k hk => absurd hk (Nat.not_lt_zero _)), Lib.hid (Below.refl _ _)⟩
  case round =>
   obtain ⟨j, hj, rfl, HE, HW⟩ := hrel
   have i1 : (0 : Int) ≤ (j : Int) := by omega
   by_cases hlt : j < l.length
   ·obtain ⟨s, hs⟩ : ∃ s, l[j]? = some s := ⟨_, List.getElem?_eq_getElem hlt⟩
    obtain ⟨t, ht⟩ : ∃ t, m[j]? = some t := ⟨_, List.getElem?_eq_getElem (by have := HLM.out; omega)⟩
    obtain ⟨g, o, rfl, -, h2, h3, h4, h5⟩ := (HA.out.under HW.out (Nat.le_refl _) (Nat.le_refl _)).at hs
    obtain ⟨g', o', rfl, -, k2, k3, k4, k5⟩ := (HB.out.under HW.out (Nat.le_refl _) (Nat.le_refl _)).at ht
    have i2 : (j : Int) < (l.length : Int) := by omega
    have i3 : (j : Int) < (m.length : Int) := by have := HLM.out; omega
    have HS0 : Hid (wr.drew.cell? ⟨g, o + j * 2, none⟩ = some (.string (txt s.1)) ∧ wr.drew.cell? ⟨g, o + j * 2 + 1, none⟩ = some (.string (txt s.2)) ∧ wr.drew.cell? ⟨g', o' + j * 2, none⟩ = some (.string (txt t.1)) ∧ wr.drew.cell? ⟨g', o' + j * 2 + 1, none⟩ = some (.string (txt t.2))) := Lib.hid ⟨h4, h5, k4, k5⟩
    have HST := Lib.hid (And.intro hs ht)
    have HLT := Lib.hid hlt
    have n0 : j < l.length := hlt
    have n1 : j < m.length := by have := HLM.out; omega
    have e1 : ∀ W, (binOp .neq 46 (.agg #[.string (txt s.1), .string (txt s.2)]) (.agg #[.string (txt t.1), .string (txt t.2)])).run Tryd.prog W = .ok (.bool (!decide (s = t))) W := fun W => step_neq10 s t W
    have HWD : Hid (Below w.heap.size w wr.drew) := Lib.hid HW.out.drew
    clear hs ht h4 h5 k4 k5 hlt
    by_cases hst : s = t
    ·have b0 : (!decide (s = t)) = false := by rw [decide_eq_true hst]; rfl
     rw [b0] at e1
     have HEQ := Lib.hid hst
     clear hst b0
     go_wp2_with fail
     refine wp_region_noPanic ?_
     refine wp_region_held_drew (S := fun _ => True) (by kernel_rfl) trivial (fun hS => ?_)
     refine wpAnyH_take (i := 0) (oi := ?o_0) (v := ?v_0) ?i_0 (by kernel_rfl) (by kernel_rfl) (by kernel_rfl) (fun _ _ _ h => h) (Or.inl ⟨?g_0, ?y_0⟩) hS ?_
     case i_0 => simp only [layG]; rfl
     case g_0 => rfl
     case y_0 => (intro w hSw; (go_simp <;> with_reducible rfl))
     (try simp only [Act.put, layS])
     refine wpAnyH_take (i := 1) (oi := ?o_1) (v := ?v_1) ?i_1 (by kernel_rfl) (by kernel_rfl) (by kernel_rfl) (fun _ _ _ h => h) (Or.inl ⟨?g_1, ?y_1⟩) hS ?_
     case i_1 => simp only [layG]; rfl
     case g_1 => rfl
     case y_1 => (intro w hSw; (go_simp <;> with_reducible rfl))
     (try simp only [Act.put, layS])
     refine wpAnyH_take (i := 2) (oi := ?o_2) (v := ?v_2) ?i_2 (by kernel_rfl) (by kernel_rfl) (by kernel_rfl) (fun _ _ _ h => h) (Or.inl ⟨?g_2, ?y_2⟩) hS ?_
     case i_2 => simp only [layG]; rfl
     case g_2 => rfl
     case y_2 => (intro w hSw; (go_simp <;> with_reducible rfl))
     (try simp only [Act.put, layS])
     refine held_more (S' := fun w' => w'.cell? ⟨g, o + j * 2, none⟩ = some (.string (txt s.1)) ∧ w'.cell? ⟨g, o + j * 2 + 1, none⟩ = some (.string (txt s.2)) ∧ w'.cell? ⟨g', o' + j * 2, none⟩ = some (.string (txt t.1)) ∧ w'.cell? ⟨g', o' + j * 2 + 1, none⟩ = some (.string (txt t.2))) (fun _ _ => trivial) _ _ _ _ ?_
     replace hS := HS0.out
     refine wpAnyH_take (i := 3) (oi := ?o_3) (v := ?v_3) ?i_3 (by kernel_rfl) (by kernel_rfl) (by kernel_rfl) (fun _ _ _ h => h) (Or.inl ⟨?g_3, ?y_3⟩) hS ?_
     case i_3 => simp only [layG]; rfl
     case g_3 => rfl
     case y_3 => (intro w hSw; have q0 := hSw.1; have q1 := hSw.2.1; (go_simp <;> with_reducible rfl))
     (try simp only [Act.put, layS])
     refine wpAnyH_take (i := 4) (oi := ?o_4) (v := ?v_4) ?i_4 (by kernel_rfl) (by kernel_rfl) (by kernel_rfl) (fun _ _ _ h => h) (Or.inl ⟨?g_4, ?y_4⟩) hS ?_
     case i_4 => simp only [layG]; rfl
     case g_4 => rfl
     case y_4 => (intro w hSw; (go_simp <;> with_reducible rfl))
     (try simp only [Act.put, layS])
     refine wpAnyH_take (i := 5) (oi := ?o_5) (v := ?v_5) ?i_5 (by kernel_rfl) (by kernel_rfl) (by kernel_rfl) (fun _ _ _ h => h) (Or.inl ⟨?g_5, ?y_5⟩) hS ?_
     case i_5 => simp only [layG]; rfl
     case g_5 => rfl
     case y_5 => (intro w hSw; (go_simp <;> with_reducible rfl))
     (try simp only [Act.put, layS])
     refine wpAnyH_take (i := 6) (oi := ?o_6) (v := ?v_6) ?i_6 (by kernel_rfl) (by kernel_rfl) (by kernel_rfl) (fun _ _ _ h => h) (Or.inl ⟨?g_6, ?y_6⟩) hS ?_
     case i_6 => simp only [layG]; rfl
     case g_6 => rfl
     case y_6 => (intro w hSw; (go_simp <;> with_reducible rfl))
     (try simp only [Act.put, layS])
     refine wpAnyH_take (i := 7) (oi := ?o_7) (v := ?v_7) ?i_7 (by kernel_rfl) (by kernel_rfl) (by kernel_rfl) (fun _ _ _ h => h) (Or.inl ⟨?g_7, ?y_7⟩) hS ?_
     case i_7 => simp only [layG]; rfl
     case g_7 => rfl
     case y_7 => (intro w hSw; have q0 := hSw.2.2.1; have q1 := hSw.2.2.2; (go_simp <;> with_reducible rfl))
     (try simp only [Act.put, layS])
     refine wpAnyH_take (i := 8) (oi := ?o_8) (v := ?v_8) ?i_8 (by kernel_rfl) (by kernel_rfl) (by kernel_rfl) (fun _ _ _ h => h) (Or.inl ⟨?g_8, ?y_8⟩) hS ?_
     case i_8 => simp only [layG]; rfl
     case g_8 => rfl
     case y_8 => (intro w hSw; (go_simp <;> with_reducible rfl))
     (try simp only [Act.put, layS])
     refine wpAnyH_done (by kernel_rfl) ?_ _
     refine NoPanic.normal ?_
     clear hS
     go_wp2
     go_roundw
     case rel => exact ⟨j + 1, HLT.out, by go_num, Lib.hid (fun k hk => by
      by_cases hkj : k < j
      ·exact HE.out k hkj
      ·have e : k = j := by omega
       subst e
       rw [HST.out.1, HST.out.2, HEQ.out]), HWD⟩
     case measure => have := HLT.out; simp [intOf]; omega
    ·have b0 : (!decide (s = t)) = true := by rw [decide_eq_false hst]; rfl
     rw [b0] at e1
     have HX : Hid (decide (l = m) = false) := Lib.hid (decide_eq_false fun e => hst (by have h1 := HST.out.1; have h2 := HST.out.2; rw [e, h2] at h1; injection h1 with h1; exact h1.symm))
     clear hst b0
     go_wp2_with fail
     refine wp_region_noPanic ?_
     refine wp_region_held_drew (S := fun _ => True) (by kernel_rfl) trivial (fun hS => ?_)
     refine wpAnyH_take (i := 0) (oi := ?o_9) (v := ?v_9) ?i_9 (by kernel_rfl) (by kernel_rfl) (by kernel_rfl) (fun _ _ _ h => h) (Or.inl ⟨?g_9, ?y_9⟩) hS ?_
     case i_9 => simp only [layG]; rfl
     case g_9 => rfl
     case y_9 => (intro w hSw; (go_simp <;> with_reducible rfl))
     (try simp only [Act.put, layS])
     refine wpAnyH_take (i := 1) (oi := ?o_a) (v := ?v_a) ?i_a (by kernel_rfl) (by kernel_rfl) (by kernel_rfl) (fun _ _ _ h => h) (Or.inl ⟨?g_a, ?y_a⟩) hS ?_
     case i_a => simp only [layG]; rfl
     case g_a => rfl
     case y_a => (intro w hSw; (go_simp <;> with_reducible rfl))
     (try simp only [Act.put, layS])
     refine wpAnyH_take (i := 2) (oi := ?o_b) (v := ?v_b) ?i_b (by kernel_rfl) (by kernel_rfl) (by kernel_rfl) (fun _ _ _ h => h) (Or.inl ⟨?g_b, ?y_b⟩) hS ?_
     case i_b => simp only [layG]; rfl
     case g_b => rfl
     case y_b => (intro w hSw; (go_simp <;> with_reducible rfl))
     (try simp only [Act.put, layS])
     refine held_more (S' := fun w' => w'.cell? ⟨g, o + j * 2, none⟩ = some (.string (txt s.1)) ∧ w'.cell? ⟨g, o + j * 2 + 1, none⟩ = some (.string (txt s.2)) ∧ w'.cell? ⟨g', o' + j * 2, none⟩ = some (.string (txt t.1)) ∧ w'.cell? ⟨g', o' + j * 2 + 1, none⟩ = some (.string (txt t.2))) (fun _ _ => trivial) _ _ _ _ ?_
     replace hS := HS0.out
     refine wpAnyH_take (i := 3) (oi := ?o_c) (v := ?v_c) ?i_c (by kernel_rfl) (by kernel_rfl) (by kernel_rfl) (fun _ _ _ h => h) (Or.inl ⟨?g_c, ?y_c⟩) hS ?_
     case i_c => simp only [layG]; rfl
     case g_c => rfl
     case y_c => (intro w hSw; have q0 := hSw.1; have q1 := hSw.2.1; (go_simp <;> with_reducible rfl))
     (try simp only [Act.put, layS])
     refine wpAnyH_take (i := 4) (oi := ?o_d) (v := ?v_d) ?i_d (by kernel_rfl) (by kernel_rfl) (by kernel_rfl) (fun _ _ _ h => h) (Or.inl ⟨?g_d, ?y_d⟩) hS ?_
     case i_d => simp only [layG]; rfl
     case g_d => rfl
     case y_d => (intro w hSw; (go_simp <;> with_reducible rfl))
     (try simp only [Act.put, layS])
     refine wpAnyH_take (i := 5) (oi := ?o_e) (v := ?v_e) ?i_e (by kernel_rfl) (by kernel_rfl) (by kernel_rfl) (fun _ _ _ h => h) (Or.inl ⟨?g_e, ?y_e⟩) hS ?_
     case i_e => simp only [layG]; rfl
     case g_e => rfl
     case y_e => (intro w hSw; (go_simp <;> with_reducible rfl))
     (try simp only [Act.put, layS])
     refine wpAnyH_take (i := 6) (oi := ?o_f) (v := ?v_f) ?i_f (by kernel_rfl) (by kernel_rfl) (by kernel_rfl) (fun _ _ _ h => h) (Or.inl ⟨?g_f, ?y_f⟩) hS ?_
     case i_f => simp only [layG]; rfl
     case g_f => rfl
     case y_f => (intro w hSw; (go_simp <;> with_reducible rfl))
     (try simp only [Act.put, layS])
     refine wpAnyH_take (i := 7) (oi := ?o_g) (v := ?v_g) ?i_g (by kernel_rfl) (by kernel_rfl) (by kernel_rfl) (fun _ _ _ h => h) (Or.inl ⟨?g_g, ?y_g⟩) hS ?_
     case i_g => simp only [layG]; rfl
     case g_g => rfl
     case y_g => (intro w hSw; have q0 := hSw.2.2.1; have q1 := hSw.2.2.2; (go_simp <;> with_reducible rfl))
     (try simp only [Act.put, layS])
     refine wpAnyH_take (i := 8) (oi := ?o_h) (v := ?v_h) ?i_h (by kernel_rfl) (by kernel_rfl) (by kernel_rfl) (fun _ _ _ h => h) (Or.inl ⟨?g_h, ?y_h⟩) hS ?_
     case i_h => simp only [layG]; rfl
     case g_h => rfl
     case y_h => (intro w hSw; (go_simp <;> with_reducible rfl))
     (try simp only [Act.put, layS])
     refine wpAnyH_done (by kernel_rfl) ?_ _
     refine NoPanic.normal ?_
     clear hS
     go_wp2
     go_ret
     exact ⟨by rw [HX.out]; rfl, HWD.out⟩
   ·have i2 : ¬ (j : Int) < (l.length : Int) := by omega
    have HX : Hid (decide (l = m) = true) := Lib.hid (decide_eq_true (List.ext_getElem? fun k => by
     by_cases hk : k < j
     ·exact HE.out k hk
     ·rw [List.getElem?_eq_none (by omega), List.getElem?_eq_none (by have := HLM.out; omega)]))
    go_wp2
    go_ret
    exact ⟨by rw [HX.out]; rfl, HW.out⟩
 ·have e0 : ((l.length : Int) != (m.length : Int)) = true := by unfold bne; rw [beq_eq_false_iff_ne.2 (by omega : (l.length : Int) ≠ (m.length : Int))]; rfl
  have HX : Hid (decide (l = m) = false) := Lib.hid (decide_eq_false fun e => hlm (by rw [e]))
  go_wp2
  go_ret
  exact ⟨by rw [HX.out]; rfl, Below.refl _ _⟩
end Go.Proofs.YtikmilcdibldhaaDoor
