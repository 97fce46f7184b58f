/- WayMem VadRefC PthRefA DifMem DifRefA -/
import Derived.Test.YtleidkpdpabkpaaGreatDoorAM11
import Derived.Lib.AppendZeros
set_option linter.unusedSimpArgs false
set_option linter.unusedVariables false
set_option maxRecDepth 100000
set_option maxHeartbeats 8000000
namespace Go.Proofs.YtleidkpdpabkpaaGreatDoor
open Go.RowKit
theorem Tryz.cellsSt : (Tryz.prog.info? 52).map (fun i => (i.zero, i.size, i.bytes)) = some (some (.agg #[.string ⟨#[]⟩, .string ⟨#[]⟩]), 2, 32) := by kernel_rfl
theorem szeroN : (Value.agg #[.string ⟨#[]⟩, .string ⟨#[]⟩]).cells.size = 2 := rfl
def stC : List Stp → List Value
 | [] => []
 | s :: l => .string (txt s.1) :: .string (txt s.2) :: stC l
theorem stC_len : ∀ l : List Stp, (stC l).length = l.length * 2
 | [] => rfl
 | s :: l => by simp only [stC, List.length_cons, stC_len l]; omega
theorem stC_at : ∀ (l : List Stp) (j : Nat) (s : Stp), l[j]? = some s → (stC l)[j * 2]? = some (.string (txt s.1)) ∧ (stC l)[j * 2 + 1]? = some (.string (txt s.2))
 | [], j, s, h => by simp at h
 | t :: l, 0, s, h => by simp at h; subst h; exact ⟨rfl, rfl⟩
 | t :: l, j + 1, s, h => by
  have h1 := stC_at l j s (by simpa using h)
  rw [show (j + 1) * 2 = j * 2 + 1 + 1 by omega]
  simpa [stC] using h1
def OwnS (base : Nat) (w : World) (v : Value) (l : List Stp) : Prop := OwnK 52 2 w base v l.length (stC l)
section
variable {w w' : World} {base : Nat} {v : Value} {l : List Stp}
theorem OwnS.nil (w : World) (base : Nat) : OwnS base w (.slice none 0 0) [] := OwnK.nil _ _ _ _
theorem OwnS.below (h : OwnS base w v l) (hb : Below w.heap.size w w') : OwnS base w' v l := OwnK.below h hb
theorem OwnS.mono {b : Nat} (h : OwnS base w v l) (hb : b ≤ base) : OwnS b w v l := OwnK.mono h hb
theorem OwnS.lt (h : OwnS base w v l) : ∀ b, v.ownBlock = some b → base ≤ b ∧ b < w.heap.size := OwnK.lt h
theorem OwnS.shape (h : OwnS base w v l) : ∃ A c, v = .slice A l.length c := OwnK.shape h
theorem OwnS.way (h : OwnS base w v l) : WayV w.heap.size w v l := by
 obtain ⟨d, ⟨h0, A, c, rfl, h1, h2⟩, _⟩ := OwnK.row h
 refine ⟨A, c, rfl, h1, fun hp => ?_⟩
 obtain ⟨hlt, off, rfl, hc⟩ := h2 hp
 refine ⟨d, off, rfl, hlt, fun j s hs => ?_⟩
 obtain ⟨g1, g2⟩ := stC_at l j s hs
 exact ⟨hc _ _ g1, by have := hc _ _ g2; rwa [← Nat.add_assoc] at this⟩
end
theorem OwnS.one {w : World} (s : Stp) {base : Nat} (hb : base ≤ w.heap.size) : OwnS base (w.alloc (.cells #[.string (txt s.1), .string (txt s.2)] 52)) (.slice (some ⟨w.heap.size, 0, none⟩) 1 1) [s] :=
 ⟨rfl, .inr ⟨w.heap.size, 1, #[.string (txt s.1), .string (txt s.2)], rfl, hb, Blk.new w _ _, Nat.le_refl _, by unfold maxLen; omega, rfl, rfl⟩⟩
theorem OwnS.two {w : World} (s t : Stp) {base : Nat} (hb : base ≤ w.heap.size) : OwnS base (w.alloc (.cells #[.string (txt s.1), .string (txt s.2), .string (txt t.1), .string (txt t.2)] 52)) (.slice (some ⟨w.heap.size, 0, none⟩) 2 2) [s, t] :=
 ⟨rfl, .inr ⟨w.heap.size, 2, #[.string (txt s.1), .string (txt s.2), .string (txt t.1), .string (txt t.2)], rfl, hb, Blk.new w _ _, Nat.le_refl _, by unfold maxLen; omega, rfl, rfl⟩⟩
theorem WayV.cells {b : Nat} {w : World} {A : Option Addr} {c : Nat} {l : List Stp} (h : WayV b w (.slice A l.length c) l) (h0 : 0 < l.length) : ∃ ad : Addr, A = some ad ∧ ∀ j u, (stC l)[j]? = some u → w.cell? (ad.add j) = some u := by
 obtain ⟨A', c', e, h1, h2⟩ := h
 injection e with e1 e2 e3
 subst e1 e3
 obtain ⟨g, o, rfl, hg, hc⟩ := h2 h0
 refine ⟨_, rfl, fun j u hu => ?_⟩
 have e1 : (⟨g, o, none⟩ : Addr).add j = ⟨g, o + j, none⟩ := by unfold Addr.add; split <;> simp_all
 rw [e1]
 have hj : j < (stC l).length := (List.getElem?_eq_some_iff.1 hu).1
 rw [stC_len] at hj
 obtain ⟨s, hs⟩ : ∃ s, l[j / 2]? = some s := ⟨_, List.getElem?_eq_getElem (by omega)⟩
 obtain ⟨g1, g2⟩ := stC_at l (j / 2) s hs
 obtain ⟨k1, k2⟩ := hc _ _ hs
 rcases Nat.mod_two_eq_zero_or_one j with h | h
 ·have hj2 : j / 2 * 2 = j := by omega
  rw [hj2] at g1 k1
  rw [hu] at g1
  rw [k1, g1]
 ·have hj2 : j / 2 * 2 + 1 = j := by omega
  rw [hj2] at g2
  rw [hu] at g2
  rw [show o + j = o + j / 2 * 2 + 1 by omega, k2, g2]
theorem stC_app (l m : List Stp) : stC (l ++ m) = stC l ++ stC m := by
 induction l with
 | nil => rfl
 | cons s l ih => simp [stC, ih]
section
attribute [local go_sem] Oper.semAt_some
theorem step_neq10 (s t : Stp) (W : World) : (binOp .neq 52 (.agg #[.string (txt s.1), .string (txt s.2)]) (.agg #[.string (txt t.1), .string (txt t.2)])).run Tryz.prog W = .ok (.bool (!decide (s = t))) W := by
 rw [run_neq_struct, show (10000 : Nat) = 9999 + 1 from rfl, run_equalIn_agg W 9999 52 _ _ (by simp only [Program.fieldsOf, Tryz.underlying52]) (by kernel_rfl)]
 simp only [Program.fieldsOf, Tryz.underlying52]
 simp only [Op.eqFields]
 go_simp
 simp only [txt_toList]
 by_cases h1 : s.1 = t.1
 ·by_cases h2 : s.2 = t.2
  ·have h : s = t := Prod.ext h1 h2
   simp [h]
  ·have h : s ≠ t := fun e => h2 (congrArg Prod.snd e)
   simp [h1, h2, h]
 ·have h : s ≠ t := fun e => h1 (congrArg Prod.fst e)
  simp [h1, h]
theorem rsteps10_any (l m : List Stp) (va vb : Value) (w : World) (ha : WayV w.heap.size w va l) (hb : WayV w.heap.size w vb m) (hl : l.length ≤ 1000000) (hm : m.length ≤ 1000000) :
  Calls Tryz.prog 31 #[va, vb] w (Ans9 (.bool (decide (l = m))) w) := by
 obtain ⟨A, c, rfl⟩ := ha.shape
 obtain ⟨B, d, rfl⟩ := hb.shape
 have HA := hHd ha
 have HB := hHd hb
 clear ha hb
 have l0 : (l.length : Int) ≤ 1000000 := by omega
 have m0 : (m.length : Int) ≤ 1000000 := by omega
 go_enter Tryz.func31, Tryz.ntmps31
 by_cases hlm : l.length = m.length
 ·have e0 : ((l.length : Int) != (m.length : Int)) = false := by unfold bne; rw [beq_iff_eq.2 (by omega : (l.length : Int) = (m.length : Int))]; rfl
  have HLM := hHd hlm
  clear hlm
  go_wp2_with fail
  go_loopw [5] (fun v wr => ∃ j : Nat, j ≤ l.length ∧ v = .int .i64 (j : Int) ∧ Hid (∀ k, k < j → l[k]? = m[k]?) ∧ Hid (Below w.heap.size w wr)) (fun v _ => l.length - (intOf v).toNat)
  case atStart => exact ⟨0, Nat.zero_le _, rfl, hHd (fun k hk => absurd hk (Nat.not_lt_zero _)), hHd (Below.refl _ _)⟩
  case round =>
   obtain ⟨j, hj, rfl, HE, HW⟩ := hrel
   have i1 : (0 : Int) ≤ (j : Int) := by omega
   by_cases hlt : j < l.length
   ·obtain ⟨s, hs⟩ : ∃ s, l[j]? = some s := ⟨_, List.getElem?_eq_getElem hlt⟩
    obtain ⟨t, ht⟩ : ∃ t, m[j]? = some t := ⟨_, List.getElem?_eq_getElem (by have := HLM.out; omega)⟩
    obtain ⟨g, o, rfl, -, h2, h3, h4, h5⟩ := (HA.out.under HW.out (Nat.le_refl _) (Nat.le_refl _)).at hs
    obtain ⟨g', o', rfl, -, k2, k3, k4, k5⟩ := (HB.out.under HW.out (Nat.le_refl _) (Nat.le_refl _)).at ht
    have i2 : (j : Int) < (l.length : Int) := by omega
    have i3 : (j : Int) < (m.length : Int) := by have := HLM.out; omega
    have HS0 : Hid (wr.drew.cell? ⟨g, o + j * 2, none⟩ = some (.string (txt s.1)) ∧ wr.drew.cell? ⟨g, o + j * 2 + 1, none⟩ = some (.string (txt s.2)) ∧ wr.drew.cell? ⟨g', o' + j * 2, none⟩ = some (.string (txt t.1)) ∧ wr.drew.cell? ⟨g', o' + j * 2 + 1, none⟩ = some (.string (txt t.2))) := hHd ⟨h4, h5, k4, k5⟩
    have HST := hHd (And.intro hs ht)
    have HLT := hHd hlt
    have n0 : j < l.length := hlt
    have n1 : j < m.length := by have := HLM.out; omega
    have e1 : ∀ W, (binOp .neq 52 (.agg #[.string (txt s.1), .string (txt s.2)]) (.agg #[.string (txt t.1), .string (txt t.2)])).run Tryz.prog W = .ok (.bool (!decide (s = t))) W := fun W => step_neq10 s t W
    have HWD : Hid (Below w.heap.size w wr.drew) := hHd HW.out.drew
    clear hs ht h4 h5 k4 k5 hlt
    by_cases hst : s = t
    ·have b0 : (!decide (s = t)) = false := by rw [decide_eq_true hst]; rfl
     rw [b0] at e1
     have HEQ := hHd hst
     clear hst b0
     go_wp2_with fail
     refine wp_region_noPanic ?_
     refine wp_region_held_drew (S := fun _ => True) (by kernel_rfl) trivial (fun hS => ?_)
     refine tkH 0 hS ?_
     refine tkH 1 hS ?_
     refine tkH 2 hS ?_
     refine held_more (S' := fun w' => w'.cell? ⟨g, o + j * 2, none⟩ = some (.string (txt s.1)) ∧ w'.cell? ⟨g, o + j * 2 + 1, none⟩ = some (.string (txt s.2)) ∧ w'.cell? ⟨g', o' + j * 2, none⟩ = some (.string (txt t.1)) ∧ w'.cell? ⟨g', o' + j * 2 + 1, none⟩ = some (.string (txt t.2))) (fun _ _ => trivial) _ _ _ _ ?_
     replace hS := HS0.out
     refine tkH 3 hS ?_ (hy := fun w hSw => by have q0 := hSw.1; have q1 := hSw.2.1; (go_simp <;> with_reducible rfl))
     refine tkH 4 hS ?_
     refine tkH 5 hS ?_
     refine tkH 6 hS ?_
     refine tkH 7 hS ?_ (hy := fun w hSw => by have q0 := hSw.2.2.1; have q1 := hSw.2.2.2; (go_simp <;> with_reducible rfl))
     refine tkH 8 hS ?_
     refine wpAnyH_done (by kernel_rfl) ?_ _
     refine NoPanic.normal ?_
     clear hS
     go_wp2
     go_roundw
     case rel => exact ⟨j + 1, HLT.out, by go_num, hHd (fun k hk => by
      by_cases hkj : k < j
      ·exact HE.out k hkj
      ·have e : k = j := by omega
       subst e
       rw [HST.out.1, HST.out.2, HEQ.out]), HWD⟩
     case measure => have := HLT.out; simp [intOf]; omega
    ·have b0 : (!decide (s = t)) = true := by rw [decide_eq_false hst]; rfl
     rw [b0] at e1
     have HX : Hid (decide (l = m) = false) := hHd (decide_eq_false fun e => hst (by have h1 := HST.out.1; have h2 := HST.out.2; rw [e, h2] at h1; injection h1 with h1; exact h1.symm))
     clear hst b0
     go_wp2_with fail
     refine wp_region_noPanic ?_
     refine wp_region_held_drew (S := fun _ => True) (by kernel_rfl) trivial (fun hS => ?_)
     refine tkH 0 hS ?_
     refine tkH 1 hS ?_
     refine tkH 2 hS ?_
     refine held_more (S' := fun w' => w'.cell? ⟨g, o + j * 2, none⟩ = some (.string (txt s.1)) ∧ w'.cell? ⟨g, o + j * 2 + 1, none⟩ = some (.string (txt s.2)) ∧ w'.cell? ⟨g', o' + j * 2, none⟩ = some (.string (txt t.1)) ∧ w'.cell? ⟨g', o' + j * 2 + 1, none⟩ = some (.string (txt t.2))) (fun _ _ => trivial) _ _ _ _ ?_
     replace hS := HS0.out
     refine tkH 3 hS ?_ (hy := fun w hSw => by have q0 := hSw.1; have q1 := hSw.2.1; (go_simp <;> with_reducible rfl))
     refine tkH 4 hS ?_
     refine tkH 5 hS ?_
     refine tkH 6 hS ?_
     refine tkH 7 hS ?_ (hy := fun w hSw => by have q0 := hSw.2.2.1; have q1 := hSw.2.2.2; (go_simp <;> with_reducible rfl))
     refine tkH 8 hS ?_
     refine wpAnyH_done (by kernel_rfl) ?_ _
     refine NoPanic.normal ?_
     clear hS
     go_wp2
     go_ret
     exact ⟨by rw [HX.out]; rfl, HWD.out⟩
   ·have i2 : ¬ (j : Int) < (l.length : Int) := by omega
    have HX : Hid (decide (l = m) = true) := hHd (decide_eq_true (List.ext_getElem? fun k => by
     by_cases hk : k < j
     ·exact HE.out k hk
     ·rw [List.getElem?_eq_none (by omega), List.getElem?_eq_none (by have := HLM.out; omega)]))
    go_wp2
    go_ret
    exact ⟨by rw [HX.out]; rfl, HW.out⟩
 ·have e0 : ((l.length : Int) != (m.length : Int)) = true := by unfold bne; rw [beq_eq_false_iff_ne.2 (by omega : (l.length : Int) ≠ (m.length : Int))]; rfl
  have HX : Hid (decide (l = m) = false) := hHd (decide_eq_false fun e => hlm (by rw [e]))
  go_wp2
  go_ret
  exact ⟨by rw [HX.out]; rfl, Below.refl _ _⟩
end
def wl (r : List UInt8) : Nat := (r.takeWhile nmB).length
theorem wl_le (r : List UInt8) : wl r ≤ r.length := by
 unfold wl
 induction r with
 | nil => exact Nat.le_refl _
 | cons c r ih =>
  rw [List.takeWhile_cons]
  by_cases h : nmB c = true
  ·rw [if_pos h]; simp only [List.length_cons]; omega
  ·rw [if_neg h]; simp
theorem drop_at {s : List UInt8} {j : Nat} {c : UInt8} (h : s[j]? = some c) : s.drop j = c :: s.drop (j + 1) := by
 have hj : j < s.length := (List.getElem?_eq_some_iff.1 h).1
 rw [List.drop_eq_getElem_cons hj]
 rw [List.getElem?_eq_getElem hj] at h
 injection h with h
 rw [h]
theorem wl_in {s : List UInt8} {j : Nat} {c : UInt8} (h : s[j]? = some c) (hn : nmB c = true) : wl (s.drop j) = wl (s.drop (j + 1)) + 1 := by
 rw [drop_at h]
 unfold wl
 rw [List.takeWhile_cons, if_pos hn, List.length_cons]
theorem wl_no {s : List UInt8} {j : Nat} {c : UInt8} (h : s[j]? = some c) (hn : nmB c = false) : wl (s.drop j) = 0 := by
 rw [drop_at h]
 unfold wl
 rw [List.takeWhile_cons, hn]
 rfl
def WordP (s : List UInt8) (k : Nat) (w : World) (r : Ending) (w' : World) : Prop := r = .returned (.int .i64 ((k + wl (s.drop k) : Nat) : Int)) ∧ w = w'
theorem rword_any15 (s : List UInt8) (k : Nat) (hk : k ≤ s.length) (hs : s.length ≤ 9223372036854775807) (w : World) :
  Calls Tryz.prog 63 #[.string (txt s), .int .i64 (k : Int)] w (WordP s k w) := by
 have hsz := txt_size s
 have HP : Hid (∀ j : Nat, j + wl (s.drop j) = k + wl (s.drop k) → wl (s.drop j) = 0 → WordP s k w (.returned (.int .i64 (j : Int))) w) := hHd (fun j h1 h2 => ⟨by rw [← h1, h2, Nat.add_zero], rfl⟩)
 go_enter Tryz.func63, Tryz.ntmps63
 go_wp2
 go_loop [1] (fun i => ∃ j : Nat, j ≤ s.length ∧ i = .int .i64 (j : Int) ∧ Hid (j + wl (s.drop j) = k + wl (s.drop k))) (fun i => s.length - (intOf i).toNat)
 case atStart => exact ⟨k, hk, rfl, hHd rfl⟩
 case round =>
  obtain ⟨j, hj, rfl, HK⟩ := hrel
  by_cases h1 : j < s.length
  ·have d1 : (j : Int) < (s.length : Int) := by omega
   obtain ⟨c, hc⟩ : ∃ c, s[j]? = some c := ⟨_, List.getElem?_eq_getElem h1⟩
   have hin : j < (txt s).size := by rw [hsz]; exact h1
   have hix : (((txt s)[j]'hin).toNat : Int) = (c.toNat : Int) := by rw [txt_get s j h1 hin]; rw [List.getElem?_eq_getElem h1] at hc; injection hc with hc; rw [hc]
   cases hn : nmB c with
   | true =>
    have HK2 : Hid (j + 1 + wl (s.drop (j + 1)) = k + wl (s.drop k)) := hHd (by rw [← HK.out, wl_in hc hn]; omega)
    have hw : (97 ≤ (c.toNat : Int) ∧ (c.toNat : Int) ≤ 122) ∨ ((¬ 97 ≤ (c.toNat : Int) ∨ (97 ≤ (c.toNat : Int) ∧ ¬ (c.toNat : Int) ≤ 122)) ∧ ((48 ≤ (c.toNat : Int) ∧ (c.toNat : Int) ≤ 57) ∨ (¬ 48 ≤ (c.toNat : Int) ∧ ((c.toNat : Int) == 45) = true))) := by
     rcases sm_cases c with ⟨_, g1, g2⟩ | ⟨hb, g⟩
     ·exact .inl ⟨g1, g2⟩
     ·rcases nm_ways c hb with ⟨_, q⟩ | ⟨q, _⟩
      ·exact .inr ⟨g, q⟩
      ·rw [q] at hn; cases hn
    clear hc hn HK HP
    generalize c.toNat = m at hix hw
    rcases hw with ⟨g1, g2⟩ | ⟨g | ⟨g, g'⟩, ⟨q1, q2⟩ | ⟨q1, q2⟩⟩
    all_goals
     go_wp2
     go_round
     case rel => exact ⟨j + 1, by omega, by go_num, HK2⟩
     case measure => simp [intOf]; omega
   | false =>
    have HF : Hid (WordP s k w (.returned (.int .i64 (j : Int))) w) := hHd (HP.out j HK.out (wl_no hc hn))
    have hw : ((¬ 97 ≤ (c.toNat : Int) ∨ (97 ≤ (c.toNat : Int) ∧ ¬ (c.toNat : Int) ≤ 122)) ∧ ((c.toNat : Int) == 45) = false ∧ (¬ 48 ≤ (c.toNat : Int) ∨ (48 ≤ (c.toNat : Int) ∧ ¬ (c.toNat : Int) ≤ 57))) := by
     rcases sm_cases c with ⟨hb, g1, g2⟩ | ⟨hb, g⟩
     ·rw [sm_nm hb] at hn; cases hn
     ·rcases nm_ways c hb with ⟨q, _⟩ | ⟨_, q1, q2⟩
      ·rw [q] at hn; cases hn
      ·exact ⟨g, q1, q2⟩
    clear hc hn HK HP
    generalize c.toNat = m at hix hw
    rcases hw with ⟨g | ⟨g, g'⟩, q0, q | ⟨q, q'⟩⟩
    all_goals
     go_wp2
     go_ret
     exact HF.out
  ·obtain rfl : j = s.length := by omega
   have HF : Hid (WordP s k w (.returned (.int .i64 (s.length : Int))) w) := hHd (HP.out _ HK.out (by rw [List.drop_length]; rfl))
   clear HK HP h1
   go_wp2
   go_ret
   exact HF.out
theorem stepT_len {s : Stp} (h : okS s = true) : (stepT s).length ≤ 27 := by
 unfold okS at h
 simp only [Bool.and_eq_true] at h
 have h1 := ident_len h.1
 unfold stepT
 by_cases hk : identX s.2 = true
 ·have h2 := ident_len hk
  rw [if_pos hk]
  simp only [List.length_cons, List.length_append, List.length_nil]
  omega
 ·rw [if_neg hk]
  simp only [List.length_cons, List.length_append, List.length_nil]
  omega
theorem catT_len {l : List Stp} (h : l.all okS = true) : (catT l).length ≤ 27 * l.length := by
 induction l with
 | nil => exact Nat.le_refl _
 | cons s l ih =>
  simp only [List.all_cons, Bool.and_eq_true] at h
  have h1 := stepT_len h.1
  have h2 := ih h.2
  simp only [catT, List.length_append, List.length_cons]
  omega
theorem take_snoc15 {l : List Stp} {j : Nat} {s : Stp} (h : l[j]? = some s) : l.take (j + 1) = l.take j ++ [s] := by
 have hj : j < l.length := (List.getElem?_eq_some_iff.1 h).1
 rw [List.take_succ_eq_append_getElem hj]
 rw [List.getElem?_eq_getElem hj] at h
 injection h with h
 rw [h]
theorem catT_snoc (l : List Stp) (s : Stp) : catT (l ++ [s]) = catT l ++ stepT s := by rw [catT_app]; simp [catT]
def ShL (l : List Stp) (j : Nat) (t : List UInt8) : Prop := t = catT (l.take j) ∧ (l.take j).all okS = true ∧ t.length ≤ 27 * j
theorem ShL.zero (l : List Stp) : ShL l 0 [] := ⟨rfl, rfl, Nat.le_refl _⟩
theorem ShL.step {l : List Stp} {j : Nat} {t : List UInt8} {s : Stp} (h : ShL l j t) (hs : l[j]? = some s) (ho : okS s = true) : ShL l (j + 1) (t ++ stepT s) := by
 obtain ⟨h1, h2, h3⟩ := h
 have h4 := stepT_len ho
 refine ⟨by rw [take_snoc15 hs, catT_snoc, h1], by rw [take_snoc15 hs]; simp [h2, ho], by rw [List.length_append]; omega⟩
theorem ShL.end_ {l : List Stp} {t : List UInt8} (h : ShL l l.length t) : (l = [] ∧ t = [] ∧ showX l = [47]) ∨ (t ≠ [] ∧ 6 < l.length ∧ showX l = []) ∨ (t ≠ [] ∧ l.length ≤ 6 ∧ showX l = t) := by
 obtain ⟨h1, h2, h3⟩ := h
 rw [List.take_length] at h1 h2
 by_cases h0 : l = []
 ·subst h0; exact .inl ⟨rfl, h1, rfl⟩
 have ht : t ≠ [] := fun e => h0 (catT_nil (by rw [← h1, e]))
 by_cases h6 : 6 < l.length
 ·exact .inr (.inl ⟨ht, h6, by unfold showX; rw [if_pos h2, if_neg h0, if_pos h6]⟩)
 ·exact .inr (.inr ⟨ht, by omega, by unfold showX; rw [if_pos h2, if_neg h0, if_neg h6, h1]⟩)
theorem stepT_key {n k : List UInt8} (h : identX k = true) : stepT (n, k) = 47 :: n ++ (91 :: k ++ [93]) := by unfold stepT; simp [h]
theorem stepT_no {n k : List UInt8} (h : identX k = false) : stepT (n, k) = 47 :: n := by unfold stepT; simp [h]
def ShowP (l : List Stp) (w : World) (r : Ending) (w' : World) : Prop := r = .returned (.string (txt (showX l))) ∧ Below w.heap.size w w'
theorem rshow15_any (l : List Stp) (v : Value) (w : World) (hv : WayV w.heap.size w v l) (hl : l.length ≤ 1000000) (hs : ∀ s ∈ l, s.1.length ≤ 9223372036854775807 ∧ s.2.length ≤ 9223372036854775807) :
  Calls Tryz.prog 25 #[v] w (ShowP l w) := by
 obtain ⟨A, c, rfl⟩ := hv.shape
 have HA := hHd hv
 have HLS := hHd hs
 have HR : Hid (∀ t, showX l = t → ShowP l w (.returned (.string (txt t))) w) := hHd (fun t h => ⟨by rw [h], Below.refl _ _⟩)
 clear hv hs
 have l0 : (l.length : Int) ≤ 1000000 := by omega
 go_enter Tryz.func25, Tryz.ntmps25
 go_wp2_with fail
 go_loop [3, 4, 5, 6] (fun v i _ _ => ∃ (j : Nat) (t : List UInt8), j ≤ l.length ∧ i = .int .i64 (j : Int) ∧ v = .string (txt t) ∧ Hid (ShL l j t)) (fun _ i _ _ => l.length - (intOf i).toNat)
 case atStart => exact ⟨0, [], Nat.zero_le _, rfl, rfl, hHd (ShL.zero l)⟩
 case round =>
  obtain ⟨j, t, hj, rfl, rfl, HT⟩ := hrel
  have i1 : (0 : Int) ≤ (j : Int) := by omega
  by_cases hlt : j < l.length
  ·have i2 : (j : Int) < (l.length : Int) := by omega
   obtain ⟨⟨n, k⟩, hs⟩ : ∃ s, l[j]? = some s := ⟨_, List.getElem?_eq_getElem hlt⟩
   obtain ⟨g, o, rfl, -, -, -, q0, q1⟩ := HA.out.at hs
   have hmem : (n, k) ∈ l := List.mem_of_getElem? hs
   have c1 := hHd (rident_any n (HLS.out _ hmem).1 w)
   have c2 := hHd (rident_any k (HLS.out _ hmem).2 w)
   have tk : (txt k).toList = k := txt_toList k
   have HM := hHd hs
   have n1 : j < l.length := hlt
   cases hn : identX n with
   | false =>
    have HF : Hid (showX l = []) := hHd (show_bad hmem (by unfold okS; simp [hn]))
    have HN := hHd hn
    clear hn hs hmem HT
    go_wp2_with fail
    refine c1.out.mono ?_
    rintro e w1 ⟨rfl, rfl⟩
    rw [HN.out]
    go_wp2_with fail
    refine c2.out.mono ?_
    rintro e w1 ⟨rfl, rfl⟩
    generalize identX k = bk
    clear c1 c2
    go_wp2
    go_ret
    exact HR.out [] HF.out
   | true =>
    have HN := hHd hn
    cases hk : identX k with
    | false =>
     have HK := hHd hk
     by_cases h0 : k = []
     ·subst h0
      have e0 : txt [] = (⟨#[]⟩ : ByteArray) := rfl
      have HT2 : Hid (ShL l (j + 1) (t ++ (47 :: n))) := hHd (by have h := HT.out.step hs (by unfold okS; simp [hn]); rwa [stepT_no hk] at h)
      have ht := HT.out.2.2
      have hnl := ident_len hn
      have sz1 : (txt t).size ≤ 27000000 := by rw [txt_size]; omega
      have sz2 : (txt n).size ≤ 12 := by rw [txt_size]; omega
      have cat : txt t ++ (⟨#[47]⟩ ++ txt n) = txt (t ++ (47 :: n)) := by
       rw [show (⟨#[47]⟩ : ByteArray) = txt [47] from rfl, txt_catS, txt_catS]; rfl
      clear hn hk hs hmem ht hnl
      go_wp2_with fail
      refine c1.out.mono ?_
      rintro e w1 ⟨rfl, rfl⟩
      rw [HN.out]
      go_wp2_with fail
      refine c2.out.mono ?_
      rintro e w1 ⟨rfl, rfl⟩
      rw [HK.out]
      clear c1 c2
      go_wp2
      go_round
      case rel => exact ⟨j + 1, _, by omega, by go_num, rfl, HT2⟩
      case measure => simp [intOf]; omega
     ·have HF : Hid (showX l = []) := hHd (show_bad hmem (by unfold okS; simp [hk, h0]))
      have g1 : k.isEmpty = false := by simpa using h0
      have g2 : (k == []) = false := beq_eq_false_iff_ne.2 h0
      have g3 : (!k.isEmpty) = true := by rw [g1]; rfl
      have g4 : (k != []) = true := by unfold bne; rw [g2]; rfl
      clear hn hk hs hmem HT h0
      go_wp2_with fail
      refine c1.out.mono ?_
      rintro e w1 ⟨rfl, rfl⟩
      rw [HN.out]
      go_wp2_with fail
      refine c2.out.mono ?_
      rintro e w1 ⟨rfl, rfl⟩
      rw [HK.out]
      clear c1 c2
      go_wp2
      go_ret
      exact HR.out [] HF.out
    | true =>
     have HK := hHd hk
     have HT2 : Hid (ShL l (j + 1) (t ++ (47 :: n ++ (91 :: k ++ [93])))) := hHd (by have h := HT.out.step hs (by unfold okS; simp [hn, hk]); rwa [stepT_key hk] at h)
     have ht := HT.out.2.2
     have hnl := ident_len hn
     have hkl := ident_len hk
     have sz1 : (txt t).size ≤ 27000000 := by rw [txt_size]; omega
     have sz2 : (txt n).size ≤ 12 := by rw [txt_size]; omega
     have sz3 : (txt k).size ≤ 12 := by rw [txt_size]; omega
     have cat : txt t ++ (⟨#[47]⟩ ++ txt n) ++ (⟨#[91]⟩ ++ txt k ++ ⟨#[93]⟩) = txt (t ++ (47 :: n ++ (91 :: k ++ [93]))) := by
      rw [show (⟨#[47]⟩ : ByteArray) = txt [47] from rfl, show (⟨#[91]⟩ : ByteArray) = txt [91] from rfl, show (⟨#[93]⟩ : ByteArray) = txt [93] from rfl, txt_catS, txt_catS, txt_catS, txt_catS, txt_catS]
      congr 1
      simp
     have g1 : k.isEmpty = false := by simpa using ident_ne15 hk
     clear hn hk hs hmem ht hnl hkl
     go_wp2_with fail
     refine c1.out.mono ?_
     rintro e w1 ⟨rfl, rfl⟩
     rw [HN.out]
     go_wp2_with fail
     refine c2.out.mono ?_
     rintro e w1 ⟨rfl, rfl⟩
     rw [HK.out]
     clear c1 c2
     go_wp2
     go_round
     case rel => exact ⟨j + 1, _, by omega, by go_num, rfl, HT2⟩
     case measure => simp [intOf]; omega
  ·obtain rfl : j = l.length := by omega
   have i2 : ¬ (l.length : Int) < (l.length : Int) := by omega
   have tt : (txt t).toList = t := txt_toList t
   rcases HT.out.end_ with ⟨h1, rfl, h3⟩ | ⟨h1, h2, h3⟩ | ⟨h1, h2, h3⟩
   ·have e0 : txt [] = (⟨#[]⟩ : ByteArray) := rfl
    have HF := hHd h3
    clear HT h3 hlt h1
    go_wp2
    go_ret
    exact HR.out [47] HF.out
   ·have HF := hHd h3
    have g1 : t.isEmpty = false := by simpa using h1
    have g2 : (t == []) = false := beq_eq_false_iff_ne.2 h1
    have i6 : (6 : Int) < (l.length : Int) := by omega
    clear HT h3 hlt h1 h2
    go_wp2
    go_ret
    exact HR.out [] HF.out
   ·have HF := hHd h3
    have g1 : t.isEmpty = false := by simpa using h1
    have g2 : (t == []) = false := beq_eq_false_iff_ne.2 h1
    have i6 : ¬ (6 : Int) < (l.length : Int) := by omega
    clear HT h3 hlt h1 h2
    go_wp2
    go_ret
    exact HR.out t HF.out
theorem Tryz.cellsEd : (Tryz.prog.info? 55).map (fun i => (i.zero, i.size, i.bytes)) = some (some (.agg #[.int .i64 0, .slice none 0 0, .string ⟨#[]⟩, .string ⟨#[]⟩, .int .i64 0, .int .u64 0, .string ⟨#[]⟩, .slice none 0 0, .string ⟨#[]⟩, .string ⟨#[]⟩, .int .i64 0, .int .u64 0, .string ⟨#[]⟩, .slice none 0 0]), 14, 208) := by kernel_rfl
theorem ezeroN : (Value.agg #[.int .i64 0, .slice none 0 0, .string ⟨#[]⟩, .string ⟨#[]⟩, .int .i64 0, .int .u64 0, .string ⟨#[]⟩, .slice none 0 0, .string ⟨#[]⟩, .string ⟨#[]⟩, .int .i64 0, .int .u64 0, .string ⟨#[]⟩, .slice none 0 0]).cells.size = 14 := rfl
def WayS (S : Nat → Prop) (w : World) (v : Value) (l : List Stp) : Prop := ∃ A c, v = .slice A l.length c ∧ l.length ≤ c ∧ (0 < l.length → ∃ g o, A = some ⟨g, o, none⟩ ∧ S g ∧
 ∀ j s, l[j]? = some s → w.cell? ⟨g, o + j * 2, none⟩ = some (.string (txt s.1)) ∧ w.cell? ⟨g, o + j * 2 + 1, none⟩ = some (.string (txt s.2)))
theorem WayS.keep {S S' : Nat → Prop} {w w' : World} {v : Value} {l : List Stp} (h : WayS S w v l) (hk : ∀ g, S g → w'.heap[g]? = w.heap[g]?) (hS : ∀ g, S g → S' g) : WayS S' w' v l := by
 obtain ⟨A, c, rfl, h1, h2⟩ := h
 refine ⟨A, c, rfl, h1, fun h0 => ?_⟩
 obtain ⟨g, o, rfl, h3, h4⟩ := h2 h0
 exact ⟨g, o, rfl, hS g h3, fun j s hs => ⟨(World.cell?_of_block (w := w) (a := ⟨g, o + j * 2, none⟩) (hk g h3)).trans (h4 j s hs).1, (World.cell?_of_block (w := w) (a := ⟨g, o + j * 2 + 1, none⟩) (hk g h3)).trans (h4 j s hs).2⟩⟩
theorem WayS.v {b : Nat} {w : World} {v : Value} {l : List Stp} (h : WayS (fun g => g < b) w v l) : WayV b w v l := h
theorem WayV.s {b : Nat} {w : World} {v : Value} {l : List Stp} (h : WayV b w v l) : WayS (fun g => g < b) w v l := h
theorem WayS.shape {S : Nat → Prop} {w : World} {v : Value} {l : List Stp} (h : WayS S w v l) : ∃ A c, v = .slice A l.length c := by
 obtain ⟨A, c, e, _⟩ := h; exact ⟨A, c, e⟩
theorem WayS.nil (S : Nat → Prop) (w : World) : WayS S w (.slice none 0 0) [] := ⟨none, 0, rfl, Nat.le_refl _, fun h => absurd h (by simp)⟩
abbrev RowS (S : Nat → Prop) (w : World) (v : Value) (f : NdF) : Prop := FrV NdT 6 5 w S noB v f
theorem RowS.keep {S S' : Nat → Prop} {w w' : World} {v : Value} {f : NdF} (h : RowS S w v f) (hk : ∀ g, S g → w'.heap[g]? = w.heap[g]?) (hS : ∀ g, S g → S' g) : RowS S' w' v f :=
 FrV.kept stay_nd h hk hS (fun _ h => h.elim) (fun _ h => h)
abbrev edC (k : Int) (wv : Value) (n : NdD) (nv : Value) (o : NdD) (ov : Value) : List Value := [.int .i64 k, wv, .string (txt n.name), .string (txt n.key), .int .i64 n.kind, .int .u64 (n.num : Int), .string (txt n.text), nv, .string (txt o.name), .string (txt o.key), .int .i64 o.kind, .int .u64 (o.num : Int), .string (txt o.text), ov]
def EdS (S : Nat → Prop) (w : World) (cs : List Value) (e : EdD) : Prop := ∃ wv nv ov, cs = edC e.kind wv e.node.1 nv e.old.1 ov ∧ WayS S w wv e.way ∧ RowS S w nv e.node.2 ∧ RowS S w ov e.old.2
theorem EdS.keep {S S' : Nat → Prop} {w w' : World} {cs : List Value} {e : EdD} (h : EdS S w cs e) (hk : ∀ g, S g → w'.heap[g]? = w.heap[g]?) (hS : ∀ g, S g → S' g) : EdS S' w' cs e := by
 obtain ⟨wv, nv, ov, rfl, h1, h2, h3⟩ := h
 exact ⟨wv, nv, ov, rfl, h1.keep hk hS, RowS.keep h2 hk hS, RowS.keep h3 hk hS⟩
theorem EdS.len {S : Nat → Prop} {w : World} {cs : List Value} {e : EdD} (h : EdS S w cs e) : cs.length = 14 := by
 obtain ⟨_, _, _, rfl, _⟩ := h; rfl
theorem EdS.one {S : Nat → Prop} {w : World} {cs : List Value} {e : EdD} (h : EdS S w cs e) : ∀ u ∈ cs, u.oneCell' = true := by
 obtain ⟨wv, nv, ov, rfl, h1, h2, h3⟩ := h
 obtain ⟨_, _, rfl⟩ := h1.shape
 obtain ⟨_, _, rfl⟩ := h2.shape
 obtain ⟨_, _, rfl⟩ := h3.shape
 intro u hu
 simp only [List.mem_cons, List.not_mem_nil, or_false] at hu
 rcases hu with rfl | rfl | rfl | rfl | rfl | rfl | rfl | rfl | rfl | rfl | rfl | rfl | rfl | rfl <;> rfl
theorem EdS.shape {S : Nat → Prop} {w : World} {cs : List Value} {e : EdD} (h : EdS S w cs e) : ∃ Aw cw An cn Ao co, cs = edC e.kind (.slice Aw e.way.length cw) e.node.1 (.slice An e.node.2.len cn) e.old.1 (.slice Ao e.old.2.len co) ∧ WayS S w (.slice Aw e.way.length cw) e.way ∧ RowS S w (.slice An e.node.2.len cn) e.node.2 ∧ RowS S w (.slice Ao e.old.2.len co) e.old.2 := by
 obtain ⟨wv, nv, ov, rfl, h1, h2, h3⟩ := h
 obtain ⟨Aw, cw, rfl⟩ := h1.shape
 obtain ⟨An, cn, rfl⟩ := h2.shape
 obtain ⟨Ao, co, rfl⟩ := h3.shape
 exact ⟨_, _, _, _, _, _, rfl, h1, h2, h3⟩
def rowE (S : Nat → Prop) (w : World) : List Value → List EdD → Prop
 | xs, [] => xs = []
 | xs, e :: l => ∃ cs ys, xs = cs ++ ys ∧ EdS S w cs e ∧ rowE S w ys l
theorem rowE.keep {S S' : Nat → Prop} {w w' : World} : ∀ {l : List EdD} {xs : List Value}, rowE S w xs l → (∀ g, S g → w'.heap[g]? = w.heap[g]?) → (∀ g, S g → S' g) → rowE S' w' xs l := by
 intro l
 induction l with
 | nil => intro xs h _ _; exact h
 | cons e l ih => intro xs ⟨cs, ys, h1, h2, h3⟩ hk hS; exact ⟨cs, ys, h1, h2.keep hk hS, ih h3 hk hS⟩
theorem rowE.len {S : Nat → Prop} {w : World} : ∀ {l : List EdD} {xs : List Value}, rowE S w xs l → xs.length = l.length * 14 := by
 intro l
 induction l with
 | nil => intro xs h; rw [show xs = [] from h]; rfl
 | cons e l ih => intro xs ⟨cs, ys, h1, h2, h3⟩; rw [h1, List.length_append, h2.len, ih h3, List.length_cons]; omega
theorem rowE.one {S : Nat → Prop} {w : World} : ∀ {l : List EdD} {xs : List Value}, rowE S w xs l → ∀ u ∈ xs, u.oneCell' = true := by
 intro l
 induction l with
 | nil => intro xs h u hu; rw [show xs = [] from h] at hu; cases hu
 | cons e l ih =>
  intro xs ⟨cs, ys, h1, h2, h3⟩ u hu
  rw [h1] at hu
  rcases List.mem_append.1 hu with hu | hu
  ·exact h2.one u hu
  ·exact ih h3 u hu
theorem rowE.app {S : Nat → Prop} {w : World} {m : List EdD} {ys : List Value} (h2 : rowE S w ys m) : ∀ {l : List EdD} {xs : List Value}, rowE S w xs l → rowE S w (xs ++ ys) (l ++ m) := by
 intro l
 induction l with
 | nil => intro xs h; rw [show xs = [] from h]; exact h2
 | cons e l ih => intro xs ⟨cs, zs, h1, h3, h4⟩; exact ⟨cs, zs ++ ys, by rw [h1, List.append_assoc], h3, ih h4⟩
theorem rowE.one_ {S : Nat → Prop} {w : World} {cs : List Value} {e : EdD} (h : EdS S w cs e) : rowE S w cs [e] := ⟨cs, [], by simp, h, rfl⟩
theorem rowE.at {S : Nat → Prop} {w : World} : ∀ {l : List EdD} {xs : List Value} {j : Nat} {e : EdD}, rowE S w xs l → l[j]? = some e → ∃ cs, EdS S w cs e ∧ ∀ i u, cs[i]? = some u → xs[j * 14 + i]? = some u := by
 intro l
 induction l with
 | nil => intro xs j e _ h; simp at h
 | cons d l ih =>
  intro xs j e ⟨cs, ys, h1, h2, h3⟩ h
  subst h1
  cases j with
  | zero =>
   simp at h
   subst h
   refine ⟨cs, h2, fun i u hu => ?_⟩
   rw [Nat.zero_mul, Nat.zero_add, List.getElem?_append_left (List.getElem?_eq_some_iff.1 hu).1]
   exact hu
  | succ j =>
   obtain ⟨zs, g1, g2⟩ := ih h3 (by simpa using h)
   refine ⟨zs, g1, fun i u hu => ?_⟩
   rw [List.getElem?_append_right (by rw [h2.len]; omega), h2.len, show (j + 1) * 14 + i - 14 = j * 14 + i by omega]
   exact g2 i u hu
def EdsV (S : Nat → Prop) (w : World) (v : Value) (l : List EdD) : Prop := ∃ A c, v = .slice A l.length c ∧ l.length ≤ c ∧ (0 < l.length → ∃ g o xs, A = some ⟨g, o, none⟩ ∧ S g ∧ rowE S w xs l ∧ ∀ j u, xs[j]? = some u → w.cell? ⟨g, o + j, none⟩ = some u)
theorem EdsV.keep {S S' : Nat → Prop} {w w' : World} {v : Value} {l : List EdD} (h : EdsV S w v l) (hk : ∀ g, S g → w'.heap[g]? = w.heap[g]?) (hS : ∀ g, S g → S' g) : EdsV S' w' v l := by
 obtain ⟨A, c, rfl, h1, h2⟩ := h
 refine ⟨A, c, rfl, h1, fun h0 => ?_⟩
 obtain ⟨g, o, xs, rfl, h3, h4, h5⟩ := h2 h0
 exact ⟨g, o, xs, rfl, hS g h3, h4.keep hk hS, fun j u hu => (World.cell?_of_block (w := w) (a := ⟨g, o + j, none⟩) (hk g h3)).trans (h5 j u hu)⟩
theorem EdsV.shape {S : Nat → Prop} {w : World} {v : Value} {l : List EdD} (h : EdsV S w v l) : ∃ A c, v = .slice A l.length c := by
 obtain ⟨A, c, e, _⟩ := h; exact ⟨A, c, e⟩
theorem EdsV.nil (S : Nat → Prop) (w : World) : EdsV S w (.slice none 0 0) [] := ⟨none, 0, rfl, Nat.le_refl _, fun h => absurd h (by simp)⟩
theorem EdsV.at {S : Nat → Prop} {w : World} {A : Option Addr} {n c : Nat} {l : List EdD} (h : EdsV S w (.slice A n c) l) {j : Nat} {e : EdD} (hj : l[j]? = some e) :
  ∃ g o Aw cw An cn Ao co, A = some ⟨g, o, none⟩ ∧ n = l.length ∧ n ≤ c ∧ S g ∧ WayS S w (.slice Aw e.way.length cw) e.way ∧ RowS S w (.slice An e.node.2.len cn) e.node.2 ∧ RowS S w (.slice Ao e.old.2.len co) e.old.2 ∧
   ∀ i u, (edC e.kind (.slice Aw e.way.length cw) e.node.1 (.slice An e.node.2.len cn) e.old.1 (.slice Ao e.old.2.len co))[i]? = some u → w.cell? ⟨g, o + j * 14 + i, none⟩ = some u := by
 obtain ⟨A', c', e', h1, h2⟩ := h
 injection e' with e1 e2 e3
 subst e1 e2 e3
 have hlt := (List.getElem?_eq_some_iff.1 hj).1
 obtain ⟨g, o, xs, rfl, h3, h4, h5⟩ := h2 (by omega)
 obtain ⟨cs, k1, k2⟩ := h4.at hj
 obtain ⟨Aw, cw, An, cn, Ao, co, rfl, k3, k4, k5⟩ := k1.shape
 refine ⟨g, o, Aw, cw, An, cn, Ao, co, rfl, rfl, h1, h3, k3, k4, k5, fun i u hu => ?_⟩
 rw [Nat.add_assoc]
 exact h5 _ _ (k2 i u hu)
def OwnE (base : Nat) (S : Nat → Prop) (w : World) (v : Value) (l : List EdD) : Prop := (∀ g, S g → g < w.heap.size ∧ some g ≠ v.ownBlock) ∧ ∃ xs, OwnK 55 14 w base v l.length xs ∧ rowE S w xs l
section
variable {base : Nat} {S S' : Nat → Prop} {w w' : World} {v v' : Value} {l m : List EdD}
theorem OwnE.nil (w : World) (base : Nat) (hS : ∀ g, S g → g < w.heap.size) : OwnE base S w (.slice none 0 0) [] := ⟨fun g h => ⟨hS g h, by intro h; cases h⟩, [], OwnK.nil _ _ _ _, rfl⟩
theorem OwnE.below (h : OwnE base S w v l) (hb : Below w.heap.size w w') : OwnE base S w' v l := by
 obtain ⟨hS, xs, h1, h2⟩ := h
 exact ⟨fun g hg => ⟨Nat.lt_of_lt_of_le (hS g hg).1 hb.size, (hS g hg).2⟩, xs, h1.below hb, h2.keep (fun g hg => hb.block g (hS g hg).1) (fun _ h => h)⟩
theorem OwnE.widen (h : OwnE base S w v l) (hS : ∀ g, S g → S' g) (hS2 : ∀ g, S' g → g < w.heap.size ∧ some g ≠ v.ownBlock) : OwnE base S' w v l := by
 obtain ⟨_, xs, h1, h2⟩ := h
 exact ⟨hS2, xs, h1, h2.keep (fun _ _ => rfl) hS⟩
theorem OwnE.lt (h : OwnE base S w v l) : ∀ k, v.ownBlock = some k → base ≤ k ∧ k < w.heap.size := by
 obtain ⟨_, xs, h1, _⟩ := h
 exact h1.lt
theorem OwnE.shape (h : OwnE base S w v l) : ∃ A c, v = .slice A l.length c := by
 obtain ⟨_, xs, h1, _⟩ := h
 exact h1.shape
theorem OwnE.eds (h : OwnE base S w v l) : EdsV (fun g => S g ∨ v.ownBlock = some g) w v l := by
 obtain ⟨hS, xs, h1, h2⟩ := h
 have h2' : rowE (fun g => S g ∨ v.ownBlock = some g) w xs l := h2.keep (fun _ _ => rfl) (fun g hg => .inl hg)
 have hh := h1
 rcases h1.2 with ⟨rfl, h0⟩ | ⟨g, cap, cur, rfl, hb, hg, hnc, hcm, hcs, ht⟩
 ·exact ⟨none, 0, by rw [h0], by omega, fun h => absurd h (by omega)⟩
 ·refine ⟨_, cap, rfl, hnc, fun h0 => ⟨g, 0, xs, rfl, .inr rfl, h2', fun j u hj => ?_⟩⟩
  have hjl : j < xs.length := (List.getElem?_eq_some_iff.1 hj).1
  have hxl : xs.length = l.length * 14 := h1.1
  rw [World.ownsRow.cellAt hh (0 + j) (by omega), Nat.zero_add, hj]
theorem OwnE.app {xs ys : List Value} (hown : OwnE base S w v l) (hxr : rowE S w xs l) (h1 : OwnK 55 14 w' base v' (l ++ m).length (xs ++ ys)) (h2 : w.grownBy w' v.ownBlock) (h3 : v'.ownBlock = v.ownBlock ∨ v'.ownBlock = some w.heap.size) (hy : rowE S w ys m) : OwnE base S w' v' (l ++ m) := by
 obtain ⟨hS, _⟩ := hown
 have sep : ∀ k, k < w.heap.size → some k ≠ v.ownBlock → some k ≠ v'.ownBlock := by
  intro k hk hne
  rcases h3 with h | h
  ·rw [h]; exact hne
  ·rw [h]; intro h'; injection h' with h'; omega
 exact ⟨fun k hk => ⟨Nat.lt_of_lt_of_le (hS k hk).1 h2.size, sep k (hS k hk).1 (hS k hk).2⟩, xs ++ ys, h1, (rowE.app hy hxr).keep (fun k hk => h2.block k (hS k hk).1 (hS k hk).2) (fun _ h => h)⟩
end
def AppE (base : Nat) (S : Nat → Prop) (w : World) (v : Value) (l : List EdD) (v' : Value) (w' : World) : Prop := OwnE base S w' v' l ∧ w.grownBy w' v.ownBlock ∧ ∃ A c, v' = .slice A l.length c
theorem AppE.below {base : Nat} {S : Nat → Prop} {w w' : World} {v v' : Value} {l m : List EdD} (h : AppE base S w v m v' w') (hown : OwnE base S w v l) (hb : base ≤ w.heap.size) : Below base w w' :=
 ⟨h.2.1.os, h.2.1.tape, h.2.1.output, h.2.1.size, fun i hi => h.2.1.block i (Nat.lt_of_lt_of_le hi hb) (fun e => by have := (hown.lt i e.symm).1; omega)⟩
theorem wp_append_e {w : World} {o : Oper} {a : Act} {K : Act → World → Prop} {Q : Exit → Act → World → Prop} (s x : Operand) (ho : o.op = .call { callee := .builtin .append, args := #[s, x], argTypes := #[22, 22] }) (hty : o.type = 22)
  {base : Nat} {S : Nat → Prop} {v : Value} {l : List EdD} (hs : a.eval s = v) (hown : OwnE base S w v l) {g : Nat} (hx : a.eval x = .slice (some ⟨g, 0, none⟩) 1 1) {ys : List Value} {e : EdD} (hblk : Blk w g 55 ys.toArray) (hy : EdS S w ys e)
  (hlen : l.length ≤ 100000000) (hbase : base ≤ w.heap.size) (hK : ∀ v' w', AppE base S w v (l ++ [e]) v' w' → K (a.put o.dst v') w') : o.wp Tryz.prog a w K Q := by
 have hown' := hown
 obtain ⟨hS, xs, h1, h2⟩ := hown'
 refine wp_append_k (P := Tryz.prog) Tryz.underlying22 Tryz.cellsEd ezeroN (by omega) s x ho hty base v l.length xs hs h1 g hx ys hblk hy.len hy.one (by omega) (by omega) hbase fun v' w' hap => ?_
 have hw : OwnE base S w' v' (l ++ [e]) := hown.app h2 (by rw [List.length_append]; exact hap.1) hap.2.1 hap.2.2.1 (rowE.one_ hy)
 exact hK v' w' ⟨hw, hap.2.1, hw.shape⟩
theorem wpList_append_e {w : World} {ops : Array Oper} {rest : List Oper} {o : Oper} {a : Act} {Q : Exit → Act → World → Prop} (hgd : o.guard = none) (s x : Operand) (ho : o.op = .call { callee := .builtin .append, args := #[s, x], argTypes := #[22, 22] }) (hty : o.type = 22)
  {base : Nat} {S : Nat → Prop} {v : Value} {l : List EdD} (hs : a.eval s = v) (hown : OwnE base S w v l) {g : Nat} (hx : a.eval x = .slice (some ⟨g, 0, none⟩) 1 1) {ys : List Value} {e : EdD} (hblk : Blk w g 55 ys.toArray) (hy : EdS S w ys e)
  (hlen : l.length ≤ 100000000) (hbase : base ≤ w.heap.size) (hK : ∀ v' w', AppE base S w v (l ++ [e]) v' w' → wpList Tryz.prog ops Q rest (a.put o.dst v') w') : wpList Tryz.prog ops Q (o :: rest) a w :=
 wpList_plain hgd fun _ hK' => wp_append_e s x ho hty hs hown hx hblk hy hlen hbase fun v' w' hp => hK' _ _ (hK v' w' hp)
section
attribute [local go_sem] Oper.semAt_some
abbrev Bel (w : World) : Nat → Prop := fun g => g < w.heap.size
theorem EdsV.below {w w' : World} {v : Value} {l : List EdD} (h : EdsV (Bel w) w v l) (hb : Below w.heap.size w w') : EdsV (Bel w') w' v l := h.keep (fun g hg => hb.block g hg) (fun g hg => Nat.lt_of_lt_of_le hg hb.size)
def FewE (l : List EdD) : Prop := l.length ≤ 1000000 ∧ ∀ e ∈ l, e.way.length ≤ 1000000 ∧ Few9 e.node ∧ Few9 e.old
theorem take_snocE {l : List EdD} {j : Nat} {e : EdD} (h : l[j]? = some e) : l.take (j + 1) = l.take j ++ [e] := by
 have hj : j < l.length := (List.getElem?_eq_some_iff.1 h).1
 rw [List.take_succ_eq_append_getElem hj]
 rw [List.getElem?_eq_getElem hj] at h
 injection h with h
 rw [h]
end
end Go.Proofs.YtleidkpdpabkpaaGreatDoor
