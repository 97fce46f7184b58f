/- What ValidClasses stands on: VadRefC, VadFst, StvIdt. -/
import Derived.Test.YtljjaikejfoanaaGreatXM0
import Derived.Test.YtljjaikejfoanaaGreatXM14
import Derived.RangeFuncBox
import Derived.Shelf.Abstract
import Derived.Shelf.RegionOpen
import Derived.OwnWalkIn
import Derived.TacticsInMore
import Derived.LoopNIn
import Derived.LoopIn
import Derived.Test.YtljjaikejfoanaaGreatXM2
set_option linter.unusedSimpArgs false
set_option linter.unusedVariables false
namespace Go.Proofs.YtljjaikejfoanaaGreat
open Go.RowKit
attribute [local go_sem] Oper.semAt_some
theorem step_neq10 (s t : Stp) (W : World) : (binOp .neq 45 (.agg #[.string (txt s.1), .string (txt s.2)]) (.agg #[.string (txt t.1), .string (txt t.2)])).run Tryz.prog W = .ok (.bool (!decide (s = t))) W := by
 rw [run_neq_struct, show (10000 : Nat) = 9999 + 1 from rfl, run_equalIn_agg W 9999 45 _ _ (by simp only [Program.fieldsOf, Tryz.underlying45]) (by kernel_rfl)]
 simp only [Program.fieldsOf, Tryz.underlying45]
 simp only [Op.eqFields]
 go_simp
 simp only [txt_toList]
 by_cases h1 : s.1 = t.1
 ·by_cases h2 : s.2 = t.2
  ·have h : s = t := Prod.ext h1 h2
   simp [h]
  ·have h : s ≠ t := fun e => h2 (congrArg Prod.snd e)
   simp [h1, h2, h]
 ·have h : s ≠ t := fun e => h1 (congrArg Prod.fst e)
  simp [h1, h]
set_option maxRecDepth 100000 in
set_option maxHeartbeats 4000000 in
theorem rsteps10_any (l m : List Stp) (va vb : Value) (w : World) (ha : WayV w.heap.size w va l) (hb : WayV w.heap.size w vb m) (hl : l.length ≤ 1000000) (hm : m.length ≤ 1000000) :
  Calls Tryz.prog 12 #[va, vb] w (Ans9 (.bool (decide (l = m))) w) := by
 obtain ⟨A, c, rfl⟩ := ha.shape
 obtain ⟨B, d, rfl⟩ := hb.shape
 have HA := Lib.hid ha
 have HB := Lib.hid hb
 clear ha hb
 have l0 : (l.length : Int) ≤ 1000000 := by omega
 have m0 : (m.length : Int) ≤ 1000000 := by omega
 go_enter Tryz.func12, Tryz.ntmps12
 by_cases hlm : l.length = m.length
 ·have e0 : ((l.length : Int) != (m.length : Int)) = false := by unfold bne; rw [beq_iff_eq.2 (by omega : (l.length : Int) = (m.length : Int))]; rfl
  have HLM := Lib.hid hlm
  clear hlm
  go_wp2_with fail
  go_loopw [5] (fun v wr => ∃ j : Nat, j ≤ l.length ∧ v = .int .i64 (j : Int) ∧ Hid (∀ k, k < j → l[k]? = m[k]?) ∧ Hid (Below w.heap.size w wr)) (fun v _ => l.length - (intOf v).toNat)
  case atStart => exact ⟨0, Nat.zero_le _, rfl, Lib.hid (fun k hk => absurd hk (Nat.not_lt_zero _)), Lib.hid (Below.refl _ _)⟩
  case round =>
   obtain ⟨j, hj, rfl, HE, HW⟩ := hrel
   have i1 : (0 : Int) ≤ (j : Int) := by omega
   by_cases hlt : j < l.length
   ·obtain ⟨s, hs⟩ : ∃ s, l[j]? = some s := ⟨_, List.getElem?_eq_getElem hlt⟩
    obtain ⟨t, ht⟩ : ∃ t, m[j]? = some t := ⟨_, List.getElem?_eq_getElem (by have := HLM.out; omega)⟩
    obtain ⟨g, o, rfl, -, h2, h3, h4, h5⟩ := (HA.out.under HW.out (Nat.le_refl _) (Nat.le_refl _)).at hs
    obtain ⟨g', o', rfl, -, k2, k3, k4, k5⟩ := (HB.out.under HW.out (Nat.le_refl _) (Nat.le_refl _)).at ht
    have i2 : (j : Int) < (l.length : Int) := by omega
    have i3 : (j : Int) < (m.length : Int) := by have := HLM.out; omega
    have HS0 : Hid (wr.drew.cell? ⟨g, o + j * 2, none⟩ = some (.string (txt s.1)) ∧ wr.drew.cell? ⟨g, o + j * 2 + 1, none⟩ = some (.string (txt s.2)) ∧ wr.drew.cell? ⟨g', o' + j * 2, none⟩ = some (.string (txt t.1)) ∧ wr.drew.cell? ⟨g', o' + j * 2 + 1, none⟩ = some (.string (txt t.2))) := Lib.hid ⟨h4, h5, k4, k5⟩
    have HST := Lib.hid (And.intro hs ht)
    have HLT := Lib.hid hlt
    have n0 : j < l.length := hlt
    have n1 : j < m.length := by have := HLM.out; omega
    have e1 : ∀ W, (binOp .neq 45 (.agg #[.string (txt s.1), .string (txt s.2)]) (.agg #[.string (txt t.1), .string (txt t.2)])).run Tryz.prog W = .ok (.bool (!decide (s = t))) W := fun W => step_neq10 s t W
    have HWD : Hid (Below w.heap.size w wr.drew) := Lib.hid HW.out.drew
    clear hs ht h4 h5 k4 k5 hlt
    by_cases hst : s = t
    ·have b0 : (!decide (s = t)) = false := by rw [decide_eq_true hst]; rfl
     rw [b0] at e1
     have HEQ := Lib.hid hst
     clear hst b0
     go_wp2_with fail
     refine wp_region_noPanic ?_
     refine wp_region_held_drew (S := fun _ => True) (by kernel_rfl) trivial (fun hS => ?_)
     refine wpAnyH_take (i := 0) (oi := ?o_0) (v := ?v_0) ?i_0 (by kernel_rfl) (by kernel_rfl) (by kernel_rfl) (fun _ _ _ h => h) (Or.inl ⟨?g_0, ?y_0⟩) hS ?_
     case i_0 => simp only [layG]; rfl
     case g_0 => rfl
     case y_0 => (intro w hSw; (go_simp <;> with_reducible rfl))
     (try simp only [Act.put, layS])
     refine wpAnyH_take (i := 1) (oi := ?o_1) (v := ?v_1) ?i_1 (by kernel_rfl) (by kernel_rfl) (by kernel_rfl) (fun _ _ _ h => h) (Or.inl ⟨?g_1, ?y_1⟩) hS ?_
     case i_1 => simp only [layG]; rfl
     case g_1 => rfl
     case y_1 => (intro w hSw; (go_simp <;> with_reducible rfl))
     (try simp only [Act.put, layS])
     refine wpAnyH_take (i := 2) (oi := ?o_2) (v := ?v_2) ?i_2 (by kernel_rfl) (by kernel_rfl) (by kernel_rfl) (fun _ _ _ h => h) (Or.inl ⟨?g_2, ?y_2⟩) hS ?_
     case i_2 => simp only [layG]; rfl
     case g_2 => rfl
     case y_2 => (intro w hSw; (go_simp <;> with_reducible rfl))
     (try simp only [Act.put, layS])
     refine held_more (S' := fun w' => w'.cell? ⟨g, o + j * 2, none⟩ = some (.string (txt s.1)) ∧ w'.cell? ⟨g, o + j * 2 + 1, none⟩ = some (.string (txt s.2)) ∧ w'.cell? ⟨g', o' + j * 2, none⟩ = some (.string (txt t.1)) ∧ w'.cell? ⟨g', o' + j * 2 + 1, none⟩ = some (.string (txt t.2))) (fun _ _ => trivial) _ _ _ _ ?_
     replace hS := HS0.out
     refine wpAnyH_take (i := 3) (oi := ?o_3) (v := ?v_3) ?i_3 (by kernel_rfl) (by kernel_rfl) (by kernel_rfl) (fun _ _ _ h => h) (Or.inl ⟨?g_3, ?y_3⟩) hS ?_
     case i_3 => simp only [layG]; rfl
     case g_3 => rfl
     case y_3 => (intro w hSw; have q0 := hSw.1; have q1 := hSw.2.1; (go_simp <;> with_reducible rfl))
     (try simp only [Act.put, layS])
     refine wpAnyH_take (i := 4) (oi := ?o_4) (v := ?v_4) ?i_4 (by kernel_rfl) (by kernel_rfl) (by kernel_rfl) (fun _ _ _ h => h) (Or.inl ⟨?g_4, ?y_4⟩) hS ?_
     case i_4 => simp only [layG]; rfl
     case g_4 => rfl
     case y_4 => (intro w hSw; (go_simp <;> with_reducible rfl))
     (try simp only [Act.put, layS])
     refine wpAnyH_take (i := 5) (oi := ?o_5) (v := ?v_5) ?i_5 (by kernel_rfl) (by kernel_rfl) (by kernel_rfl) (fun _ _ _ h => h) (Or.inl ⟨?g_5, ?y_5⟩) hS ?_
     case i_5 => simp only [layG]; rfl
     case g_5 => rfl
     case y_5 => (intro w hSw; (go_simp <;> with_reducible rfl))
     (try simp only [Act.put, layS])
     refine wpAnyH_take (i := 6) (oi := ?o_6) (v := ?v_6) ?i_6 (by kernel_rfl) (by kernel_rfl) (by kernel_rfl) (fun _ _ _ h => h) (Or.inl ⟨?g_6, ?y_6⟩) hS ?_
     case i_6 => simp only [layG]; rfl
     case g_6 => rfl
     case y_6 => (intro w hSw; (go_simp <;> with_reducible rfl))
     (try simp only [Act.put, layS])
     refine wpAnyH_take (i := 7) (oi := ?o_7) (v := ?v_7) ?i_7 (by kernel_rfl) (by kernel_rfl) (by kernel_rfl) (fun _ _ _ h => h) (Or.inl ⟨?g_7, ?y_7⟩) hS ?_
     case i_7 => simp only [layG]; rfl
     case g_7 => rfl
     case y_7 => (intro w hSw; have q0 := hSw.2.2.1; have q1 := hSw.2.2.2; (go_simp <;> with_reducible rfl))
     (try simp only [Act.put, layS])
     refine wpAnyH_take (i := 8) (oi := ?o_8) (v := ?v_8) ?i_8 (by kernel_rfl) (by kernel_rfl) (by kernel_rfl) (fun _ _ _ h => h) (Or.inl ⟨?g_8, ?y_8⟩) hS ?_
     case i_8 => simp only [layG]; rfl
     case g_8 => rfl
     case y_8 => (intro w hSw; (go_simp <;> with_reducible rfl))
     (try simp only [Act.put, layS])
     refine wpAnyH_done (by kernel_rfl) ?_ _
     refine NoPanic.normal ?_
     clear hS
     go_wp2
     go_roundw
     case rel => exact ⟨j + 1, HLT.out, by go_num, Lib.hid (fun k hk => by
      by_cases hkj : k < j
      ·exact HE.out k hkj
      ·have e : k = j := by omega
       subst e
       rw [HST.out.1, HST.out.2, HEQ.out]), HWD⟩
     case measure => have := HLT.out; simp [intOf]; omega
    ·have b0 : (!decide (s = t)) = true := by rw [decide_eq_false hst]; rfl
     rw [b0] at e1
     have HX : Hid (decide (l = m) = false) := Lib.hid (decide_eq_false fun e => hst (by have h1 := HST.out.1; have h2 := HST.out.2; rw [e, h2] at h1; injection h1 with h1; exact h1.symm))
     clear hst b0
     go_wp2_with fail
     refine wp_region_noPanic ?_
     refine wp_region_held_drew (S := fun _ => True) (by kernel_rfl) trivial (fun hS => ?_)
     refine wpAnyH_take (i := 0) (oi := ?o_9) (v := ?v_9) ?i_9 (by kernel_rfl) (by kernel_rfl) (by kernel_rfl) (fun _ _ _ h => h) (Or.inl ⟨?g_9, ?y_9⟩) hS ?_
     case i_9 => simp only [layG]; rfl
     case g_9 => rfl
     case y_9 => (intro w hSw; (go_simp <;> with_reducible rfl))
     (try simp only [Act.put, layS])
     refine wpAnyH_take (i := 1) (oi := ?o_a) (v := ?v_a) ?i_a (by kernel_rfl) (by kernel_rfl) (by kernel_rfl) (fun _ _ _ h => h) (Or.inl ⟨?g_a, ?y_a⟩) hS ?_
     case i_a => simp only [layG]; rfl
     case g_a => rfl
     case y_a => (intro w hSw; (go_simp <;> with_reducible rfl))
     (try simp only [Act.put, layS])
     refine wpAnyH_take (i := 2) (oi := ?o_b) (v := ?v_b) ?i_b (by kernel_rfl) (by kernel_rfl) (by kernel_rfl) (fun _ _ _ h => h) (Or.inl ⟨?g_b, ?y_b⟩) hS ?_
     case i_b => simp only [layG]; rfl
     case g_b => rfl
     case y_b => (intro w hSw; (go_simp <;> with_reducible rfl))
     (try simp only [Act.put, layS])
     refine held_more (S' := fun w' => w'.cell? ⟨g, o + j * 2, none⟩ = some (.string (txt s.1)) ∧ w'.cell? ⟨g, o + j * 2 + 1, none⟩ = some (.string (txt s.2)) ∧ w'.cell? ⟨g', o' + j * 2, none⟩ = some (.string (txt t.1)) ∧ w'.cell? ⟨g', o' + j * 2 + 1, none⟩ = some (.string (txt t.2))) (fun _ _ => trivial) _ _ _ _ ?_
     replace hS := HS0.out
     refine wpAnyH_take (i := 3) (oi := ?o_c) (v := ?v_c) ?i_c (by kernel_rfl) (by kernel_rfl) (by kernel_rfl) (fun _ _ _ h => h) (Or.inl ⟨?g_c, ?y_c⟩) hS ?_
     case i_c => simp only [layG]; rfl
     case g_c => rfl
     case y_c => (intro w hSw; have q0 := hSw.1; have q1 := hSw.2.1; (go_simp <;> with_reducible rfl))
     (try simp only [Act.put, layS])
     refine wpAnyH_take (i := 4) (oi := ?o_d) (v := ?v_d) ?i_d (by kernel_rfl) (by kernel_rfl) (by kernel_rfl) (fun _ _ _ h => h) (Or.inl ⟨?g_d, ?y_d⟩) hS ?_
     case i_d => simp only [layG]; rfl
     case g_d => rfl
     case y_d => (intro w hSw; (go_simp <;> with_reducible rfl))
     (try simp only [Act.put, layS])
     refine wpAnyH_take (i := 5) (oi := ?o_e) (v := ?v_e) ?i_e (by kernel_rfl) (by kernel_rfl) (by kernel_rfl) (fun _ _ _ h => h) (Or.inl ⟨?g_e, ?y_e⟩) hS ?_
     case i_e => simp only [layG]; rfl
     case g_e => rfl
     case y_e => (intro w hSw; (go_simp <;> with_reducible rfl))
     (try simp only [Act.put, layS])
     refine wpAnyH_take (i := 6) (oi := ?o_f) (v := ?v_f) ?i_f (by kernel_rfl) (by kernel_rfl) (by kernel_rfl) (fun _ _ _ h => h) (Or.inl ⟨?g_f, ?y_f⟩) hS ?_
     case i_f => simp only [layG]; rfl
     case g_f => rfl
     case y_f => (intro w hSw; (go_simp <;> with_reducible rfl))
     (try simp only [Act.put, layS])
     refine wpAnyH_take (i := 7) (oi := ?o_g) (v := ?v_g) ?i_g (by kernel_rfl) (by kernel_rfl) (by kernel_rfl) (fun _ _ _ h => h) (Or.inl ⟨?g_g, ?y_g⟩) hS ?_
     case i_g => simp only [layG]; rfl
     case g_g => rfl
     case y_g => (intro w hSw; have q0 := hSw.2.2.1; have q1 := hSw.2.2.2; (go_simp <;> with_reducible rfl))
     (try simp only [Act.put, layS])
     refine wpAnyH_take (i := 8) (oi := ?o_h) (v := ?v_h) ?i_h (by kernel_rfl) (by kernel_rfl) (by kernel_rfl) (fun _ _ _ h => h) (Or.inl ⟨?g_h, ?y_h⟩) hS ?_
     case i_h => simp only [layG]; rfl
     case g_h => rfl
     case y_h => (intro w hSw; (go_simp <;> with_reducible rfl))
     (try simp only [Act.put, layS])
     refine wpAnyH_done (by kernel_rfl) ?_ _
     refine NoPanic.normal ?_
     clear hS
     go_wp2
     go_ret
     exact ⟨by rw [HX.out]; rfl, HWD.out⟩
   ·have i2 : ¬ (j : Int) < (l.length : Int) := by omega
    have HX : Hid (decide (l = m) = true) := Lib.hid (decide_eq_true (List.ext_getElem? fun k => by
     by_cases hk : k < j
     ·exact HE.out k hk
     ·rw [List.getElem?_eq_none (by omega), List.getElem?_eq_none (by have := HLM.out; omega)]))
    go_wp2
    go_ret
    exact ⟨by rw [HX.out]; rfl, HW.out⟩
 ·have e0 : ((l.length : Int) != (m.length : Int)) = true := by unfold bne; rw [beq_eq_false_iff_ne.2 (by omega : (l.length : Int) ≠ (m.length : Int))]; rfl
  have HX : Hid (decide (l = m) = false) := Lib.hid (decide_eq_false fun e => hlm (by rw [e]))
  go_wp2
  go_ret
  exact ⟨by rw [HX.out]; rfl, Below.refl _ _⟩
end Go.Proofs.YtljjaikejfoanaaGreat
namespace Go.Proofs.YtljjaikejfoanaaGreat
open Go.RowKit Go.Shelf
attribute [local go_sem] Oper.semAt_some
section
variable {W W' w : World} {row : Option Nat} {B : Nat}
theorem Blk.obj {g t : Nat} {cs : Array Value} (h : Blk W g t cs) (hg : W.grownBy W' row) (hr : ∀ r, row = some r → ∃ o : Obj, W.heap[r]? = some o ∧ o.isCells = false) : Blk W' g t cs := (grownBy_keeps_cells hg hr h rfl).trans h
theorem below_obj (h : Below B w W) (hg : W.grownBy W' row) (hr : ∀ r, row = some r → B ≤ r) (hB : B ≤ w.heap.size) : Below B w W' :=
 h.trans ⟨hg.os, hg.tape, hg.output, hg.size, fun k hk => hg.block k (by have := h.size; omega) (fun e => by have := hr k e.symm; omega)⟩
end
def EncP (b : Bad) (B : Nat) (args : Array Value) (W : World) : Prop := ∃ v, args = #[.agg #[.int .i64 (b.1 : Int), v]] ∧ OwnS B W v b.2
def EncO (o : Option Bad) (B : Nat) (args : Array Value) (W : World) : Prop := ∃ b, o = some b ∧ EncP b B args W
def PrbS (g : Nat) (lb : Array Value) (o : Option Bad) (w : World) : Prop := SeqOne Tryz.prog g lb (EncO o) o.isSome w
theorem EncP.mono {b : Bad} {B B' : Nat} {args : Array Value} {W : World} (h : EncP b B args W) (hb : B' ≤ B) : EncP b B' args W := by
 obtain ⟨v, h1, h2⟩ := h; exact ⟨v, h1, h2.mono hb⟩
theorem EncO.mono {o : Option Bad} {B B' : Nat} {args : Array Value} {W : World} (h : EncO o B args W) (hb : B' ≤ B) : EncO o B' args W := by
 obtain ⟨b, h1, h2⟩ := h; exact ⟨b, h1, h2.mono hb⟩
theorem EncO.size {o : Option Bad} {B : Nat} {args : Array Value} {W : World} (h : EncO o B args W) : args.size = 1 := by
 obtain ⟨b, _, v, rfl, _⟩ := h; rfl
theorem SeqOne.later {P : Program} {g : Nat} {lb : Array Value} {Enc : Nat → Array Value → World → Prop} {has : Bool} {w w' : World} (h : SeqOne P g lb Enc has w) (hb : Below w.heap.size w w') : SeqOne P g lb Enc has w' :=
 fun l Jx W hW => h l Jx W (hb.trans (hW.mono hb.size))
def FirstP (b : Bad) (w : World) (r : Ending) (w' : World) : Prop := ∃ v, r = .returned (.tuple #[.int .i64 (b.1 : Int), v]) ∧ WayV w'.heap.size w' v b.2 ∧ Below w.heap.size w w'
def FstX (o : Option Bad) (w : World) (c : Code) (W : World) : Prop := c = .ret ∧ ∃ b v, o = some b ∧ Blk W w.heap.size 30 #[.int .i64 (b.1 : Int)] ∧ Blk W (w.heap.size + 1) 31 #[v] ∧ OwnS (w.heap.size + 2) W v b.2 ∧ Below w.heap.size w W
def FstA (o : Option Bad) (f : Value) (w : World) (a : Act) (W : World) : Prop := ∃ (b : Bad) (A : Option Addr) (c Bx : Nat), o = some b ∧ Blk W Bx 68 #[.int .i64 (b.1 : Int), .slice A b.2.length c] ∧ OwnS (w.heap.size + 2) W (.slice A b.2.length c) b.2 ∧
 Blk W w.heap.size 30 #[.int .i64 0] ∧ Blk W (w.heap.size + 1) 31 #[.slice none 0 0] ∧ w.heap.size + 2 ≤ Bx ∧ Below w.heap.size w W ∧
 a = { tmps := #[f, undef, .pointer (some ⟨w.heap.size, 0, none⟩), .pointer (some ⟨w.heap.size + 1, 0, none⟩), .pointer (some ⟨Bx, 0, none⟩), f, .agg #[.int .i64 (b.1 : Int), .slice A b.2.length c], undef, undef, undef, undef], defers := [] }
theorem fstX_own (o : Option Bad) (w : World) (c : Code) : OwnFrom (w.heap.size + 2) (fun (_ : Unit) W => FstX o w c W) := by
 rintro s X Y row ⟨h1, b, v, h2, h3, h4, h5, h6⟩ hg hr
 have hc : ∀ r, row = some r → ∃ o : Obj, X.heap[r]? = some o ∧ o.isCells = false := fun r e => (hr r e).2
 exact ⟨h1, b, v, h2, h3.obj hg hc, h4.obj hg hc, h5.obj hg hc, below_obj h6 hg (fun r e => by have := (hr r e).1; omega) (Nat.le_refl _)⟩
theorem fstA_own (o : Option Bad) (f : Value) (w : World) (a : Act) : OwnFrom (w.heap.size + 2) (fun (_ : Unit) W => FstA o f w a W) := by
 rintro s X Y row ⟨b, A, c, Bx, h1, h2, h3, h4, h5, h6, h7, h8⟩ hg hr
 have hc : ∀ r, row = some r → ∃ o : Obj, X.heap[r]? = some o ∧ o.isCells = false := fun r e => (hr r e).2
 exact ⟨b, A, c, Bx, h1, h2.obj hg hc, h3.obj hg hc, h4.obj hg hc, h5.obj hg hc, h6, below_obj h7 hg (fun r e => by have := (hr r e).1; omega) (Nat.le_refl _), h8⟩
theorem results_fst {tmps : Array Value} {W : World} {B : Nat} {e : Int} {v : Value} (h2 : tmps.getD 2 undef = .pointer (some ⟨B, 0, none⟩)) (h3 : tmps.getD 3 undef = .pointer (some ⟨B + 1, 0, none⟩))
  (q0 : Blk W B 30 #[.int .i64 e]) (q1 : Blk W (B + 1) 31 #[v]) :
  (results Tryz.f19 tmps).run Tryz.prog W = .ok (.tuple #[.int .i64 e, v]) W := by
 have c0 := (q0.cell 0).trans rfl
 have c1 := (q1.cell 0).trans rfl
 have g2 : tmps[2]?.getD undef = .pointer (some ⟨B, 0, none⟩) := by simpa using h2
 have g3 : tmps[3]?.getD undef = .pointer (some ⟨B + 1, 0, none⟩) := by simpa using h3
 simp [results, Tryz.f19, go_sem, g2, g3, c0, c1]
set_option maxRecDepth 100000 in
set_option maxHeartbeats 2000000 in
theorem vfirst_any (g : Nat) (lb : Array Value) (o : Option Bad) (w : World) (eg : ∀ args w, (callFunc g args).run Tryz.prog w = .ok (.enter g args) w) (hseq : PrbS g lb o w) :
  Calls Tryz.prog 19 #[.func (.func g) #[] lb] w (FirstP (badO o) w) := by
 refine (callsIn_wide (n := 9)).1 ?_
 refine callsIn_of_wp_marks Tryz.func19 rfl trivial ?_ rfl
 simp only [Tryz.ntmps19, List.size_toArray, List.length_cons, List.length_nil, Nat.reduceAdd, Nat.reduceSub, Array.replicate_succ, Array.replicate_zero, List.push_toArray, List.append_toArray, List.nil_append, List.cons_append]
 gi_wp2
 obtain ⟨W2, hW2⟩ : ∃ W2, W2 = (w.alloc (.cells #[.int .i64 0] 30)).alloc (.cells #[.slice none 0 0] 31) := ⟨_, rfl⟩
 rw [← hW2]
 have hs2 : W2.heap.size = w.heap.size + 2 := by rw [hW2]; simp
 have hb2 : Below w.heap.size w W2 := by rw [hW2]; exact ((Below.refl _ _).alloc (Nat.le_refl _) _).alloc (by simp) _
 have b0 : Blk W2 w.heap.size 30 #[.int .i64 0] := by rw [hW2]; exact (Blk.new w _ _).alloc _
 have b1 : Blk W2 (w.heap.size + 1) 31 #[.slice none 0 0] := by rw [hW2]; exact Blk.newA (by simp) _ _
 have HB2 := Lib.hid hb2
 have HS2 := Lib.hid hs2
 have H0 := Lib.hid (And.intro b0 b1)
 refine wpIn_range_one (by decide) rfl eg (hseq.later hb2) (Below.refl _ _) (fun B args W h => h.size) (fun B B' args W hb h => h.mono hb) (FstX o w) (by rw [hs2]; exact fstX_own o w) (FstA o (.func (.func g) #[] lb) w) (by rw [hs2]; exact fstA_own o _ w) ?assign ?body ?done ?stop
 all_goals clear hW2 hs2 hb2 b0 b1 hseq
 case assign =>
  rintro l args W K hbW ⟨b, ho, v, rfl, hv⟩ hK
  rw [HS2.out] at hv
  obtain ⟨A, c, rfl⟩ := hv.shape
  gi_wp2
  have hal : Below W2.heap.size W (W.alloc (.cells #[.int .i64 (b.1 : Int), .slice A b.2.length c] 68)) := (Below.refl _ _).alloc hbW.size _
  refine hK _ _ ((KeepsOthers.alloc _ _).from _) ⟨b, A, c, W.heap.size, ho, Blk.new _ _ _, hv.below ((Below.refl _ _).alloc (Nat.le_refl _) _), ?_, ?_, ?_, ?_, rfl⟩
  ·exact ((H0.out.1.below hbW H0.out.1.lt).alloc _)
  ·exact ((H0.out.2.below hbW H0.out.2.lt).alloc _)
  ·have := hbW.size; have := HS2.out; omega
  ·exact HB2.out.trans ((hbW.trans hal).mono HB2.out.size)
 case body =>
  rintro l a' W hl ⟨b, A, c, Bx, h1, h2, h3, h4, h5, h6, h7, rfl⟩
  have hmix : Tryz.prog.follows .mixedOrders = true := by kernel_rfl
  have q0 := (h2.cell 0).trans rfl
  have q1 := (h2.cell 1).trans rfl
  have c0 := (h4.cell 0).trans rfl
  have c1 := (h5.cell 0).trans rfl
  have f0 := h4.frozen 0
  have f1 := h5.frozen 0
  obtain ⟨W5, hW5⟩ : ∃ W5, W5 = (((W.setCell ⟨w.heap.size, 0, none⟩ (.int .i64 (b.1 : Int))).setCell ⟨w.heap.size + 1, 0, none⟩ (.slice A b.2.length c)).drew) := ⟨_, rfl⟩
  have HEND : Hid (leftO W2.heap.size (FstX o w) W .ret { tmps := #[], defers := [] } W5) := Lib.hid (by
   have e0 : Blk W5 w.heap.size 30 #[.int .i64 (b.1 : Int)] := by
    rw [hW5]
    have h := (h4.set_ 0 (.int .i64 (b.1 : Int))).far (p := ⟨w.heap.size + 1, 0, none⟩) (by show w.heap.size ≠ w.heap.size + 1; omega) (.slice A b.2.length c)
    simp only [List.setIfInBounds_toArray, List.set_cons_zero] at h
    exact h
   have e1 : Blk W5 (w.heap.size + 1) 31 #[.slice A b.2.length c] := by
    rw [hW5]
    have h := (h5.far (p := ⟨w.heap.size, 0, none⟩) (by show w.heap.size + 1 ≠ w.heap.size; omega) (.int .i64 (b.1 : Int))).set_ 0 (.slice A b.2.length c)
    simp only [List.setIfInBounds_toArray, List.set_cons_zero] at h
    exact h
   have e2 : OwnS (w.heap.size + 2) W5 (.slice A b.2.length c) b.2 := by
    have hlt := fun k hk => (h3.lt k hk).1
    rw [hW5]
    have g1 := OwnK.grown h3 (grown_setAny W w.heap.size 0 (.int .i64 (b.1 : Int))) (.inr fun e => by have := hlt _ e; omega)
    have g2 := OwnK.grown g1 (grown_setAny _ (w.heap.size + 1) 0 (.slice A b.2.length c)) (.inr fun e => by have := hlt _ e; omega)
    exact OwnK.below g2 (Below.refl _ _).drew
   refine ⟨?_, rfl, b, _, h1, e0, e1, e2, ?_⟩
   ·rw [hW5]; exact (((KeepsOthers.setCell _ _ _).trans (KeepsOthers.setCell _ _ _)).trans (KeepsOthers.drew _)).from _
   ·rw [hW5]; exact h7.trans ((((Below.refl _ _).setCell (p := ⟨w.heap.size, 0, none⟩) (Nat.le_refl _) _).setCell (p := ⟨w.heap.size + 1, 0, none⟩) (Nat.le_succ _) _).drew))
  clear h1 h2 h3 h4 h5 h6 h7
  gi_wp2
  gi_region_with_o (fail)
  all_goals gi_wp2
  all_goals (rw [hW5] at HEND; exact HEND.out)
 case done =>
  intro hh D W hD hbW hK
  have ho : o = none := by cases o <;> simp_all
  have h4 := H0.out.1.below hbW H0.out.1.lt
  have h5 := H0.out.2.below hbW H0.out.2.lt
  have c0 := (h4.cell 0).trans rfl
  have c1 := (h5.cell 0).trans rfl
  have f0 := h4.frozen 0
  have f1 := h5.frozen 0
  have hlt4 := h4.lt
  have hDn : w.heap.size + 2 ≤ D := by have := HS2.out; omega
  obtain ⟨W5, hW5⟩ : ∃ W5, W5 = (W.setCell ⟨w.heap.size, 0, none⟩ (.int .i64 0)).setCell ⟨w.heap.size + 1, 0, none⟩ (.slice none 0 0) := ⟨_, rfl⟩
  have e0 : Blk W5 w.heap.size 30 #[.int .i64 0] := by
   rw [hW5]
   have h := (h4.set_ 0 (.int .i64 0)).far (p := ⟨w.heap.size + 1, 0, none⟩) (by show w.heap.size ≠ w.heap.size + 1; omega) (.slice none 0 0)
   simpa using h
  have e1 : Blk W5 (w.heap.size + 1) 31 #[.slice none 0 0] := by
   rw [hW5]
   have h := (h5.far (p := ⟨w.heap.size, 0, none⟩) (by show w.heap.size + 1 ≠ w.heap.size; omega) (.int .i64 0)).set_ 0 (.slice none 0 0)
   simpa using h
  have eD : W5.heap[D]? = some (.deferred (some [])) := by
   rw [hW5, Below.heap_setCell _ _ _ _ (by show D ≠ w.heap.size + 1; omega), Below.heap_setCell _ _ _ _ (by show D ≠ w.heap.size; omega)]
   exact hK
  have hW5b : Below w.heap.size w W5 := by
   rw [hW5]
   exact (HB2.out.trans (hbW.mono HB2.out.size)).trans (((Below.refl _ _).setCell (p := ⟨w.heap.size, 0, none⟩) (Nat.le_refl _) _).setCell (p := ⟨w.heap.size + 1, 0, none⟩) (Nat.le_succ _) _)
  have HEND := Lib.hid (And.intro e0 (And.intro e1 (And.intro eD hW5b)))
  have HW5 := Lib.hid hW5
  have HO := Lib.hid ho
  have HDN := Lib.hid hDn
  clear h4 h5 hlt4 hDn e0 e1 eD hW5b hW5 ho hh hbW
  gi_wp2
  rw [← HW5.out]
  refine ⟨by simp, .inl ⟨_, _, rfl, run_takeDeferred HEND.out.2.2.1, ?_⟩⟩
  have hob : ∀ {g t : Nat} {cs : Array Value}, Blk W5 g t cs → Blk (W5.putObj D (.deferred none)) g t cs := fun h => h.obj (row := some D) (grownBy_putObj' W5 D _) (fun r e => by cases e; exact ⟨_, HEND.out.2.2.1, rfl⟩)
  refine ⟨_, results_fst (B := w.heap.size) rfl rfl (hob HEND.out.1) (hob HEND.out.2.1), .slice none 0 0, by rw [HO.out]; rfl, ?_, ?_⟩
  ·rw [HO.out]; exact WayV.nil _ _ _ _
  ·exact HEND.out.2.2.2.trans (below_put _ _ _ (by have := HDN.out; omega))
 case stop =>
  rintro hh D c W hD ⟨rfl, b, v, h2, h3, h4, h5, h6⟩ hK
  have hDn : w.heap.size + 2 ≤ D := by have := HS2.out; omega
  have hob : ∀ {g t : Nat} {cs : Array Value}, Blk W g t cs → Blk (W.putObj D (.deferred none)) g t cs := fun h => h.obj (row := some D) (grownBy_putObj' W D _) (fun r e => by cases e; exact ⟨_, hK, rfl⟩)
  gi_wp2
  refine ⟨by simp, .inl ⟨_, _, rfl, run_takeDeferred hK, ?_⟩⟩
  refine ⟨_, results_fst (B := w.heap.size) rfl rfl (hob h3) (hob h4), v, by rw [h2]; rfl, ?_, ?_⟩
  ·rw [h2]
   exact (h5.obj (row := some D) (grownBy_putObj' W D _) (fun r e => by cases e; exact ⟨_, hK, rfl⟩)).way
  ·exact h6.trans (below_put _ _ _ (by omega))
end Go.Proofs.YtljjaikejfoanaaGreat
namespace Go.Proofs.YtljjaikejfoanaaGreat
open Go.RowKit
def SmP (c : UInt8) (w : World) (r : Ending) (w' : World) : Prop := r = .returned (.bool (smB c)) ∧ w = w'
theorem letter_any (c : UInt8) (w : World) : Calls Tryz.prog 91 #[.int .u8 (c.toNat : Int)] w (SmP c w) := by
 rcases sm_cases c with ⟨hb, g1, g2⟩ | ⟨hb, g⟩
 ·have HB := Lib.hid hb
  clear hb
  obtain ⟨m, hm⟩ : ∃ m, m = c.toNat := ⟨_, rfl⟩
  rw [← hm] at g1 g2 ⊢
  clear hm
  go_enter Tryz.func91, Tryz.ntmps91
  go_wp2
  go_ret
  exact ⟨by rw [HB.out]; rfl, rfl⟩
 ·have HB := Lib.hid hb
  clear hb
  obtain ⟨m, hm⟩ : ∃ m, m = c.toNat := ⟨_, rfl⟩
  rw [← hm] at g ⊢
  clear hm
  rcases g with g | ⟨g1, g2⟩
  all_goals
   go_enter Tryz.func91, Tryz.ntmps91
   go_wp2
   go_ret
   exact ⟨by rw [HB.out]; rfl, rfl⟩
theorem nm_ways (c : UInt8) (h : smB c = false) : (nmB c = true ∧ ((48 ≤ (c.toNat : Int) ∧ (c.toNat : Int) ≤ 57) ∨ (¬ 48 ≤ (c.toNat : Int) ∧ ((c.toNat : Int) == 45) = true))) ∨
  (nmB c = false ∧ ((c.toNat : Int) == 45) = false ∧ (¬ 48 ≤ (c.toNat : Int) ∨ (48 ≤ (c.toNat : Int) ∧ ¬ (c.toNat : Int) ≤ 57))) := by
 rcases nm_cases h with ⟨h1, h2⟩ | ⟨h1, h2, h3⟩
 ·refine .inl ⟨h1, ?_⟩
  rcases h2 with h2 | ⟨h2, h3, h4⟩
  ·have : (c.toNat : Int) = 45 := beq_iff_eq.1 h2
   exact .inr ⟨by omega, h2⟩
  ·exact .inl ⟨by omega, by omega⟩
 ·refine .inr ⟨h1, h2, ?_⟩
  rcases h3 with h3 | ⟨h3, h4⟩
  ·exact .inl (by omega)
  ·exact .inr ⟨by omega, by omega⟩
def NmP (c : UInt8) (w : World) (r : Ending) (w' : World) : Prop := r = .returned (.bool (nmB c)) ∧ w = w'
set_option maxHeartbeats 1000000 in
theorem inName_any (c : UInt8) (w : World) : Calls Tryz.prog 92 #[.int .u8 (c.toNat : Int)] w (NmP c w) := by
 have HL := Lib.hid (letter_any c w)
 cases hb : smB c with
 | true =>
  have HN := Lib.hid (sm_nm hb)
  have HS := Lib.hid hb
  clear hb
  go_enter Tryz.func92, Tryz.ntmps92
  go_wp2_with fail
  refine HL.out.mono ?_
  rintro r w1 ⟨rfl, rfl⟩
  rw [HS.out]
  clear HL
  go_wp2
  go_ret
  exact ⟨by rw [HN.out]; rfl, rfl⟩
 | false =>
  have HS := Lib.hid hb
  have g := nm_ways c hb
  clear hb
  have HL : Hid (Calls Tryz.prog 91 #[.int .u8 (c.toNat : Int)] w fun r w' => r = .returned (.bool false) ∧ w = w') := Lib.hid (HL.out.mono fun r w' h => ⟨by rw [h.1, HS.out], h.2⟩)
  have HQ : Hid (∀ b, nmB c = b → NmP c w (.returned (.bool b)) w) := Lib.hid (fun b e => ⟨by rw [e], rfl⟩)
  rcases g with ⟨h1, g⟩ | ⟨h1, g0, g⟩
  ·have HN := Lib.hid h1
   clear h1 HS
   generalize c.toNat = m at g HL
   rcases g with ⟨g1, g2⟩ | ⟨g1, g2⟩
   all_goals
    go_enter Tryz.func92, Tryz.ntmps92
    go_wp2_with fail
    refine HL.out.mono ?_
    rintro r w1 ⟨rfl, rfl⟩
    clear HL
    go_wp2
    go_ret
    exact HQ.out _ HN.out
  ·have HN := Lib.hid h1
   clear h1 HS
   generalize c.toNat = m at g g0 HL
   rcases g with g1 | ⟨g1, g2⟩
   ·go_enter Tryz.func92, Tryz.ntmps92
    go_wp2_with fail
    refine HL.out.mono ?_
    rintro r w1 ⟨rfl, rfl⟩
    clear HL
    go_wp2
    go_ret
    exact HQ.out _ HN.out
   ·go_enter Tryz.func92, Tryz.ntmps92
    go_wp2_with fail
    refine HL.out.mono ?_
    rintro r w1 ⟨rfl, rfl⟩
    clear HL
    go_wp2
    go_ret
    exact HQ.out _ (HN.out.trans (decide_eq_false (by omega)).symm)
def IdentP (s : List UInt8) (w : World) (r : Ending) (w' : World) : Prop := r = .returned (.bool (identX s)) ∧ w = w'
def nmL (s : List UInt8) (k : Nat) : Prop := ∀ j c, j < k → s[j]? = some c → nmB c = true
theorem nmL_step {s : List UInt8} {k : Nat} {c : UInt8} (hc : s[k]? = some c) (h : nmL s k) (h1 : nmB c = true) : nmL s (k + 1) := by
 intro j d hj hd
 by_cases e : j = k
 ·subst e
  rw [hc] at hd
  injection hd with hd
  rw [← hd]; exact h1
 ·exact h j d (by omega) hd
theorem nmL_all {c : UInt8} {r : List UInt8} (h1 : smB c = true) (h2 : (c :: r).length ≤ 12) (h : nmL (c :: r) (c :: r).length) : identX (c :: r) = true := by
 rw [idL_all ⟨fun d _ hd => by simp at hd; rw [← hd]; exact h1, h⟩]
 simp
 simpa using h2
theorem ident_bad {s : List UInt8} {k : Nat} {c : UInt8} (hc : s[k]? = some c) (h : nmB c = false) : identX s = false :=
 id_bad hc (by cases hb : smB c with | false => rfl | true => rw [sm_nm hb] at h; cases h) (.inr h)
set_option maxRecDepth 100000 in
set_option maxHeartbeats 2000000 in
theorem ident_any (s : List UInt8) (hs : s.length ≤ 1048576) (w : World) : Calls Tryz.prog 82 #[.string (txt s)] w (IdentP s w) := by
 cases s with
 | nil =>
  have e0 : txt [] = (⟨#[]⟩ : ByteArray) := rfl
  rw [e0]
  go_enter Tryz.func82, Tryz.ntmps82
  go_wp2
  go_ret
  exact ⟨rfl, rfl⟩
 | cons c r =>
 have hsz := txt_size (c :: r)
 have ts : (txt (c :: r)).toList = c :: r := txt_toList _
 have hE : (c :: r).isEmpty = false := rfl
 have hN : ((c :: r) == []) = false := rfl
 by_cases h12 : (c :: r).length ≤ 12
 ·have i12 : ¬ ((12 : Int) < ((c :: r).length : Int)) := by omega
  have hin : 0 < (txt (c :: r)).size := by rw [hsz]; simp
  have hix : (((txt (c :: r))[0]'hin).toNat : Int) = (c.toNat : Int) := by rw [txt_get (c :: r) 0 (by simp) hin]; rfl
  have HL := Lib.hid (letter_any c w)
  cases hb : smB c with
  | false =>
   have HV : Hid (identX (c :: r) = false) := Lib.hid (ident_no hb r)
   have HS := Lib.hid hb
   clear hb
   generalize c :: r = s at *
   go_enter Tryz.func82, Tryz.ntmps82
   go_wp2_with fail
   refine HL.out.mono ?_
   rintro e w1 ⟨rfl, rfl⟩
   rw [HS.out]
   clear HL
   go_wp2
   go_ret
   exact ⟨by rw [HV.out]; rfl, rfl⟩
  | true =>
   have HV : Hid (nmL (c :: r) (c :: r).length → identX (c :: r) = true) := Lib.hid (fun h => nmL_all hb h12 h)
   have HS := Lib.hid hb
   clear hb
   have hpos : 0 < (c :: r).length := by simp
   generalize c :: r = s at *
   go_enter Tryz.func82, Tryz.ntmps82
   go_wp2_with fail
   refine HL.out.mono ?_
   rintro e w1 ⟨rfl, rfl⟩
   rw [HS.out]
   clear HL hix
   go_wp2
   go_loop [3, 19] (fun v i => ∃ k : Nat, k ≤ s.length ∧ i = .int .i64 (k : Int) ∧ Hid (nmL s k)) (fun _ i => s.length - (intOf i).toNat)
   case atStart => exact ⟨0, by omega, rfl, Lib.hid (fun j c h => by omega)⟩
   case round =>
    obtain ⟨k, hk, rfl, HK⟩ := hrel
    by_cases h1 : k < s.length
    ·have d1 : (k : Int) < (s.length : Int) := by omega
     obtain ⟨d, hd⟩ : ∃ d, s[k]? = some d := ⟨_, List.getElem?_eq_getElem h1⟩
     have hink : k < (txt s).size := by rw [hsz]; exact h1
     have hixk : (((txt s)[k]'hink).toNat : Int) = (d.toNat : Int) := by rw [txt_get s k h1 hink]; rw [List.getElem?_eq_getElem h1] at hd; injection hd with hd; rw [hd]
     have HN := Lib.hid (inName_any d w)
     cases hn : nmB d with
     | true =>
      have HK2 := Lib.hid (nmL_step hd HK.out hn)
      have HN2 := Lib.hid hn
      clear hd hn HK
      go_wp2_with fail
      refine HN.out.mono ?_
      rintro e w1 ⟨rfl, rfl⟩
      rw [HN2.out]
      clear HN
      go_wp2
      go_round
      case rel => exact ⟨k + 1, by omega, by go_num, HK2⟩
      case measure => simp [intOf]; omega
     | false =>
      have HF : Hid (identX s = false) := Lib.hid (ident_bad hd hn)
      have HN2 := Lib.hid hn
      clear hd hn HK
      go_wp2_with fail
      refine HN.out.mono ?_
      rintro e w1 ⟨rfl, rfl⟩
      rw [HN2.out]
      clear HN
      go_wp2
      go_ret
      exact ⟨by rw [HF.out]; rfl, rfl⟩
    ·obtain rfl : k = s.length := by omega
     have HF : Hid (identX s = true) := Lib.hid (HV.out HK.out)
     clear HK h1
     go_wp2
     go_ret
     exact ⟨by rw [HF.out]; rfl, rfl⟩
 ·have i12 : (12 : Int) < ((c :: r).length : Int) := by omega
  have HV : Hid (identX (c :: r) = false) := Lib.hid (by
   cases h : identX (c :: r) with
   | false => rfl
   | true => exact absurd (ident_len h).2 h12)
  clear h12
  generalize c :: r = s at *
  go_enter Tryz.func82, Tryz.ntmps82
  go_wp2
  go_ret
  exact ⟨by rw [HV.out]; rfl, rfl⟩
end Go.Proofs.YtljjaikejfoanaaGreat
