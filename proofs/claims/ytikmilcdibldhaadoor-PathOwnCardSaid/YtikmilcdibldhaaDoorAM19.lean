/- PtvUnd SpvNum SpvOwn SpvFnA -/
import Derived.Test.YtikmilcdibldhaaDoorAM0
import Derived.Test.YtikmilcdibldhaaDoorAM4
import Derived.Test.YtikmilcdibldhaaDoorAM1
import Derived.Test.YtikmilcdibldhaaDoorAM2
import Derived.Test.YtikmilcdibldhaaDoorAM17
import Derived.Test.YtikmilcdibldhaaDoorAM5
import Derived.Laws.ResultCell
set_option linter.unusedSimpArgs false
set_option linter.unusedVariables false
namespace Go.Proofs.YtikmilcdibldhaaDoor
open Go.RowKit
attribute [local go_sem] Oper.semAt_some
set_option maxRecDepth 100000 in
set_option maxHeartbeats 4000000 in
theorem under15_any (l m : List Stp) (va vb : Value) (w : World) (ha : WayV w.heap.size w va l) (hb : WayV w.heap.size w vb m) (hl : l.length ≤ 1000000) (hm : m.length ≤ 1000000) :
  Calls Tryd.prog 17 #[va, vb] w (Ans9 (.bool (underX l m)) w) := by
 obtain ⟨A, c, rfl⟩ := ha.shape
 obtain ⟨B, d, rfl⟩ := hb.shape
 by_cases hlen : l.length < m.length
 ·have HX : Hid (underX l m = false) := Lib.hid (under_no hlen (by rw [List.getElem?_eq_none (Nat.le_refl _), List.getElem?_eq_getElem hlen]; intro e; cases e))
  have y0 : (l.length : Int) < (m.length : Int) := by omega
  have y1 : decide ((l.length : Int) < (m.length : Int)) = true := decide_eq_true y0
  have y2 : decide (l.length < m.length) = true := decide_eq_true hlen
  clear ha hb
  go_enter Tryd.func17, Tryd.ntmps17
  go_wp2
  go_ret
  exact ⟨by rw [HX.out]; rfl, Below.refl _ _⟩
 have HA := Lib.hid ha
 have HB := Lib.hid hb
 have y0 : ¬ (l.length : Int) < (m.length : Int) := by omega
 have y1 : decide ((l.length : Int) < (m.length : Int)) = false := decide_eq_false y0
 have y2 : decide (l.length < m.length) = false := decide_eq_false hlen
 clear ha hb
 have l0 : (l.length : Int) ≤ 1000000 := by omega
 have m0 : (m.length : Int) ≤ 1000000 := by omega
 go_enter Tryd.func17, Tryd.ntmps17
 go_wp2_with fail
 go_loopw [5, 6, 14] (fun _ _ v wr => ∃ j : Nat, j ≤ m.length ∧ v = .int .i64 (j : Int) ∧ Hid (∀ k, k < j → l[k]? = m[k]?) ∧ Hid (Below w.heap.size w wr)) (fun _ _ v _ => m.length - (intOf v).toNat)
 case atStart => exact ⟨0, Nat.zero_le _, rfl, Lib.hid (fun k hk => absurd hk (Nat.not_lt_zero _)), Lib.hid (Below.refl _ _)⟩
 case round =>
  obtain ⟨j, hj, rfl, HE, HW⟩ := hrel
  have i1 : (0 : Int) ≤ (j : Int) := by omega
  by_cases hlt : j < m.length
  ·have i3 : (j : Int) < (m.length : Int) := by omega
   obtain ⟨t, ht⟩ : ∃ t, m[j]? = some t := ⟨_, List.getElem?_eq_getElem hlt⟩
   have hll : j < l.length := by omega
   obtain ⟨s, hs⟩ : ∃ s, l[j]? = some s := ⟨_, List.getElem?_eq_getElem hll⟩
   obtain ⟨g, o, rfl, -, h2, h3, h4, h5⟩ := (HA.out.under HW.out (Nat.le_refl _) (Nat.le_refl _)).at hs
   obtain ⟨g', o', rfl, -, k2, k3, k4, k5⟩ := (HB.out.under HW.out (Nat.le_refl _) (Nat.le_refl _)).at ht
   have i2 : (j : Int) < (l.length : Int) := by omega
   have hz := HW.out.size
   have HWX : Hid (Below w.heap.size w (wr.alloc (.cells #[.string (txt t.1), .string (txt t.2)] 46)).drew) := Lib.hid (HW.out.alloc hz _).drew
   have HAL : Hid (Below wr.heap.size wr (wr.alloc (.cells #[.string (txt t.1), .string (txt t.2)] 46)).drew) := Lib.hid ((Below.refl _ _).alloc (Nat.le_refl _) _).drew
   have HBX : Hid (Blk (wr.alloc (.cells #[.string (txt t.1), .string (txt t.2)] 46)).drew wr.heap.size 46 #[.string (txt t.1), .string (txt t.2)]) := Lib.hid (by have h := Blk.new wr 46 #[.string (txt t.1), .string (txt t.2)]; exact h.below (Below.refl _ _).drew h.lt)
   have HS0 : Hid ((wr.alloc (.cells #[.string (txt t.1), .string (txt t.2)] 46)).drew.cell? ⟨g, o + j * 2, none⟩ = some (.string (txt s.1)) ∧ (wr.alloc (.cells #[.string (txt t.1), .string (txt t.2)] 46)).drew.cell? ⟨g, o + j * 2 + 1, none⟩ = some (.string (txt s.2)) ∧ (wr.alloc (.cells #[.string (txt t.1), .string (txt t.2)] 46)).drew.cell? ⟨wr.heap.size, 0, none⟩ = some (.string (txt t.1)) ∧ (wr.alloc (.cells #[.string (txt t.1), .string (txt t.2)] 46)).drew.cell? ⟨wr.heap.size, 1, none⟩ = some (.string (txt t.2))) := Lib.hid ⟨(HAL.out.cell (p := ⟨g, o + j * 2, none⟩) (show g < wr.heap.size by omega)).trans h4, (HAL.out.cell (p := ⟨g, o + j * 2 + 1, none⟩) (show g < wr.heap.size by omega)).trans h5, (HBX.out.cell 0).trans rfl, (HBX.out.cell 1).trans rfl⟩
   have HST := Lib.hid (And.intro hs ht)
   have HLT := Lib.hid hlt
   have n0 : j < l.length := hll
   have n1 : j < m.length := hlt
   have e1 : ∀ W, (binOp .neq 46 (.agg #[.string (txt s.1), .string (txt s.2)]) (.agg #[.string (txt t.1), .string (txt t.2)])).run Tryd.prog W = .ok (.bool (!decide (s = t))) W := fun W => step_neq10 s t W
   clear hs ht h4 h5 hlt hll hlen
   by_cases hst : s = t
   ·have b0 : (!decide (s = t)) = false := by rw [decide_eq_true hst]; rfl
    rw [b0] at e1
    have HEQ := Lib.hid hst
    clear hst b0
    go_wp2_with fail
    refine wp_region_noPanic ?_
    refine wp_region_held_drew (S := fun _ => True) (by kernel_rfl) trivial (fun hS => ?_)
    refine held_more (S' := fun w' => w'.cell? ⟨g, o + j * 2, none⟩ = some (.string (txt s.1)) ∧ w'.cell? ⟨g, o + j * 2 + 1, none⟩ = some (.string (txt s.2)) ∧ w'.cell? ⟨wr.heap.size, 0, none⟩ = some (.string (txt t.1)) ∧ w'.cell? ⟨wr.heap.size, 1, none⟩ = some (.string (txt t.2))) (fun _ _ => trivial) _ _ _ _ ?_
    replace hS := HS0.out
    refine wpAnyH_take (i := 0) (oi := ?o_0) (v := ?v_0) ?i_0 (by kernel_rfl) (by kernel_rfl) (by kernel_rfl) (fun _ _ _ h => h) (Or.inl ⟨?g_0, ?y_0⟩) hS ?_
    case i_0 => simp only [layG]; rfl
    case g_0 => rfl
    case y_0 => (intro w hSw; (go_simp <;> with_reducible rfl))
    (try simp only [Act.put, layS])
    refine wpAnyH_take (i := 1) (oi := ?o_1) (v := ?v_1) ?i_1 (by kernel_rfl) (by kernel_rfl) (by kernel_rfl) (fun _ _ _ h => h) (Or.inl ⟨?g_1, ?y_1⟩) hS ?_
    case i_1 => simp only [layG]; rfl
    case g_1 => rfl
    case y_1 => (intro w hSw; (go_simp <;> with_reducible rfl))
    (try simp only [Act.put, layS])
    refine wpAnyH_take (i := 2) (oi := ?o_2) (v := ?v_2) ?i_2 (by kernel_rfl) (by kernel_rfl) (by kernel_rfl) (fun _ _ _ h => h) (Or.inl ⟨?g_2, ?y_2⟩) hS ?_
    case i_2 => simp only [layG]; rfl
    case g_2 => rfl
    case y_2 => (intro w hSw; (go_simp <;> with_reducible rfl))
    (try simp only [Act.put, layS])
    refine wpAnyH_take (i := 3) (oi := ?o_3) (v := ?v_3) ?i_3 (by kernel_rfl) (by kernel_rfl) (by kernel_rfl) (fun _ _ _ h => h) (Or.inl ⟨?g_3, ?y_3⟩) hS ?_
    case i_3 => simp only [layG]; rfl
    case g_3 => rfl
    case y_3 => (intro w hSw; have q0 := hSw.1; have q1 := hSw.2.1; (go_simp <;> with_reducible rfl))
    (try simp only [Act.put, layS])
    refine wpAnyH_take (i := 4) (oi := ?o_4) (v := ?v_4) ?i_4 (by kernel_rfl) (by kernel_rfl) (by kernel_rfl) (fun _ _ _ h => h) (Or.inl ⟨?g_4, ?y_4⟩) hS ?_
    case i_4 => simp only [layG]; rfl
    case g_4 => rfl
    case y_4 => (intro w hSw; have q0 := hSw.2.2.1; have q1 := hSw.2.2.2; (go_simp <;> with_reducible rfl))
    (try simp only [Act.put, layS])
    refine wpAnyH_take (i := 5) (oi := ?o_5) (v := ?v_5) ?i_5 (by kernel_rfl) (by kernel_rfl) (by kernel_rfl) (fun _ _ _ h => h) (Or.inl ⟨?g_5, ?y_5⟩) hS ?_
    case i_5 => simp only [layG]; rfl
    case g_5 => rfl
    case y_5 => (intro w hSw; (go_simp <;> with_reducible rfl))
    (try simp only [Act.put, layS])
    refine wpAnyH_done (by kernel_rfl) ?_ _
    refine NoPanic.normal ?_
    clear hS
    go_wp2
    go_roundw
    case rel => exact ⟨j + 1, HLT.out, by go_num, Lib.hid (fun k hk => by
     by_cases hkj : k < j
     ·exact HE.out k hkj
     ·have e : k = j := by omega
      subst e
      rw [HST.out.1, HST.out.2, HEQ.out]), HWX⟩
    case measure => have := HLT.out; simp [intOf]; omega
   ·have b0 : (!decide (s = t)) = true := by rw [decide_eq_false hst]; rfl
    rw [b0] at e1
    have HX : Hid (underX l m = false) := Lib.hid (under_no HLT.out (by rw [HST.out.1, HST.out.2]; intro e; injection e with e; exact hst e))
    clear hst b0
    go_wp2_with fail
    refine wp_region_noPanic ?_
    refine wp_region_held_drew (S := fun _ => True) (by kernel_rfl) trivial (fun hS => ?_)
    refine held_more (S' := fun w' => w'.cell? ⟨g, o + j * 2, none⟩ = some (.string (txt s.1)) ∧ w'.cell? ⟨g, o + j * 2 + 1, none⟩ = some (.string (txt s.2)) ∧ w'.cell? ⟨wr.heap.size, 0, none⟩ = some (.string (txt t.1)) ∧ w'.cell? ⟨wr.heap.size, 1, none⟩ = some (.string (txt t.2))) (fun _ _ => trivial) _ _ _ _ ?_
    replace hS := HS0.out
    refine wpAnyH_take (i := 0) (oi := ?o_6) (v := ?v_6) ?i_6 (by kernel_rfl) (by kernel_rfl) (by kernel_rfl) (fun _ _ _ h => h) (Or.inl ⟨?g_6, ?y_6⟩) hS ?_
    case i_6 => simp only [layG]; rfl
    case g_6 => rfl
    case y_6 => (intro w hSw; (go_simp <;> with_reducible rfl))
    (try simp only [Act.put, layS])
    refine wpAnyH_take (i := 1) (oi := ?o_7) (v := ?v_7) ?i_7 (by kernel_rfl) (by kernel_rfl) (by kernel_rfl) (fun _ _ _ h => h) (Or.inl ⟨?g_7, ?y_7⟩) hS ?_
    case i_7 => simp only [layG]; rfl
    case g_7 => rfl
    case y_7 => (intro w hSw; (go_simp <;> with_reducible rfl))
    (try simp only [Act.put, layS])
    refine wpAnyH_take (i := 2) (oi := ?o_8) (v := ?v_8) ?i_8 (by kernel_rfl) (by kernel_rfl) (by kernel_rfl) (fun _ _ _ h => h) (Or.inl ⟨?g_8, ?y_8⟩) hS ?_
    case i_8 => simp only [layG]; rfl
    case g_8 => rfl
    case y_8 => (intro w hSw; (go_simp <;> with_reducible rfl))
    (try simp only [Act.put, layS])
    refine wpAnyH_take (i := 3) (oi := ?o_9) (v := ?v_9) ?i_9 (by kernel_rfl) (by kernel_rfl) (by kernel_rfl) (fun _ _ _ h => h) (Or.inl ⟨?g_9, ?y_9⟩) hS ?_
    case i_9 => simp only [layG]; rfl
    case g_9 => rfl
    case y_9 => (intro w hSw; have q0 := hSw.1; have q1 := hSw.2.1; (go_simp <;> with_reducible rfl))
    (try simp only [Act.put, layS])
    refine wpAnyH_take (i := 4) (oi := ?o_a) (v := ?v_a) ?i_a (by kernel_rfl) (by kernel_rfl) (by kernel_rfl) (fun _ _ _ h => h) (Or.inl ⟨?g_a, ?y_a⟩) hS ?_
    case i_a => simp only [layG]; rfl
    case g_a => rfl
    case y_a => (intro w hSw; have q0 := hSw.2.2.1; have q1 := hSw.2.2.2; (go_simp <;> with_reducible rfl))
    (try simp only [Act.put, layS])
    refine wpAnyH_take (i := 5) (oi := ?o_b) (v := ?v_b) ?i_b (by kernel_rfl) (by kernel_rfl) (by kernel_rfl) (fun _ _ _ h => h) (Or.inl ⟨?g_b, ?y_b⟩) hS ?_
    case i_b => simp only [layG]; rfl
    case g_b => rfl
    case y_b => (intro w hSw; (go_simp <;> with_reducible rfl))
    (try simp only [Act.put, layS])
    refine wpAnyH_done (by kernel_rfl) ?_ _
    refine NoPanic.normal ?_
    clear hS
    go_wp2
    go_ret
    exact ⟨by rw [HX.out]; rfl, HWX.out⟩
  ·have i2 : ¬ (j : Int) < (m.length : Int) := by omega
   have HX : Hid (underX l m = true) := Lib.hid (under_iff.2 fun k hk => HE.out k (by omega))
   go_wp2
   go_ret
   exact ⟨by rw [HX.out]; rfl, HW.out⟩
end Go.Proofs.YtikmilcdibldhaaDoor
namespace Go.Proofs.YtikmilcdibldhaaDoor
open Go.RowKit
structure ChD where
 kind : Nat
 name : List UInt8
 kid : SpD
abbrev ChF := Fr ChD
def supdF (i : Nat) (y : Sp) (f : SpF) : SpF := (Fr.take i f).app (.cons y.1 y.2 (Fr.drop (i + 1) f))
theorem supdF_len {i : Nat} {y : Sp} {f : SpF} (h : i < f.len) : (supdF i y f).len = f.len := by
 unfold supdF
 rw [Fr.len_app, Fr.len_take i f (by omega), Fr.len_cons, Fr.len_drop]
 omega
def runC : ChF → Sp → Sp
 | .nil, x => x
 | .cons d k r, x => runC r (
   if d.kind = 0 then ({ x.1 with name := d.name }, x.2)
   else if d.kind = 1 then (x.1, x.2.app (.cons d.kid .nil .nil))
   else match findX d.name x.2 with
    | none => x
    | some i => match x.2.get? i with
     | none => x
     | some y => (x.1, supdF i (runC k y) x.2))
def stepC (d : ChD) (k : ChF) (x : Sp) : Sp :=
 if d.kind = 0 then ({ x.1 with name := d.name }, x.2)
 else if d.kind = 1 then (x.1, x.2.app (.cons d.kid .nil .nil))
 else match findX d.name x.2 with
  | none => x
  | some i => match x.2.get? i with
   | none => x
   | some y => (x.1, supdF i (runC k y) x.2)
def okC : ChF → Sp → Bool
 | .nil, x => decide (x.2.len ≤ 100)
 | .cons d k r, x => decide (x.2.len ≤ 100) && (
   if d.kind = 0 then true
   else if d.kind = 1 then (match findX d.name x.2 with
    | none => false
    | some i => decide (i + 1 = x.2.len))
   else match findX d.name x.2 with
    | none => false
    | some i => match x.2.get? i with
     | none => false
     | some y => decide (k.len ≤ 1000) && okC k y) && okC r (stepC d k x)
theorem okC_few {f : ChF} {x : Sp} (h : okC f x = true) : x.2.len ≤ 100 := by
 cases f with
 | nil => simpa [okC] using h
 | cons d k r => simp only [okC, Bool.and_eq_true, decide_eq_true_eq] at h; exact h.1.1
theorem okC_cons {d : ChD} {k r : ChF} {x : Sp} (h : okC (.cons d k r) x = true) : okC r (stepC d k x) = true := by
 simp only [okC, Bool.and_eq_true, decide_eq_true_eq] at h; exact h.2
theorem okC_one {d : ChD} {k r : ChF} {x : Sp} (h : okC (.cons d k r) x = true) (h1 : d.kind = 1) : ∃ i, findX d.name x.2 = some i ∧ i + 1 = x.2.len ∧ stepC d k x = (x.1, x.2.app (.cons d.kid .nil .nil)) := by
 simp only [okC, Bool.and_eq_true, decide_eq_true_eq] at h
 obtain ⟨⟨_, h⟩, _⟩ := h
 rw [if_neg (by omega), if_pos h1] at h
 cases e : findX d.name x.2 with
 | none => rw [e] at h; cases h
 | some i =>
  rw [e] at h
  exact ⟨i, rfl, by simpa using h, by unfold stepC; rw [if_neg (by omega), if_pos h1]⟩
theorem okC_two {d : ChD} {k r : ChF} {x : Sp} (h : okC (.cons d k r) x = true) (h1 : d.kind ≠ 0) (h2 : d.kind ≠ 1) : ∃ i y, findX d.name x.2 = some i ∧ x.2.get? i = some y ∧ (k.len ≤ 1000 ∧ okC k y = true) ∧ stepC d k x = (x.1, supdF i (runC k y) x.2) := by
 simp only [okC, Bool.and_eq_true, decide_eq_true_eq] at h
 obtain ⟨⟨_, h⟩, _⟩ := h
 rw [if_neg h1, if_neg h2] at h
 cases e : findX d.name x.2 with
 | none => rw [e] at h; cases h
 | some i =>
  rw [e] at h
  simp only at h
  cases e2 : x.2.get? i with
  | none => rw [e2] at h; cases h
  | some y =>
   rw [e2] at h
   exact ⟨i, y, rfl, e2, by simpa using h, by unfold stepC; rw [if_neg h1, if_neg h2, e]; simp only [e2]⟩
theorem stepC_zero {d : ChD} {k : ChF} {x : Sp} (h : d.kind = 0) : stepC d k x = ({ x.1 with name := d.name }, x.2) := by unfold stepC; rw [if_pos h]
def chAfter (n : List UInt8) (a : SpD) (r : ChF) : ChF := .cons ⟨1, n, a⟩ .nil r
def chIn (n : List UInt8) (k r : ChF) : ChF := .cons ⟨2, n, zeroD⟩ k r
def chNamed (n : List UInt8) (r : ChF) : ChF := .cons ⟨0, n, zeroD⟩ .nil r
def chSecond : ChF := chIn nPort (chIn nClass (chAfter nLimit (leafD nShaped 3 true) .nil) (chAfter nDefault kindD .nil)) .nil
def chThird : ChF := chIn nPort (chIn nClass (chIn nLimit (chNamed nDepth .nil) .nil) .nil) (chAfter nPort ⟨nWait, 1, 1, 1, 1000, [], false, 0⟩ .nil)
theorem second_is : runC chSecond (rootD, rootF 1) = (rootD, rootF 2) := by decide
theorem third_is : runC chThird (rootD, rootF 2) = (rootD, rootF 3) := by decide
theorem second_ok : okC chSecond (rootD, rootF 1) = true := by decide
theorem third_ok : okC chThird (rootD, rootF 2) = true := by decide
end Go.Proofs.YtikmilcdibldhaaDoor
namespace Go.Proofs.YtikmilcdibldhaaDoor
open Go.RowKit
def SOwnT (w : World) (base : Nat) (R : Nat → Prop) : SpF → List Value → List Nat → Prop
 | .nil, xs, F => xs = [] ∧ F = []
 | .cons a k r, xs, F => ∃ (cs ys zs : List Value) (F0 F2 : List Nat) (v : Value), xs = cs ++ ys ∧ F = (v.ownBlock.toList ++ F0) ++ F2 ∧ cs.length = 9 ∧ SpcD w R cs a ∧ cs[8]? = some v ∧
   OwnK 34 9 w base v k.len zs ∧ SOwnT w base R k zs F0 ∧ SOwnT w base R r ys F2
def SOwnU (w : World) (base : Nat) (R : Nat → Prop) (v : Value) (k : SpF) (F : List Nat) : Prop := ∃ zs F0, F = v.ownBlock.toList ++ F0 ∧ OwnK 34 9 w base v k.len zs ∧ SOwnT w base R k zs F0
def OwnX (w : World) (base : Nat) (R : Nat → Prop) (cs : List Value) (x : Sp) (F : List Nat) : Prop := ∃ v, cs.length = 9 ∧ SpcD w R cs x.1 ∧ cs[8]? = some v ∧ SOwnU w base R v x.2 F
section
variable {w w' : World} {base base' : Nat} {R R' : Nat → Prop} {f g : SpF} {xs ys : List Value} {F G : List Nat}
theorem SOwnT.cons_iff {a : SpD} {k r : SpF} : SOwnT w base R (.cons a k r) xs F ↔ ∃ cs ys F1 F2, xs = cs ++ ys ∧ F = F1 ++ F2 ∧ OwnX w base R cs (a, k) F1 ∧ SOwnT w base R r ys F2 := by
 constructor
 ·intro ⟨cs, ys, zs, F0, F2, v, h1, h2, h3, h4, h5, h6, h7, h8⟩
  exact ⟨cs, ys, _, F2, h1, h2, ⟨v, h3, h4, h5, zs, F0, rfl, h6, h7⟩, h8⟩
 ·intro ⟨cs, ys, F1, F2, h1, h2, ⟨v, h3, h4, h5, zs, F0, h9, h6, h7⟩, h8⟩
  exact ⟨cs, ys, zs, F0, F2, v, h1, by rw [h2, h9], h3, h4, h5, h6, h7, h8⟩
theorem SOwnT.keep (hR : ∀ g, R g → w'.heap[g]? = w.heap[g]?) (hRR : ∀ g, R g → R' g) (hb : base' ≤ base) : ∀ {f : SpF} {xs : List Value} {F : List Nat}, (∀ g, g ∈ F → w'.heap[g]? = w.heap[g]?) → SOwnT w base R f xs F → SOwnT w' base' R' f xs F := by
 intro f
 induction f with
 | nil => intro xs F _ h; exact h
 | cons a k r ihk ihr =>
  intro xs F hF ⟨cs, ys, zs, F0, F2, v, h1, h2, h3, h4, h5, h6, h7, h8⟩
  subst h2
  refine ⟨cs, ys, zs, F0, F2, v, h1, rfl, h3, stay_spc _ _ _ _ _ _ hR hRR h4, h5, (h6.keep (fun g hg => hF g (by simp [hg]))).mono hb, ihk (fun g hg => hF g (by simp [hg])) h7, ihr (fun g hg => hF g (by simp [hg])) h8⟩
theorem SOwnU.keep {v : Value} {k : SpF} (h : SOwnU w base R v k F) (hF : ∀ g, g ∈ F → w'.heap[g]? = w.heap[g]?) (hR : ∀ g, R g → w'.heap[g]? = w.heap[g]?) (hRR : ∀ g, R g → R' g) (hb : base' ≤ base) : SOwnU w' base' R' v k F := by
 obtain ⟨zs, F0, rfl, h1, h2⟩ := h
 exact ⟨zs, F0, rfl, (h1.keep (fun g hg => hF g (by simp [hg]))).mono hb, h2.keep hR hRR hb (fun g hg => hF g (by simp [hg]))⟩
theorem OwnX.keep {cs : List Value} {x : Sp} (h : OwnX w base R cs x F) (hF : ∀ g, g ∈ F → w'.heap[g]? = w.heap[g]?) (hR : ∀ g, R g → w'.heap[g]? = w.heap[g]?) (hRR : ∀ g, R g → R' g) (hb : base' ≤ base) : OwnX w' base' R' cs x F := by
 obtain ⟨v, h1, h2, h3, h4⟩ := h
 exact ⟨v, h1, stay_spc _ _ _ _ _ _ hR hRR h2, h3, h4.keep hF hR hRR hb⟩
theorem SOwnT.fresh : ∀ {f : SpF} {xs : List Value} {F : List Nat}, SOwnT w base R f xs F → ∀ g, g ∈ F → Fresh base w g := by
 intro f
 induction f with
 | nil => intro xs F h g hg; rw [h.2] at hg; cases hg
 | cons a k r ihk ihr =>
  intro xs F ⟨cs, ys, zs, F0, F2, v, h1, h2, h3, h4, h5, h6, h7, h8⟩ g hg
  subst h2
  simp only [List.mem_append, Option.mem_toList] at hg
  rcases hg with (hg | hg) | hg
  ·exact h6.fresh hg
  ·exact ihk h7 g hg
  ·exact ihr h8 g hg
theorem SOwnU.fresh {v : Value} {k : SpF} (h : SOwnU w base R v k F) : ∀ g, g ∈ F → Fresh base w g := by
 obtain ⟨zs, F0, rfl, h1, h2⟩ := h
 intro g hg
 simp only [List.mem_append, Option.mem_toList] at hg
 rcases hg with hg | hg
 ·exact h1.fresh hg
 ·exact h2.fresh g hg
theorem OwnX.fresh {cs : List Value} {x : Sp} (h : OwnX w base R cs x F) : ∀ g, g ∈ F → Fresh base w g := by
 obtain ⟨v, _, _, _, h4⟩ := h
 exact h4.fresh
theorem OwnK.sfrv {S : Nat → Prop} {v : Value} {k : SpF} (h : OwnK 34 9 w base v k.len xs) (hr : rowG SpcD 9 8 w S R xs k) (hS : ∀ g, v.ownBlock = some g → S g) : FrV SpcD 9 8 w S R v k := by
 have hh := h
 rcases h.2 with ⟨rfl, h0⟩ | ⟨g, cap, cur, rfl, hb, hg, hnc, hcm, hcs, ht⟩
 ·exact ⟨none, 0, by rw [h0], by omega, fun h => absurd h (by omega)⟩
 ·refine ⟨_, cap, rfl, hnc, fun h0 => ⟨g, 0, rfl, hS g rfl, hr.at (fun j u hj => ?_)⟩⟩
  have hjl : j < xs.length := (List.getElem?_eq_some_iff.1 hj).1
  have hxl : xs.length = k.len * 9 := h.1
  rw [World.ownsRow.cellAt hh (0 + j) (by omega), Nat.zero_add, hj]
theorem SOwnT.row {S : Nat → Prop} : ∀ {f : SpF} {xs : List Value} {F : List Nat}, (∀ g, g ∈ F → S g) → SOwnT w base R f xs F → rowG SpcD 9 8 w S R xs f := by
 intro f
 induction f with
 | nil => intro xs F _ h; exact h.1
 | cons a k r ihk ihr =>
  intro xs F hF ⟨cs, ys, zs, F0, F2, v, h1, h2, h3, h4, h5, h6, h7, h8⟩
  subst h2
  exact ⟨cs, ys, h1, ⟨h3, h4, v, h5, h6.sfrv (ihk (fun g hg => hF g (by simp [hg])) h7) (fun g hg => hF g (by simp [hg]))⟩, ihr (fun g hg => hF g (by simp [hg])) h8⟩
theorem SOwnU.frv {v : Value} {k : SpF} (h : SOwnU w base R v k F) : FrV SpcD 9 8 w (fun g => g ∈ F) R v k := by
 obtain ⟨zs, F0, rfl, h1, h2⟩ := h
 exact h1.sfrv (h2.row (fun g hg => by simp [hg])) (fun g hg => by simp [hg])
theorem OwnX.spn {cs : List Value} {x : Sp} (h : OwnX w base R cs x F) : SpN w (fun g => g ∈ F) R cs x := by
 obtain ⟨v, h1, h2, h3, h4⟩ := h
 exact ⟨h1, h2, v, h3, h4.frv⟩
theorem OwnX.lt {cs : List Value} {x : Sp} (h : OwnX w base R cs x F) : ∀ g, g ∈ F → g < w.heap.size := fun g hg => (h.fresh g hg).lt
theorem SOwnT.app (h2 : SOwnT w base R g ys G) : ∀ {f : SpF} {xs : List Value} {F : List Nat}, SOwnT w base R f xs F → SOwnT w base R (f.app g) (xs ++ ys) (F ++ G) := by
 intro f
 induction f with
 | nil => intro xs F h; rw [h.1, h.2]; exact h2
 | cons a k r ihk ihr =>
  intro xs F ⟨cs, zs, us, F0, F2, v, h1, h2, h3, h4, h5, h6, h7, h8⟩
  subst h1 h2
  exact ⟨cs, zs ++ ys, us, F0, F2 ++ G, v, by simp, by simp, h3, h4, h5, h6, h7, ihr h8⟩
theorem SOwnT.one {cs : List Value} {x : Sp} (h : OwnX w base R cs x F) : SOwnT w base R (.cons x.1 x.2 .nil) cs F := SOwnT.cons_iff.2 ⟨cs, [], F, [], by simp, by simp, h, rfl, rfl⟩
theorem SOwnT.split (n : Nat) : ∀ {f : SpF} {xs : List Value} {F : List Nat}, SOwnT w base R f xs F → ∃ xs1 xs2 F1 F2, xs = xs1 ++ xs2 ∧ F = F1 ++ F2 ∧ SOwnT w base R (Fr.take n f) xs1 F1 ∧ SOwnT w base R (Fr.drop n f) xs2 F2 := by
 induction n with
 | zero => intro f xs F h; exact ⟨[], xs, [], F, rfl, rfl, by cases f <;> exact ⟨rfl, rfl⟩, by cases f <;> exact h⟩
 | succ n ih =>
  intro f xs F h
  cases f with
  | nil => exact ⟨[], xs, [], F, rfl, rfl, ⟨rfl, rfl⟩, h⟩
  | cons a k r =>
   obtain ⟨cs, ys, F1, F2, rfl, rfl, h1, h2⟩ := SOwnT.cons_iff.1 h
   obtain ⟨ys1, ys2, G1, G2, rfl, rfl, h3, h4⟩ := ih h2
   exact ⟨cs ++ ys1, ys2, F1 ++ G1, G2, by simp, by simp, SOwnT.cons_iff.2 ⟨cs, ys1, F1, G1, rfl, rfl, h1, h3⟩, h4⟩
theorem SOwnT.len (h : SOwnT w base R f xs F) : xs.length = f.len * 9 := (h.row (S := fun g => g ∈ F) (fun _ h => h)).len
theorem SOwnT.at (h : SOwnT w base R f xs F) {i : Nat} {y : Sp} (hy : f.get? i = some y) : ∃ xs1 cs xs2 F1 Fk F2, xs = xs1 ++ (cs ++ xs2) ∧ F = F1 ++ (Fk ++ F2) ∧ xs1.length = i * 9 ∧ SOwnT w base R (Fr.take i f) xs1 F1 ∧ OwnX w base R cs y Fk ∧ SOwnT w base R (Fr.drop (i + 1) f) xs2 F2 := by
 obtain ⟨xs1, xs2, F1, F2, rfl, rfl, h1, h2⟩ := h.split i
 obtain ⟨a, k⟩ := y
 rw [(Fr.get_drop hy).1] at h2
 obtain ⟨cs, ys, G1, G2, rfl, rfl, h3, h4⟩ := SOwnT.cons_iff.1 h2
 exact ⟨xs1, cs, ys, F1, G1, G2, rfl, rfl, by rw [h1.len, Fr.len_take _ _ (by have := Fr.get_lt hy; omega)], h1, h3, h4⟩
theorem SOwnT.upd {i : Nat} {y : Sp} {xs1 xs2 cs : List Value} {F1 F2 Fk : List Nat} (h1 : SOwnT w base R (Fr.take i f) xs1 F1) (h2 : OwnX w base R cs y Fk) (h3 : SOwnT w base R (Fr.drop (i + 1) f) xs2 F2) : SOwnT w base R (supdF i y f) (xs1 ++ (cs ++ xs2)) (F1 ++ (Fk ++ F2)) :=
 SOwnT.app (SOwnT.cons_iff.2 ⟨cs, xs2, Fk, F2, rfl, rfl, h2, h3⟩) h1
end
def SKeeps (base : Nat) (F : List Nat) (w w' : World) : Prop := Below base w w' ∧ ∀ g, g < w.heap.size → g ∉ F → w'.heap[g]? = w.heap[g]?
theorem SKeeps.refl (base : Nat) (F : List Nat) (w : World) : SKeeps base F w w := ⟨Below.refl _ _, fun _ _ _ => rfl⟩
theorem SKeeps.trans {base : Nat} {F G : List Nat} {a b c : World} (h : SKeeps base F a b) (k : SKeeps base G b c) (hG : ∀ g, g ∈ G → g ∈ F ∨ a.heap.size ≤ g) : SKeeps base F a c :=
 ⟨h.1.trans k.1, fun g hg hF => (k.2 g (Nat.lt_of_lt_of_le hg h.1.size) (fun hm => by rcases hG g hm with h' | h'; exact hF h'; omega)).trans (h.2 g hg hF)⟩
def NewX (base : Nat) (w : World) (cs : List Value) (x : Sp) : Prop := ∃ F R, F.Nodup ∧ (∀ g, R g → Fresh base w g ∧ g ∉ F) ∧ OwnX w base R cs x F
theorem NewX.new {base : Nat} {w : World} {cs : List Value} {x : Sp} (h : NewX base w cs x) : NewSp base w cs x := by
 obtain ⟨F, R, h1, h2, h3⟩ := h
 exact ⟨fun g => g ∈ F, R, h3.fresh, h2, h3.spn⟩
structure Sit (w : World) (base : Nat) (R : Nat → Prop) (B : Nat) (F : List Nat) (cs : List Value) (x : Sp) : Prop where
 box : Blk w B 34 cs.toArray
 own : OwnX w base R cs x F
 nd : (B :: F).Nodup
 rlt : ∀ g, R g → g < w.heap.size ∧ g ≠ B ∧ g ∉ F
 hb : base ≤ B
def ChgP (base : Nat) (R : Nat → Prop) (B : Nat) (F : List Nat) (x : Sp) (w : World) (r : Ending) (w' : World) : Prop :=
 r = .returned (.tuple #[]) ∧ ∃ cs F', Sit w' base R B F' cs x ∧ SKeeps base (B :: F) w w' ∧ ∀ g, g ∈ F' → g ∈ F ∨ w.heap.size ≤ g
theorem SpcD.last {w : World} {R : Nat → Prop} {hd : List Value} {v v' : Value} {a : SpD} (h : SpcD w R (hd ++ [v]) a) (hv : v'.oneCell' = true) : SpcD w R (hd ++ [v']) a := by
 obtain ⟨nv, kv, d, e, h2, h3, h4⟩ := h
 have e2 : hd ++ [v] = [.string (txt a.name), .int .i64 (a.kind : Int), .int .i64 (a.typ : Int), .int .u64 (a.low : Int), .int .u64 (a.high : Int), nv, .bool a.must, .int .i64 (a.most : Int)] ++ [kv] := e
 obtain ⟨e3, -⟩ := List.append_inj' e2 rfl
 exact ⟨nv, v', d, by rw [e3]; rfl, h2, h3, hv⟩
theorem SpcD.len {w : World} {R : Nat → Prop} {cs : List Value} {a : SpD} (h : SpcD w R cs a) : cs.length = 9 := by
 obtain ⟨nv, kv, d, e, _⟩ := h
 rw [e]; rfl
theorem SpcD.oneC {w : World} {R : Nat → Prop} {cs : List Value} {a : SpD} (h : SpcD w R cs a) : ∀ u ∈ cs, u.oneCell' = true := one_spc _ _ _ _ h
theorem last_at {hd : List Value} {v : Value} (h : hd.length = 8) : (hd ++ [v])[8]? = some v := by rw [List.getElem?_append_right (by omega), h]; rfl
theorem last_set {hd : List Value} {v v' : Value} (h : hd.length = 8) : ((hd ++ [v]).toArray.setIfInBounds 8 v') = (hd ++ [v']).toArray := by
 rw [List.setIfInBounds_toArray, List.set_append_right _ _ (by omega), h]; rfl
theorem after_sit {w wa w3 : World} {base B : Nat} {R : Nat → Prop} {hd zs lc : List Value} {F0 : List Nat} {v v' : Value} {x : Sp} {d : SpD}
  (box : Blk w B 34 (hd ++ [v]).toArray) (hl : hd.length = 8) (hD : SpcD w R (hd ++ [v]) x.1) (hk : OwnK 34 9 w base v x.2.len zs) (ht : SOwnT w base R x.2 zs F0)
  (nd : (B :: (v.ownBlock.toList ++ F0)).Nodup) (rlt : ∀ g, R g → g < w.heap.size ∧ g ≠ B ∧ g ∉ v.ownBlock.toList ++ F0) (hb : base ≤ B) (hwa : Below w.heap.size w wa)
  (hap : AppK 34 9 wa base v (x.2.len + 1) (zs ++ lc) v' w3) (hld : SpcD w R lc d) (hl8 : lc[8]? = some (.slice none 0 0)) :
  ∃ F', Sit (w3.setCell ⟨B, 8, none⟩ v') base R B F' (hd ++ [v']) (x.1, x.2.app (.cons d .nil .nil)) ∧ SKeeps base (B :: (v.ownBlock.toList ++ F0)) w (w3.setCell ⟨B, 8, none⟩ v') ∧ ∀ g, g ∈ F' → g ∈ v.ownBlock.toList ++ F0 ∨ w.heap.size ≤ g := by
 have hBl := box.lt
 simp only [List.nodup_cons, List.mem_append, Option.mem_toList, not_or, List.nodup_append] at nd
 obtain ⟨⟨nB1, nB2⟩, -, nd0, ndd⟩ := nd
 have hF0 : ∀ g, g ∈ F0 → Fresh base w g := ht.fresh
 have hne : ∀ g, g ∈ F0 → v.ownBlock ≠ some g := fun g hg e => ndd g (by simpa using e) g hg rfl
 -- what is kept
 have kept : ∀ g, g < w.heap.size → g ≠ B → v.ownBlock ≠ some g → (w3.setCell ⟨B, 8, none⟩ v').heap[g]? = w.heap[g]? := fun g hg h1 h2 =>
  (Below.heap_setCell _ _ _ _ h1).trans ((hap.2.1.block g (Nat.lt_of_lt_of_le hg hwa.size) (fun e => h2 e.symm)).trans (hwa.block g hg))
 have hsz : w.heap.size ≤ w3.heap.size := Nat.le_trans hwa.size hap.2.1.size
 have hsz2 : (w3.setCell ⟨B, 8, none⟩ v').heap.size = w3.heap.size := by simp [World.setCell]
 have hR : ∀ g, R g → (w3.setCell ⟨B, 8, none⟩ v').heap[g]? = w.heap[g]? := fun g hg => by
  obtain ⟨h1, h2, h3⟩ := rlt g hg
  simp only [List.mem_append, Option.mem_toList, not_or] at h3
  exact kept g h1 h2 h3.1
 have hv' : ∀ g, v'.ownBlock = some g → g ≠ B ∧ g ∉ F0 ∧ ((v.ownBlock = some g) ∨ w.heap.size ≤ g) := by
  intro g hg
  rcases hap.2.2.1 with h | h
  ·rw [hg] at h
   exact ⟨fun e => nB1 (by rw [← e]; exact h.symm), fun hm => hne g hm h.symm, .inl h.symm⟩
  ·rw [hg] at h
   injection h with h
   have := hwa.size
   exact ⟨by omega, fun hm => by have := (hF0 g hm).lt; omega, .inr (by omega)⟩
 have hone : v'.oneCell' = true := by obtain ⟨g, c, e⟩ := hap.2.2.2; rw [e]; rfl
 refine ⟨v'.ownBlock.toList ++ (F0 ++ []), ⟨?_, ?_, ?_, ?_, hb⟩, ⟨?_, ?_⟩, ?_⟩
 ·have h1 : Blk wa B 34 (hd ++ [v]).toArray := box.below hwa hBl
  have h2 : Blk w3 B 34 (hd ++ [v]).toArray := h1.grown hap.2.1 (fun e => nB1 e.symm)
  have h3 := h2.set_ 8 v'
  rw [last_set hl] at h3
  exact h3
 ·have hD2 : SpcD (w3.setCell ⟨B, 8, none⟩ v') R (hd ++ [v']) x.1 := stay_spc _ _ _ _ _ _ hR (fun _ h => h) (hD.last hone)
  refine ⟨v', by simp [hl], hD2, last_at hl, zs ++ lc, F0 ++ [], rfl, ?_, ?_⟩
  ·have e : (x.2.app (.cons d .nil .nil)).len = x.2.len + 1 := by rw [Fr.len_app]; rfl
   rw [e]
   exact hap.1.keep (fun g hg => Below.heap_setCell _ _ _ _ (hv' g hg).1)
  ·refine SOwnT.app (SOwnT.one (x := (d, .nil)) ⟨.slice none 0 0, hld.len, stay_spc _ _ _ _ _ _ hR (fun _ h => h) hld, hl8, [], [], rfl, OwnK.nil _ _ _ _, rfl, rfl⟩) ?_
   exact ht.keep hR (fun _ h => h) (Nat.le_refl _) (fun g hg => kept g (hF0 g hg).lt (fun e => nB2 (e ▸ hg)) (hne g hg))
 ·simp only [List.append_nil, List.nodup_cons, List.mem_append, Option.mem_toList, not_or, List.nodup_append]
  refine ⟨⟨fun e => (hv' B e).1 rfl, nB2⟩, ?_, nd0, fun a ha b hb' e => ?_⟩
  ·cases v'.ownBlock <;> simp
  ·subst e; exact (hv' a (by simpa using ha)).2.1 hb'
 ·intro g hg
  obtain ⟨h1, h2, h3⟩ := rlt g hg
  simp only [List.mem_append, Option.mem_toList, not_or] at h3
  refine ⟨by omega, h2, ?_⟩
  simp only [List.append_nil, List.mem_append, Option.mem_toList, not_or]
  refine ⟨fun e => ?_, h3.2⟩
  rcases (hv' g e).2.2 with h | h
  ·exact h3.1 h
  ·omega
 ·exact ((hwa.mono (by omega)).trans ((Below.refl _ _).grown hap.2.1 (by have := hwa.size; omega) (fun g hg => (hk.fresh hg).1))).setCell (p := ⟨B, 8, none⟩) hb _
 ·intro g hg hn
  simp only [List.mem_cons, List.mem_append, Option.mem_toList, not_or] at hn
  exact kept g hg hn.1 hn.2.1
 ·intro g hg
  simp only [List.append_nil, List.mem_append, Option.mem_toList] at hg ⊢
  rcases hg with hg | hg
  ·rcases (hv' g hg).2.2 with h | h
   ·exact .inl (.inl h)
   ·exact .inr h
  ·exact .inl (.inr hg)
theorem named_sit {w : World} {base B : Nat} {R : Nat → Prop} {F : List Nat} {x : Sp} {cs : List Value} (n : List UInt8) (h : Sit w base R B F cs x) :
  ∃ cs' F', Sit (w.setCell ⟨B, 0, none⟩ (.string (txt n))) base R B F' cs' ({ x.1 with name := n }, x.2) ∧ SKeeps base (B :: F) w (w.setCell ⟨B, 0, none⟩ (.string (txt n))) ∧ ∀ g, g ∈ F' → g ∈ F ∨ w.heap.size ≤ g := by
 obtain ⟨box, ⟨v, h1, ⟨nv, kv, d, e, h2, h3, h4⟩, h5, h6⟩, nd, rlt, hb⟩ := h
 subst e
 simp at h5
 subst h5
 have kept : ∀ g, g ≠ B → (w.setCell ⟨B, 0, none⟩ (.string (txt n))).heap[g]? = w.heap[g]? := fun g hg => Below.heap_setCell _ _ _ _ hg
 have hsz : (w.setCell ⟨B, 0, none⟩ (.string (txt n))).heap.size = w.heap.size := by simp [World.setCell]
 have nB : ∀ g, g ∈ F → g ≠ B := fun g hg e => (List.nodup_cons.1 nd).1 (e ▸ hg)
 refine ⟨_, F, ⟨box.set_ 0 _, ⟨kv, rfl, stay_spc _ _ _ _ _ _ (fun g hg => kept g (rlt g hg).2.1) (fun _ h => h) ⟨nv, kv, d, rfl, h2, h3, h4⟩, rfl, h6.keep (fun g hg => kept g (nB g hg)) (fun g hg => kept g (rlt g hg).2.1) (fun _ h => h) (Nat.le_refl _)⟩, nd, fun g hg => ?_, hb⟩,
  ⟨(Below.refl _ _).setCell (p := ⟨B, 0, none⟩) hb _, fun g _ hn => kept g (fun e => hn (by simp [e]))⟩, fun g hg => .inl hg⟩
 rw [hsz]
 exact rlt g hg
end Go.Proofs.YtikmilcdibldhaaDoor
namespace Go.Proofs.YtikmilcdibldhaaDoor
open Go.RowKit
theorem Blk.new_at {w : World} {g : Nat} (h : w.heap.size = g) (t : TypeId) (cs : Array Value) : Blk (w.alloc (.cells cs t)) g t cs := by subst h; exact Blk.new w t cs
def RetC (cs : List Value) (w : World) (r : Ending) (w' : World) : Prop := r = .returned (.agg cs.toArray) ∧ Below w.heap.size w w'
set_option maxRecDepth 100000 in
theorem leaf_any (n : List UInt8) (t : Nat) (w : World) : Calls Tryd.prog 49 #[.string (txt n), .int .i64 (t : Int)] w (RetC (spC ⟨n, 1, t, 0, 0, [], false, 0⟩ (.slice none 0 0) (.slice none 0 0)) w) := by
 go_enter Tryd.func49, Tryd.ntmps49
 go_wp2
 exact bodyPost_ret (results_cell_row rfl _ _ w.heap.size 34 _ (0, 0) _ rfl (heap_alloc_new w _) Tryd.underlying34 rfl (by kernel_rfl)) rfl ⟨rfl, (Below.refl _ _).alloc (Nat.le_refl _) _⟩
set_option maxRecDepth 100000 in
theorem number_any (n : List UInt8) (t lo hi : Nat) (w : World) : Calls Tryd.prog 52 #[.string (txt n), .int .i64 (t : Int), .int .u64 (lo : Int), .int .u64 (hi : Int)] w (RetC (spC ⟨n, 1, t, lo, hi, [], false, 0⟩ (.slice none 0 0) (.slice none 0 0)) w) := by
 go_enter Tryd.func52, Tryd.ntmps52
 go_wp2
 exact bodyPost_ret (results_cell_row rfl _ _ w.heap.size 34 _ (0, 0) _ rfl (heap_alloc_new w _) Tryd.underlying34 rfl (by kernel_rfl)) rfl ⟨rfl, (Below.refl _ _).alloc (Nat.le_refl _) _⟩
set_option maxRecDepth 100000 in
theorem choice_any (n : List UInt8) (l : List (List UInt8)) (A : Option Addr) (m c : Nat) (w : World) : Calls Tryd.prog 56 #[.string (txt n), .slice A m c] w (RetC (spC ⟨n, 1, 4, 0, 0, l, false, 0⟩ (.slice A m c) (.slice none 0 0)) w) := by
 go_enter Tryd.func56, Tryd.ntmps56
 go_wp2
 exact bodyPost_ret (results_cell_row rfl _ _ w.heap.size 34 _ (0, 0) _ rfl (heap_alloc_new w _) Tryd.underlying34 rfl (by kernel_rfl)) rfl ⟨rfl, (Below.refl _ _).alloc (Nat.le_refl _) _⟩
set_option maxRecDepth 100000 in
theorem box_any (n : List UInt8) (A : Option Addr) (m c : Nat) (w : World) : Calls Tryd.prog 48 #[.string (txt n), .slice A m c] w (RetC (spC ⟨n, 2, 0, 0, 0, [], false, 0⟩ (.slice none 0 0) (.slice A m c)) w) := by
 go_enter Tryd.func48, Tryd.ntmps48
 go_wp2
 exact bodyPost_ret (results_cell_row rfl _ _ w.heap.size 34 _ (0, 0) _ rfl (heap_alloc_new w _) Tryd.underlying34 rfl (by kernel_rfl)) rfl ⟨rfl, (Below.refl _ _).alloc (Nat.le_refl _) _⟩
set_option maxRecDepth 100000 in
theorem list_any (n : List UInt8) (most : Nat) (A : Option Addr) (m c : Nat) (w : World) : Calls Tryd.prog 50 #[.string (txt n), .int .i64 (most : Int), .slice A m c] w (RetC (spC ⟨n, 3, 0, 0, 0, [], false, most⟩ (.slice none 0 0) (.slice A m c)) w) := by
 go_enter Tryd.func50, Tryd.ntmps50
 go_wp2
 exact bodyPost_ret (results_cell_row rfl _ _ w.heap.size 34 _ (0, 0) _ rfl (heap_alloc_new w _) Tryd.underlying34 rfl (by kernel_rfl)) rfl ⟨rfl, (Below.refl _ _).alloc (Nat.le_refl _) _⟩
set_option maxRecDepth 100000 in
set_option maxHeartbeats 1000000 in
theorem must_any (a : SpD) (B A : Option Addr) (m c k d : Nat) (w : World) : Calls Tryd.prog 51 #[.agg (spC a (.slice B m c) (.slice A k d)).toArray] w (RetC (spC { a with must := true } (.slice B m c) (.slice A k d)) w) := by
 obtain ⟨v, hv⟩ : ∃ v, v = spC { a with must := true } (.slice B m c) (.slice A k d) := ⟨_, rfl⟩
 have HV := Lib.hid hv
 rw [← hv]
 clear hv
 unfold spC
 go_enter Tryd.func51, Tryd.ntmps51
 go_wp2
 refine bodyPost_ret (results_cell_row rfl _ _ (w.heap.size + 1) 34 _ (0, 0) _ rfl (Blk.new_at (by simp) _ _) Tryd.underlying34 rfl (by kernel_rfl)) rfl ⟨by rw [HV.out]; rfl, ((Below.refl _ _).alloc (Nat.le_refl _) _).alloc (by simp) _⟩
end Go.Proofs.YtikmilcdibldhaaDoor
