/- RngHeld VadStp -/
import Derived.Test.YtodlhgflfcadmaaGreatUM12
import Derived.OrdersIn
import Derived.Test.YtodlhgflfcadmaaGreatUM11
set_option linter.unusedSimpArgs false
set_option linter.unusedVariables false
set_option maxRecDepth 100000
set_option maxHeartbeats 8000000
namespace Go.Proofs.YtodlhgflfcadmaaGreat
open Go.RowKit
abbrev wideR (ro : Option Nat) : Fence := { Fence.wide with round := ro }
def calmO (o : Oper) : Bool := match o.op with
 | .select .. => false
 | .defer _ => false
 | _ => true
def calmB (ops : Array Oper) : Bool := ops.all calmO
theorem calm_select {o : Oper} (h : calmO o = true) (cs : Array SelectCase) (b : Bool) : o.op ≠ .select cs b := fun e => by simp [calmO, e] at h
theorem calm_defer {o : Oper} (h : calmO o = true) (c : Call) : o.op ≠ .defer c := fun e => by simp [calmO, e] at h
theorem calm_at {ops : Array Oper} (h : calmB ops = true) {i : Nat} {o : Oper} (hi : ops[i]? = some o) : calmO o = true :=
 Array.all_eq_true_iff_forall_mem.1 h o (Array.mem_of_getElem? hi)
section
variable {ro : Option Nat} {n : Nat} {P : Program} {ops : Array Oper} {Q : Exit → Act → World → Prop} {S : World → Prop}
theorem calls_wideR {f : FuncId} {args : Array Value} {w : World} {R : Ending → World → Prop} (h : Calls P f args w R) : CallsIn (wideR ro) n P f args w R := (callsIn_wide (n := n)).2 h
theorem rows_wideR {r : String} {args : Array Value} {w : World} {R : Value → World → Prop} (h : Rows P r args w R) : RowsIn (wideR ro) n P r args w R := fun c cs _ => by
 obtain ⟨v, w', hr, hs⟩ := h c cs
 exact ⟨v, w', hr, stepsIn_wide.2 hs⟩
theorem opIn_of {o : Oper} (hc : calmO o = true) {a : Act} {w : World} {K : Act → World → Prop} (h : o.wp P a w K Q) : o.wpIn (wideR ro) n P a w K Q := by
 refine ⟨fun f _ => trivial, ?_⟩
 rw [Oper.semAt_eq _ _ _ (calm_defer hc)]
 unfold Oper.wp at h
 generalize (execOp a.eval o).run P w = r at *
 cases r with
 | ok x w' =>
  cases x with
  | enter f args => exact ⟨fun hd => by simp [Fence.wide] at hd, calls_wideR h⟩
  | row r args => exact ⟨fun hd => by simp [Fence.wide] at hd, rows_wideR h⟩
  | value v => exact h
  | skip => exact h
  | defer d => exact h
  | round => exact h.elim
  | _ => exact h.elim
 | halt x w' => cases x <;> exact h
theorem opIn_yield {o : Oper} {a : Act} {w : World} {K : Act → World → Prop} {l : Nat} {args : Array Value} {R : Ending → World → Prop} (hc : calmO o = true)
  (hrun : ∀ fn tmps assign body, (Instr.yield l args).run P w = .ok (.round l fn tmps assign body) w → (execOp a.eval o).run P w = .ok (.round l fn tmps assign body) w)
  (hy : ∀ m, YieldAt Fence.wide m P l args w R) (hR : ∀ e w', R e w' → ∃ v, e = .returned v ∧ K (a.put o.dst v) w') : o.wpIn (wideR ro) n P a w K Q := by
 refine ⟨fun f _ => trivial, ?_⟩
 rw [Oper.semAt_eq _ _ _ (calm_defer hc)]
 obtain ⟨fn, tmps, assign, body, h1, h2⟩ := hy (n - 1)
 rw [hrun _ _ _ _ h1]
 refine ⟨fun hd => by simp [Fence.wide] at hd, RoundIn.mono (F := Fence.wide) h2 fun e w' he => ?_⟩
 obtain ⟨v, rfl, hv⟩ := hR e w' he
 exact hv
def HeldI (ro : Option Nat) (n : Nat) (P : Program) (ops : Array Oper) (Q : Exit → Act → World → Prop) (D : List Nat) : (World → Prop) → Nat → Array Bool → Act → World → Prop
 | _, 0, listed, a, w => Region.ready .any ops listed = [] ∧ Q .normal a w
 | S, fuel + 1, listed, a, w => (Region.ready .any ops listed = [] → Q .normal a w) ∧
   ∀ i ∈ Region.ready .any ops listed, wpOpIn (wideR ro) n P ops Q i (fun a' w' => if D.contains i = true then HeldI ro n P ops Q D (fun _ => True) fuel (listed.setIfInBounds i true) a' w' else S w' ∧ HeldI ro n P ops Q D S fuel (listed.setIfInBounds i true) a' w') a w
variable {D : List Nat}
theorem heldI_any : ∀ (S : World → Prop) (fuel : Nat) (listed : Array Bool) (a : Act) (w : World), HeldI ro n P ops Q D S fuel listed a w → wpAnyIn (wideR ro) n P .any ops Q fuel listed a w
 | _, 0, _, _, _, h => h
 | S, fuel + 1, _, _, _, h => ⟨h.1, fun i hi => wpOpIn_mono (fun a' w' h' => by
   split at h'
   ·exact heldI_any _ fuel _ a' w' h'
   ·exact heldI_any _ fuel _ a' w' h'.2) (h.2 i hi)⟩
theorem heldI_more {S' : World → Prop} (h : ∀ w, S' w → S w) : ∀ (fuel : Nat) (listed : Array Bool) (a : Act) (w : World), HeldI ro n P ops Q D S' fuel listed a w → HeldI ro n P ops Q D S fuel listed a w
 | 0, _, _, _, hw => hw
 | fuel + 1, _, _, _, hw => ⟨hw.1, fun i hi => wpOpIn_mono (fun _ _ hq => by
   split at hq
   ·rename_i hd; rw [if_pos hd]; exact hq
   ·rename_i hd; rw [if_neg hd]; exact ⟨h _ hq.1, heldI_more h fuel _ _ _ hq.2⟩) (hw.2 i hi)⟩
theorem opI_first {i : Nat} {o : Oper} {v : Value} {a : Act} (hi : ops[i]? = some o) (hc : calmO o = true) (hy : YieldsIf P ops S o v a) {K : Act → World → Prop} {w : World} (hS : S w) (h : K (a.put o.dst v) w) :
  wpOpIn (wideR ro) n P ops Q i K a w := by
 unfold wpOpIn
 simp only [hi]
 rcases hy with ⟨hw, hv⟩ | ⟨hw, rfl⟩
 ·simp only [hw, if_true]
  refine ⟨fun f _ => trivial, ?_⟩
  rw [Oper.semAt_eq _ _ _ (calm_defer hc), hv w hS]
  exact h
 ·simp only [hw, Bool.false_eq_true, if_false]
  exact ⟨fun f _ => trivial, h⟩
theorem opI_other {j : Nat} {oi oj : Oper} {v : Value} (hj : ops[j]? = some oj) (hci : calmO oi = true) (hcj : calmO oj = true) (hap : oi.apart ops oj = true)
  (hQ : ∀ c a w, Q (.panic c) (a.put oi.dst v) w → Q (.panic c) a w) {K : Act → World → Prop} {a : Act} {w : World} (hy : YieldsIf P ops S oi v a) (h : wpOpIn (wideR ro) n P ops Q j K (a.put oi.dst v) w) :
  wpOpIn (wideR ro) n P ops Q j (fun a' w' => YieldsIf P ops S oi v a' ∧ K (a'.put oi.dst v) w') a w := by
 obtain ⟨h1, h2, h3⟩ := Oper.apart_spec hap
 have keep : ∀ u, YieldsIf P ops S oi v (a.put oj.dst u) := fun u => hy.of_same (execOp_put oi (calm_select hci) a oj.dst u h3) (wanted_put oi a oj.dst u h3)
 have turn : ∀ u {w'}, K ((a.put oi.dst v).put oj.dst u) w' → YieldsIf P ops S oi v (a.put oj.dst u) ∧ K ((a.put oj.dst u).put oi.dst v) w' := fun u {w'} hk => ⟨keep u, by rw [← Act.put_comm a v u h2]; exact hk⟩
 unfold wpOpIn at *
 simp only [hj] at *
 rw [wanted_put oj a oi.dst v h1] at h
 cases hw : Region.wanted oj (yielded ops a.tmps) with
 | false =>
  simp only [hw, Bool.false_eq_true, if_false] at h ⊢
  exact ⟨fun f _ => trivial, turn _ h.2⟩
 | true =>
  simp only [hw, if_true] at h ⊢
  refine ⟨fun f _ => trivial, ?_⟩
  have h := h.2
  rw [Oper.semAt_eq _ _ _ (calm_defer hcj), execOp_put oj (calm_select hcj) a oi.dst v h1] at h
  rw [Oper.semAt_eq _ _ _ (calm_defer hcj)]
  have hdk : ∀ d, YieldsIf P ops S oi v { a with defers := d :: a.defers } := fun d => hy.of_same rfl rfl
  generalize (execOp a.eval oj).run P w = r at *
  cases r with
  | ok x w' =>
   cases x with
   | value u => exact turn u h
   | skip => exact turn _ h
   | defer d =>
    have e : ({ a with defers := d :: a.defers } : Act).put oi.dst v = { a.put oi.dst v with defers := d :: (a.put oi.dst v).defers } := (Act.put_defers a oi.dst v d).symm
    refine ⟨(hdk d).of_same (execOp_put oi (calm_select hci) _ oj.dst undef h3) (wanted_put oi _ oj.dst undef h3), ?_⟩
    rw [← Act.put_comm _ v undef h2, e]
    exact h
   | enter f args =>
    refine ⟨h.1, CallsIn.mono h.2 fun e w'' he => ?_⟩
    cases e with
    | returned u => exact turn u he
    | panicked c => exact hQ _ _ _ he
    | outgrown => exact he
   | row r args => exact ⟨h.1, RowsIn.mono h.2 fun u w'' he => turn u he⟩
   | round l f tmps assign body =>
    refine ⟨h.1, RoundIn.mono h.2 fun e w'' he => ?_⟩
    cases e with
    | returned u => exact turn u he
    | panicked c => exact hQ _ _ _ he
    | outgrown => exact he
   | _ => exact h.elim
  | halt x w' =>
   cases x with
   | panic u => exact hQ _ _ _ h
   | _ => exact h.elim
def waitB (ops : Array Oper) (D : List Nat) (listed : Array Bool) (i : Nat) (X : List Nat) : Bool :=
 X.all (fun x => !(listed.getD x true)) && X.all (fun x => x == i || ((ops[x]?).map (fun o => o.after.any (fun e => Region.binds .any e && X.contains e.on))).getD false) && D.all (fun d => X.contains d || listed.getD d true)
structure WaitX (ops : Array Oper) (D : List Nat) (listed : Array Bool) (i : Nat) (X : List Nat) : Prop where
 not : ∀ x ∈ X, listed.getD x true = false
 dep : ∀ x ∈ X, x ≠ i → ∃ o, ops[x]? = some o ∧ ∃ e ∈ o.after, Region.binds .any e = true ∧ e.on ∈ X
 all : ∀ d ∈ D, d ∈ X ∨ listed.getD d true = true
theorem WaitX.of {listed : Array Bool} {i : Nat} {X : List Nat} (h : waitB ops D listed i X = true) : WaitX ops D listed i X := by
 unfold waitB at h
 simp only [Bool.and_eq_true, List.all_eq_true] at h
 obtain ⟨⟨h1, h2⟩, h3⟩ := h
 refine ⟨fun x hx => by simpa using h1 x hx, fun x hx hne => ?_, fun d hd => by simpa using h3 d hd⟩
 have h := h2 x hx
 simp only [Bool.or_eq_true, beq_iff_eq, hne, false_or] at h
 cases ho : ops[x]? with
 | none => rw [ho] at h; cases h
 | some o =>
  rw [ho] at h
  simp only [Option.map_some, Option.getD_some, Array.any_eq_true', Bool.and_eq_true, List.contains_iff_mem] at h
  obtain ⟨e, he, hb, hm⟩ := h
  exact ⟨o, rfl, e, he, hb, hm⟩
theorem WaitX.ready {listed : Array Bool} {i j : Nat} {X : List Nat} (h : WaitX ops D listed i X) (hj : j ∈ Region.ready .any ops listed) (hne : j ≠ i) : j ∉ X := by
 intro hx
 obtain ⟨o, ho, e, he, hb, hm⟩ := h.dep j hx hne
 obtain ⟨_, o', ho', hall⟩ := mem_ready.1 hj
 rw [ho] at ho'
 injection ho' with ho'
 subst ho'
 have h1 := hall e he hb
 have h0 := h.not e.on hm
 by_cases hl : e.on < listed.size
 ·rw [Array.getD_eq_getD_getElem?, Array.getElem?_eq_getElem hl] at h0 h1
  simp only [Option.getD_some] at h0 h1
  rw [h0] at h1
  cases h1
 ·rw [Array.getD_eq_getD_getElem?, Array.getElem?_eq_none (by omega)] at h1
  cases h1
theorem WaitX.step {listed : Array Bool} {i j : Nat} {X : List Nat} (h : WaitX ops D listed i X) (hj : j ∈ Region.ready .any ops listed) (hne : j ≠ i) : WaitX ops D (listed.setIfInBounds j true) i X := by
 have hx := h.ready hj hne
 refine ⟨fun x hm => ?_, h.dep, fun d hd => ?_⟩
 ·rw [getD_set_ne true (fun e => hx (by rw [e]; exact hm))]
  exact h.not x hm
 ·rcases h.all d hd with h1 | h1
  ·exact .inl h1
  ·refine .inr ?_
   rcases Decidable.em (j = d) with e | e
   ·subst e
    have h0 := (mem_ready.1 hj).1
    rw [h1] at h0
    cases h0
   ·rw [getD_set_ne true e]; exact h1
theorem heldI_first {i : Nat} {oi : Oper} {v : Value} {X : List Nat} (hi : ops[i]? = some oi) (hc : calmB ops = true) (hQ : ∀ c a w, Q (.panic c) (a.put oi.dst v) w → Q (.panic c) a w) (hiD : D.contains i = false) :
  ∀ (fuel : Nat) (listed : Array Bool) (a : Act) (w : World), WaitX ops D listed i X →
   (∀ j oj, ops[j]? = some oj → j ≠ i → listed.getD j true = false → (∀ e ∈ oj.after, Region.binds .any e = true → e.on ≠ i) → oi.apart ops oj = true) →
   i ∈ Region.ready .any ops listed → YieldsIf P ops S oi v a → S w →
   HeldI ro n P ops Q D S fuel (listed.setIfInBounds i true) (a.put oi.dst v) w → HeldI ro n P ops Q D S (fuel + 1) listed a w := by
 intro fuel
 induction fuel with
 | zero =>
  intro listed a w _ _ hr hy hS H
  refine ⟨fun h => (by rw [h] at hr; cases hr), fun j hj => ?_⟩
  rcases Decidable.em (j = i) with e | e
  ·subst e
   refine opI_first hi (calm_at hc hi) hy hS ?_
   rw [if_neg (by rw [hiD]; decide)]
   exact ⟨hS, H⟩
  ·have h2 := ready_mono hj e
   rw [H.1] at h2
   cases h2
 | succ fuel ih =>
  intro listed a w hX hfree hr hy hS H
  refine ⟨fun h => (by rw [h] at hr; cases hr), fun j hj => ?_⟩
  rcases Decidable.em (j = i) with e | e
  ·subst e
   refine opI_first hi (calm_at hc hi) hy hS ?_
   rw [if_neg (by rw [hiD]; decide)]
   exact ⟨hS, H⟩
  ·obtain ⟨hun, oj, hoj, hall⟩ := mem_ready.1 hj
   have hjD : D.contains j = false := by
    cases hd : D.contains j with
    | false => rfl
    | true =>
     rcases hX.all j (by simpa using hd) with h1 | h1
     ·exact absurd h1 (hX.ready hj e)
     ·rw [h1] at hun; cases hun
   have hno : ∀ e ∈ oj.after, Region.binds .any e = true → e.on ≠ i := fun d hd hb he => by
    have g1 := hall d hd hb
    have g0 := (mem_ready.1 hr).1
    rw [he] at g1
    by_cases hl : i < listed.size
    ·rw [Array.getD_eq_getD_getElem?, Array.getElem?_eq_getElem hl] at g0 g1
     simp only [Option.getD_some] at g0 g1
     rw [g0] at g1
     cases g1
    ·rw [Array.getD_eq_getD_getElem?, Array.getElem?_eq_none (by omega)] at g1
     cases g1
   have h2 := opI_other hoj (calm_at hc hi) (calm_at hc hoj) (hfree j oj hoj e hun hno) hQ hy (H.2 j (ready_mono hj e))
   refine wpOpIn_mono (fun a' w' h3 => ?_) h2
   rw [if_neg (by rw [hjD]; decide)] at h3 ⊢
   refine ⟨h3.2.1, ih _ a' w' (hX.step hj e) (fun k ok hk hki hku hkn => hfree k ok hk hki ?_ hkn) (ready_mono hr (Ne.symm e)) h3.1 h3.2.1 ?_⟩
   ·rcases Decidable.em (j = k) with ek | ek
    ·rw [← ek]; exact hun
    ·rw [getD_set_ne true ek] at hku; exact hku
   ·rw [Array.setIfInBounds_comm _ _ e]
    exact h3.2.2
theorem heldI_take {i : Nat} {X : List Nat} {oi : Oper} {v : Value} {fuel : Nat} {listed : Array Bool} {a : Act} {w : World} (hi : ops[i]? = some oi)
  (hs : calmB ops = true) (hf : Region.free .any ops listed i = true) (hr : (Region.ready .any ops listed).contains i = true) (hX : (!(D.contains i) && waitB ops D listed i X) = true)
  (hQ : ∀ c a w, Q (.panic c) (a.put oi.dst v) w → Q (.panic c) a w) (hy : YieldsIf P ops S oi v a) (hS : S w)
  (h : HeldI ro n P ops Q D S fuel (listed.setIfInBounds i true) (a.put oi.dst v) w) : HeldI ro n P ops Q D S (fuel + 1) listed a w := by
 simp only [Bool.and_eq_true, Bool.not_eq_true'] at hX
 exact heldI_first hi hs hQ hX.1 fuel listed a w (WaitX.of hX.2) (Region.free_spec hi hf) (by simpa using hr) hy hS h
theorem heldI_done {listed : Array Bool} {a : Act} {w : World} (hr : Region.ready .any ops listed = []) (h : Q .normal a w) : ∀ fuel, HeldI ro n P ops Q D S fuel listed a w
 | 0 => ⟨hr, h⟩
 | _ + 1 => ⟨fun _ => h, by rw [hr]; simp⟩
def ReadyI (ro : Option Nat) (n : Nat) (P : Program) (ops : Array Oper) (Q : Exit → Act → World → Prop) (D : List Nat) (S : World → Prop) (fuel : Nat) (listed : Array Bool) (a : Act) (w : World) (rs : List Nat) : Prop :=
 ∀ i ∈ rs, wpOpIn (wideR ro) n P ops Q i (fun a' w' => if D.contains i = true then HeldI ro n P ops Q D (fun _ => True) fuel (listed.setIfInBounds i true) a' w' else S w' ∧ HeldI ro n P ops Q D S fuel (listed.setIfInBounds i true) a' w') a w
theorem ReadyI.nil {fuel : Nat} {listed : Array Bool} {a : Act} {w : World} : ReadyI ro n P ops Q D S fuel listed a w [] := fun _ h => by cases h
theorem wpOpIn_at {i : Nat} {o : Oper} {a : Act} {w : World} {K : Act → World → Prop} (ho : ops[i]? = some o) (h : if Region.wanted o (yielded ops a.tmps) = true then Oper.wpIn (wideR ro) n P o a w K Q else K (a.put o.dst undef) w) : wpOpIn (wideR ro) n P ops Q i K a w := by
 unfold wpOpIn
 simp only [ho]
 split at h
 ·rename_i hw; simp only [hw, if_true]; exact h
 ·rename_i hw
  have hw : Region.wanted o (yielded ops a.tmps) = false := by simpa using hw
  simp only [hw, Bool.false_eq_true, if_false]
  exact ⟨fun f _ => trivial, h⟩
theorem ReadyI.cons {fuel : Nat} {listed : Array Bool} {a : Act} {w : World} {i : Nat} {o : Oper} {rs : List Nat} (ho : ops[i]? = some o) (hd : D.contains i = false)
  (h : ∀ K' : Act → World → Prop, Shut (∀ a w, S w → (S w → HeldI ro n P ops Q D S fuel (listed.setIfInBounds i true) a w) → K' a w) → if Region.wanted o (yielded ops a.tmps) = true then Oper.wpIn (wideR ro) n P o a w K' Q else K' (a.put o.dst undef) w)
  (hs : ReadyI ro n P ops Q D S fuel listed a w rs) : ReadyI ro n P ops Q D S fuel listed a w (i :: rs) := fun j hj => by
 rcases List.mem_cons.1 hj with rfl | hj
 ·exact wpOpIn_at ho (h _ (fun a w hS hW => by rw [if_neg (by rw [hd]; decide)]; exact ⟨hS, hW hS⟩))
 ·exact hs j hj
theorem ReadyI.consD {fuel : Nat} {listed : Array Bool} {a : Act} {w : World} {i : Nat} {o : Oper} {rs : List Nat} (ho : ops[i]? = some o) (hd : D.contains i = true)
  (h : ∀ K' : Act → World → Prop, Shut (∀ a w, HeldI ro n P ops Q D (fun _ => True) fuel (listed.setIfInBounds i true) a w → K' a w) → if Region.wanted o (yielded ops a.tmps) = true then Oper.wpIn (wideR ro) n P o a w K' Q else K' (a.put o.dst undef) w)
  (hs : ReadyI ro n P ops Q D S fuel listed a w rs) : ReadyI ro n P ops Q D S fuel listed a w (i :: rs) := fun j hj => by
 rcases List.mem_cons.1 hj with rfl | hj
 ·exact wpOpIn_at ho (h _ (fun a w hW => by rw [if_pos hd]; exact hW))
 ·exact hs j hj
theorem heldI_ready {rs : List Nat} {fuel : Nat} {listed : Array Bool} {a : Act} {w : World} (hr : Region.ready .any ops listed = rs) (hne : rs ≠ []) (h : ReadyI ro n P ops Q D S fuel listed a w rs) : HeldI ro n P ops Q D S (fuel + 1) listed a w :=
 ⟨fun h0 => absurd (hr ▸ h0) hne, hr ▸ h⟩
theorem wpIn_region_heldI (D : List Nat) {id : Nat} {a : Act} {w : World} (hm : P.follows .mixedOrders = true) (hS : S w.drew) (h : S w.drew → HeldI ro n P ops Q D S ops.size (Array.replicate ops.size false) a w.drew) :
  (Code.region id ops true).wpIn (wideR ro) n P Q a w := wpIn_region_any hm (heldI_any _ _ _ _ _ (h hS))
theorem wpIn_region_calm {id : Nat} {b : Bool} {a : Act} {w : World} (h : (Code.region id ops b).wpIn (wideR ro) n P (NoPanic Q) a w) : (Code.region id ops b).wpIn (wideR ro) n P Q a w :=
 wpIn_mono h NoPanic.imp
end
theorem tkI {ro : Option Nat} {n : Nat} {P : Program} {ops : Array Oper} {Q : Exit → Act → World → Prop} {S : World → Prop} {D : List Nat} (i : Nat) (X : List Nat) {oi : Oper} {v : Value} {fuel : Nat} {listed : Array Bool} {a a' : Act} {w : World} (hS : S w) (h : HeldI ro n P ops Q D S fuel (listed.setIfInBounds i true) a' w)
 (hi : ops[i]? = some oi := by (simp only [layG]; rfl)) (h1 : calmB ops = true := by kernel_rfl) (h2 : Region.free .any ops listed i = true := by kernel_rfl) (h3 : (Region.ready .any ops listed).contains i = true := by kernel_rfl) (h4 : (!D.contains i && waitB ops D listed i X) = true := by kernel_rfl)
 (hw : Region.wanted oi (yielded ops a.tmps) = true := by rfl) (hy : ∀ w, S w → (execOp a.eval oi).run P w = .ok (.value v) w := by (intro w hSw; (go_simp <;> with_reducible rfl)))
 (ha : a.put oi.dst v = a' := by (first | (simp only [Act.put, layS]; rfl) | rfl)) (hQ : ∀ c a w, Q (.panic c) (a.put oi.dst v) w → Q (.panic c) a w := by exact fun _ _ _ h => h) : HeldI ro n P ops Q D S (fuel + 1) listed a w := by
 subst ha; exact heldI_take hi h1 h2 h3 h4 hQ (Or.inl ⟨hw, hy⟩) hS h
theorem tkIo {ro : Option Nat} {n : Nat} {P : Program} {ops : Array Oper} {Q : Exit → Act → World → Prop} {S : World → Prop} {D : List Nat} (i : Nat) (X : List Nat) {oi : Oper} {fuel : Nat} {listed : Array Bool} {a a' : Act} {w : World} (hS : S w) (h : HeldI ro n P ops Q D S fuel (listed.setIfInBounds i true) a' w)
 (hi : ops[i]? = some oi := by (simp only [layG]; rfl)) (h1 : calmB ops = true := by kernel_rfl) (h2 : Region.free .any ops listed i = true := by kernel_rfl) (h3 : (Region.ready .any ops listed).contains i = true := by kernel_rfl) (h4 : (!D.contains i && waitB ops D listed i X) = true := by kernel_rfl)
 (hw : Region.wanted oi (yielded ops a.tmps) = false := by rfl) (ha : a.put oi.dst undef = a' := by (first | (simp only [Act.put, layS]; rfl) | rfl)) (hQ : ∀ c a w, Q (.panic c) (a.put oi.dst undef) w → Q (.panic c) a w := by exact fun _ _ _ h => h) : HeldI ro n P ops Q D S (fuel + 1) listed a w := by
 subst ha; exact heldI_take hi h1 h2 h3 h4 hQ (Or.inr ⟨hw, rfl⟩) hS h
theorem riC {ro : Option Nat} {n : Nat} {P : Program} {ops : Array Oper} {Q : Exit → Act → World → Prop} {S : World → Prop} {D : List Nat} {fuel : Nat} {listed : Array Bool} {a : Act} {w : World} {i : Nat} {o : Oper} {rs : List Nat} (h : ∀ K' : Act → World → Prop, Shut (∀ a w, S w → (S w → HeldI ro n P ops Q D S fuel (listed.setIfInBounds i true) a w) → K' a w) → Oper.wpIn (wideR ro) n P o a w K' Q) (hs : ReadyI ro n P ops Q D S fuel listed a w rs)
 (ho : ops[i]? = some o := by (simp only [layG]; rfl)) (hd : D.contains i = false := by kernel_rfl) (hw : Region.wanted o (yielded ops a.tmps) = true := by rfl) : ReadyI ro n P ops Q D S fuel listed a w (i :: rs) := .cons ho hd (fun K hK => by rw [if_pos hw]; exact h K hK) hs
theorem riD {ro : Option Nat} {n : Nat} {P : Program} {ops : Array Oper} {Q : Exit → Act → World → Prop} {S : World → Prop} {D : List Nat} {fuel : Nat} {listed : Array Bool} {a : Act} {w : World} {i : Nat} {o : Oper} {rs : List Nat} (h : ∀ K' : Act → World → Prop, Shut (∀ a w, HeldI ro n P ops Q D (fun _ => True) fuel (listed.setIfInBounds i true) a w → K' a w) → Oper.wpIn (wideR ro) n P o a w K' Q) (hs : ReadyI ro n P ops Q D S fuel listed a w rs)
 (ho : ops[i]? = some o := by (simp only [layG]; rfl)) (hd : D.contains i = true := by kernel_rfl) (hw : Region.wanted o (yielded ops a.tmps) = true := by rfl) : ReadyI ro n P ops Q D S fuel listed a w (i :: rs) := .consD ho hd (fun K hK => by rw [if_pos hw]; exact h K hK) hs
theorem rdyI {ro : Option Nat} {n : Nat} {P : Program} {ops : Array Oper} {Q : Exit → Act → World → Prop} {S : World → Prop} {D : List Nat} {fuel : Nat} {listed : Array Bool} {a : Act} {w : World} (rs : List Nat) (h : ReadyI ro n P ops Q D S fuel listed a w rs) (hr : Region.ready .any ops listed = rs := by kernel_rfl) (hne : rs ≠ [] := by simp) : HeldI ro n P ops Q D S (fuel + 1) listed a w := heldI_ready hr hne h
section
variable {w w' : World} {base : Nat} {v : Value} {l : List Stp}
theorem OwnS.obj {row : Option Nat} (h : OwnS base w v l) (hg : w.grownBy w' row) (hr : ∀ r, row = some r → ∃ o : Obj, w.heap[r]? = some o ∧ o.isCells = false) : OwnS base w' v l := by
 obtain ⟨h1, h2⟩ := h
 refine ⟨h1, ?_⟩
 rcases h2 with h | ⟨g, cap, cur, e, hb, hg2, h3⟩
 ·exact .inl h
 ·exact .inr ⟨g, cap, cur, e, hb, (grownBy_keeps_cells hg hr hg2 rfl).trans hg2, h3⟩
end
theorem vstepof_any (a : NdD) (u : Value) (w : World) :
  Calls Tryz.prog 82 #[.agg (cN a u)] w (Ans9 (.agg #[.string (txt a.name), .string (txt a.key)]) w) := by
 have HZ : Hid (Blk ((w.alloc (.cells (cN a u) 27)).alloc (.cells #[.string (txt a.name), .string (txt a.key)] 125)) (w.heap.size + 1) 125 #[.string (txt a.name), .string (txt a.key)]) := hHd (Blk.newA (by simp) _ _)
 have HB : Hid (Below w.heap.size w ((w.alloc (.cells (cN a u) 27)).alloc (.cells #[.string (txt a.name), .string (txt a.key)] 125))) := hHd (bAl.alloc (by simp) _)
 go_enter Tryz.func82, Tryz.ntmps82
 go_wp2
 refine bodyPost_ret (results_cell_row rfl _ _ (w.heap.size + 1) 125 _ (0, 0) _ rfl HZ.out Tryz.underlying125 rfl (by kernel_rfl)) rfl ?_
 exact ⟨rfl, HB.out⟩
theorem ins0_any (v : Value) (l : List Stp) (s : Stp) (g base : Nat) (w : World) (hown : OwnS base w v l) (hblk : Blk w g 125 #[.string (txt s.1), .string (txt s.2)]) (hl : l.length ≤ 1000000) (hb : base ≤ w.heap.size) (hgb : v.ownBlock ≠ some g) :
  Calls Tryz.prog 107 #[v, .int .i64 0, .slice (some ⟨g, 0, none⟩) 1 1] w (fun r w' => ∃ v', r = .returned v' ∧ OwnS base w' v' (s :: l) ∧ w.grownBy w' v.ownBlock) := by
 refine (vsins_any v l.length 0 g base (stC l) [.string (txt s.1), .string (txt s.2)] w hown (stC_one l) hblk rfl (by intro u hu; simp only [List.mem_cons, List.not_mem_nil, or_false] at hu; rcases hu with rfl | rfl <;> rfl) hl hb hgb (Nat.zero_le _)).mono ?_
 rintro r w' ⟨v', rfl, h1, h2, _⟩
 exact ⟨v', rfl, h1, h2⟩
theorem row_ne9 {W : World} {g : Nat} {t e : TypeId} {cs : Array Value} (h : Blk W g t cs) (hte : t ≠ e) {base size k : Nat} {v : Value} {xs : List Value} (hr : W.ownsRow base e size v k xs) : some g ≠ v.ownBlock := by
 rcases hr.2 with ⟨rfl, _⟩ | ⟨g', cap, cur, rfl, _, hgb, _⟩
 ·simp [Value.ownBlock]
 ·intro e'
  obtain rfl : g = g' := by simpa [Value.ownBlock] using e'
  unfold Blk at h
  rw [h] at hgb
  injection hgb with hgb
  injection hgb with _ h2
  exact hte h2
theorem grown_setAny (W : World) (b i : Nat) (v : Value) : W.grownBy (W.setCell ⟨b, i, none⟩ v) (some b) :=
 ⟨rfl, rfl, rfl, by simp [World.setCell], fun k _ hne => Below.heap_setCell W ⟨b, i, none⟩ v k (fun e => hne (by rw [e]))⟩
theorem grown_trans {A B C : World} {row : Option Nat} (h : A.grownBy B row) (k : B.grownBy C row) : A.grownBy C row :=
 ⟨k.os.trans h.os, k.tape.trans h.tape, k.output.trans h.output, Nat.le_trans h.size k.size, fun i hi hne => (k.block i (Nat.lt_of_lt_of_le hi h.size) hne).trans (h.block i hi hne)⟩
def BelP (e : Int) (l : List Stp) (base : Nat) (v : Value) (w : World) (r : Ending) (w' : World) : Prop :=
 ∃ v', r = .returned (.agg #[.int .i64 e, v']) ∧ OwnS base w' v' l ∧ w.grownBy w' v.ownBlock
theorem belows_any (e : Int) (A : Option Addr) (c : Nat) (l : List Stp) (a : NdD) (u : Value) (base : Nat) (w : World) (hown : OwnS base w (.slice A l.length c) l) (hl : l.length ≤ 1000000) (hb : base ≤ w.heap.size) :
  Calls Tryz.prog 85 #[.agg #[.int .i64 e, .slice A l.length c], .agg (cN a u)] w (BelP e (stp a :: l) base (.slice A l.length c) w) := by
 have hbx : Below w.heap.size w (((w.alloc (.cells #[.int .i64 e, .slice A l.length c] 92)).alloc (.cells (cN a u) 27)).alloc (.cells #[.int .i64 0, .slice none 0 0] 92)).drew := ((bAl.alloc (by simp) _).alloc (by simp; omega) _).drew
 have h0 : Blk (((w.alloc (.cells #[.int .i64 e, .slice A l.length c] 92)).alloc (.cells (cN a u) 27)).alloc (.cells #[.int .i64 0, .slice none 0 0] 92)).drew w.heap.size 92 #[.int .i64 e, .slice A l.length c] := ((Blk.new w 92 #[.int .i64 e, .slice A l.length c]).alloc _).alloc _
 have h1 : Blk (((w.alloc (.cells #[.int .i64 e, .slice A l.length c] 92)).alloc (.cells (cN a u) 27)).alloc (.cells #[.int .i64 0, .slice none 0 0] 92)).drew (w.heap.size + 1) 27 (cN a u) := (Blk.newA (w := w.alloc (.cells #[.int .i64 e, .slice A l.length c] 92)) (by simp) 27 (cN a u)).alloc (.cells #[.int .i64 0, .slice none 0 0] 92)
 have h2 : Blk (((w.alloc (.cells #[.int .i64 e, .slice A l.length c] 92)).alloc (.cells (cN a u) 27)).alloc (.cells #[.int .i64 0, .slice none 0 0] 92)).drew (w.heap.size + 2) 92 #[.int .i64 0, .slice none 0 0] := Blk.newA (w := (w.alloc (.cells #[.int .i64 e, .slice A l.length c] 92)).alloc (.cells (cN a u) 27)) (by simp) 92 #[.int .i64 0, .slice none 0 0]
 have hvb : ∀ g, (Value.slice A l.length c).ownBlock = some g → g < w.heap.size := fun g hg => (hown.lt g hg).2
 have HS0 := hHd (And.intro h0 (And.intro h1 h2))
 have HS00 : Hid (Blk (((w.alloc (.cells #[.int .i64 e, .slice A l.length c] 92)).alloc (.cells (cN a u) 27)).alloc (.cells #[.int .i64 0, .slice none 0 0] 92)).drew w.heap.size 92 #[.int .i64 e, .slice A l.length c] ∧ Blk (((w.alloc (.cells #[.int .i64 e, .slice A l.length c] 92)).alloc (.cells (cN a u) 27)).alloc (.cells #[.int .i64 0, .slice none 0 0] 92)).drew (w.heap.size + 1) 27 (cN a u) ∧ ∃ x y : Value, Blk (((w.alloc (.cells #[.int .i64 e, .slice A l.length c] 92)).alloc (.cells (cN a u) 27)).alloc (.cells #[.int .i64 0, .slice none 0 0] 92)).drew (w.heap.size + 2) 92 #[x, y]) := hHd ⟨h0, h1, _, _, h2⟩
 have HBX := hHd hbx
 have HO := hHd hown
 have HVB := hHd hvb
 have HL := hHd hl
 have HBS := hHd hb
 obtain ⟨B, hB⟩ : ∃ B, B = w.heap.size := ⟨_, rfl⟩
 have HBB := hHd hB
 clear hbx h0 h1 h2 hvb hown hl hb hB
 go_enter Tryz.func85, Tryz.ntmps85
 go_wp2_with fail
 refine wp_region_noPanic ?_
 refine wp_region_held_drew (S := fun _ => True) (by kernel_rfl) trivial (fun hS => ?_)
 refine held_more (S' := fun w' => Blk w' w.heap.size 92 #[.int .i64 e, .slice A l.length c] ∧ Blk w' (w.heap.size + 1) 27 (cN a u) ∧ ∃ x y : Value, Blk w' (w.heap.size + 2) 92 #[x, y]) (fun _ _ => trivial) _ _ _ _ ?_
 replace hS := HS00.out
 refine tkH 0 hS ?_
 refine tkH 1 hS ?_ (hy := fun w hSw => by have q0 := (hSw.1.cell 0).trans rfl; (go_simp <;> with_reducible rfl))
 refine tkH 2 hS ?_
 refine tkH 3 hS ?_ (hy := fun w hSw => by have q1 := (hSw.1.cell 1).trans rfl; (go_simp <;> with_reducible rfl))
 refine tkH 4 hS ?_ (hy := fun w hSw => by obtain ⟨q0, q1, q2, q3, q4, q5⟩ := cl6 hSw.2.1; (go_simp <;> with_reducible rfl))
 refine rdy1 5 fun K hK => ?_
 go_simp
 refine (vstepof_any a u _).mono ?_
 rintro r w5 ⟨rfl, hb⟩
 have HB5 := hHd (HBX.out.trans (hb.mono HBX.out.size))
 have HS5 := hHd (And.intro (HS0.out.1.below hb HS0.out.1.lt) (And.intro (HS0.out.2.1.below hb HS0.out.2.1.lt) (HS0.out.2.2.below hb HS0.out.2.2.lt)))
 clear hb
 go_wp2_with fail
 refine hK.out _ _ ?sr_0 (fun hS => ?_)
 case sr_0 => (exact And.intro HS5.out.1 (And.intro HS5.out.2.1 ⟨_, _, HS5.out.2.2⟩))
 clear hK K
 (try simp only [Act.put, layS])
 refine rdy1 6 fun K hK => ?_
 go_simp
 refine hK.out _ _ ?sr_1 (fun hS => ?_)
 case sr_1 => (exact And.intro (HS5.out.1.alloc _) (And.intro (HS5.out.2.1.alloc _) ⟨_, _, HS5.out.2.2.alloc _⟩))
 clear hK K
 (try simp only [Act.put, layS])
 refine rdy1 7 fun K hK => ?_
 go_simp
 refine (ins0_any (.slice A l.length c) l (stp a) w5.heap.size base _ ((HO.out.below HB5.out).below bAl) (Blk.new w5 125 #[.string (txt a.name), .string (txt a.key)]) HL.out (by have h1 := HBS.out; have h2 := HB5.out.size; simp; omega) (fun e' => by have h1 := HVB.out _ e'; have h2 := HB5.out.size; omega)).mono ?_
 rintro r w7 ⟨v', rfl, k1, k2⟩
 obtain ⟨A7, c7, rfl⟩ := k1.shape
 have kg : ∀ g, g < w.heap.size + 3 → w.heap.size ≤ g → w7.heap[g]? = w5.heap[g]? := fun g g1 g2 => by
  have h3 : w.heap.size + 3 ≤ w5.heap.size := by have h4 := HS5.out.2.2.lt; omega
  exact (k2.block g (by simp; omega) (fun e' => by have h1 := HVB.out _ e'.symm; omega)).trans (Below.heap_alloc w5 _ g (by omega))
 have HS7 : Hid (Blk w7 w.heap.size 92 #[.int .i64 e, .slice A l.length c] ∧ Blk w7 (w.heap.size + 1) 27 (cN a u) ∧ Blk w7 (w.heap.size + 2) 92 #[.int .i64 0, .slice none 0 0]) := hHd ⟨(kg _ (by omega) (by omega)).trans HS5.out.1, (kg _ (by omega) (by omega)).trans HS5.out.2.1, (kg _ (by omega) (by omega)).trans HS5.out.2.2⟩
 have HG7 : Hid (w.grownBy w7 (Value.slice A l.length c).ownBlock) := hHd ⟨k2.os.trans HB5.out.os, k2.tape.trans HB5.out.tape, k2.output.trans HB5.out.output, Nat.le_trans HB5.out.size (Nat.le_trans (by simp) k2.size), fun k hk hne => (k2.block k (by have := HB5.out.size; simp; omega) hne).trans ((Below.heap_alloc w5 _ k (by have := HB5.out.size; omega)).trans (HB5.out.block k hk))⟩
 have HK7 := hHd k1
 clear kg k1 k2
 go_wp2_with fail
 refine hK.out _ _ ?sr_2 (fun hS => ?_)
 case sr_2 => (exact And.intro HS7.out.1 (And.intro HS7.out.2.1 ⟨_, _, HS7.out.2.2⟩))
 clear hK K
 (try simp only [Act.put, layS])
 refine tkH 8 hS ?_
 refine rdy1 9 fun K hK => ?_
 have fz0 : w7.frozen? ⟨w.heap.size + 2, 0, none⟩ = false := HS7.out.2.2.frozen 0
 have fz1 : w7.frozen? ⟨w.heap.size + 2, 1, none⟩ = false := HS7.out.2.2.frozen 1
 have fq0 := (HS7.out.2.2.cell 0).trans rfl
 have fq1 := (HS7.out.2.2.cell 1).trans rfl
 go_simp
 have HEND : Hid (Blk ((w7.setCell ⟨w.heap.size + 2, 0, none⟩ (.int .i64 e)).setCell ⟨w.heap.size + 2, 1, none⟩ (.slice A7 (stp a :: l).length c7)) (w.heap.size + 2) 92 #[.int .i64 e, .slice A7 (stp a :: l).length c7]) := hHd (by
  have h2 := ((HS7.out.2.2).set_ 0 (.int .i64 e)).set_ 1 (.slice A7 (stp a :: l).length c7)
  simp only [layS] at h2
  exact h2)
 refine hK.out _ _ ?sr_3 (fun hS => ?_)
 case sr_3 => (exact And.intro ((HS7.out.1.far (p := ⟨w.heap.size + 2, 0, none⟩) (by show w.heap.size ≠ w.heap.size + 2; omega) _).far (p := ⟨w.heap.size + 2, 1, none⟩) (by show w.heap.size ≠ w.heap.size + 2; omega) _) (And.intro ((HS7.out.2.1.far (p := ⟨w.heap.size + 2, 0, none⟩) (by show w.heap.size + 1 ≠ w.heap.size + 2; omega) _).far (p := ⟨w.heap.size + 2, 1, none⟩) (by show w.heap.size + 1 ≠ w.heap.size + 2; omega) _) ⟨_, _, HEND.out⟩))
 clear hK K
 (try simp only [Act.put, layS])
 refine wpAnyH_done (by kernel_rfl) ?_ _
 refine NoPanic.normal ?_
 clear hS
 go_wp2
 refine bodyPost_ret (results_cell_row rfl _ _ (w.heap.size + 2) 92 _ (0, 0) _ rfl HEND.out Tryz.underlying92 rfl (by kernel_rfl)) rfl ?_
 refine ⟨_, rfl, ?_, ?_⟩
 ·have hne : ∀ b, (Value.slice A7 (stp a :: l).length c7).ownBlock = some b → b ≠ w.heap.size + 2 := fun b hb he => by
   have h9 := row_ne9 HS7.out.2.2 (by decide) (HK7.out : OwnK 125 2 w7 base _ _ _)
   exact h9 (by rw [hb, he])
  exact (OwnK.grown (HK7.out : OwnK 125 2 w7 base _ _ _) (row := some (w.heap.size + 2)) (grown_setAny _ _ _ _) (.inr fun e' => hne _ e' rfl)).grown (row := some (w.heap.size + 2)) (grown_setAny _ _ _ _) (.inr fun e' => hne _ e' rfl)
 ·have h1 := HG7.out
  have h2 : w7.grownBy ((w7.setCell ⟨w.heap.size + 2, 0, none⟩ (.int .i64 e)).setCell ⟨w.heap.size + 2, 1, none⟩ (.slice A7 (stp a :: l).length c7)) (some (w.heap.size + 2)) :=
   grown_trans (grown_setAny _ _ _ _) (grown_setAny _ _ _ _)
  exact ⟨h1.os, h1.tape, h1.output, by simpa using h1.size, fun k hk hne => (h2.block k (Nat.lt_of_lt_of_le hk h1.size) (by intro e'; injection e' with e'; omega)).trans (h1.block k hk hne)⟩
theorem below_any (e : Int) (v : Value) (l : List Stp) (a : NdD) (u : Value) (base : Nat) (w : World) (hown : OwnS base w v l) (hl : l.length ≤ 1000000) (hb : base ≤ w.heap.size) :
  Calls Tryz.prog 85 #[.agg #[.int .i64 e, v], .agg (cN a u)] w (BelP e (stp a :: l) base v w) := by
 obtain ⟨A, c, rfl⟩ := hown.shape
 exact belows_any e A c l a u base w hown hl hb
end Go.Proofs.YtodlhgflfcadmaaGreat
