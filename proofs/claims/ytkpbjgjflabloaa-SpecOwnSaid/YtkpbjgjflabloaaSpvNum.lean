/-
  A version of the schema out of the one ahead: changes, as plain data. No program; no condition but those of each theorem.
-/
import Derived.Test.YtkpbjgjflabloaaSpcNum
namespace Go.Proofs.Ytkpbjgjflabloaa
open Go.RowKit
set_option linter.unusedSimpArgs false

/-- A change: of the name (kind 0), a kid more behind the last one, of that name (1), or changes of the kid of a name (2). -/
structure ChD where
  kind : Nat
  name : List UInt8
  kid : SpD
abbrev ChF := Fr ChD
/-- Another thing at a place. -/
def updF (i : Nat) (y : Sp) (f : SpF) : SpF := (Fr.take i f).app (.cons y.1 y.2 (Fr.drop (i + 1) f))
theorem updF_len {i : Nat} {y : Sp} {f : SpF} (h : i < f.len) : (updF i y f).len = f.len := by
  unfold updF
  rw [Fr.len_app, Fr.len_take i f (by omega), Fr.len_cons, Fr.len_drop]
  omega
/-- What changes make of a thing. -/
def runC : ChF → Sp → Sp
  | .nil, x => x
  | .cons d k r, x => runC r (
      if d.kind = 0 then ({ x.1 with name := d.name }, x.2)
      else if d.kind = 1 then (x.1, x.2.app (.cons d.kid .nil .nil))
      else match findX d.name x.2 with
        | none => x
        | some i => match x.2.get? i with
          | none => x
          | some y => (x.1, updF i (runC k y) x.2))
def stepC (d : ChD) (k : ChF) (x : Sp) : Sp :=
  if d.kind = 0 then ({ x.1 with name := d.name }, x.2)
  else if d.kind = 1 then (x.1, x.2.app (.cons d.kid .nil .nil))
  else match findX d.name x.2 with
    | none => x
    | some i => match x.2.get? i with
      | none => x
      | some y => (x.1, updF i (runC k y) x.2)
theorem runC_cons (d : ChD) (k r : ChF) (x : Sp) : runC (.cons d k r) x = runC r (stepC d k x) := rfl
/-- What is asked: the kids are there. -/
def okC : ChF → Sp → Bool
  | .nil, x => decide (x.2.len ≤ 100)
  | .cons d k r, x => decide (x.2.len ≤ 100) && (
      if d.kind = 0 then true
      else if d.kind = 1 then (match findX d.name x.2 with
        | none => false
        | some i => decide (i + 1 = x.2.len))
      else match findX d.name x.2 with
        | none => false
        | some i => match x.2.get? i with
          | none => false
          | some y => decide (k.len ≤ 1000) && okC k y) && okC r (stepC d k x)
theorem okC_few {f : ChF} {x : Sp} (h : okC f x = true) : x.2.len ≤ 100 := by
  cases f with
  | nil => simpa [okC] using h
  | cons d k r => simp only [okC, Bool.and_eq_true, decide_eq_true_eq] at h; exact h.1.1
theorem okC_cons {d : ChD} {k r : ChF} {x : Sp} (h : okC (.cons d k r) x = true) : okC r (stepC d k x) = true := by
  simp only [okC, Bool.and_eq_true, decide_eq_true_eq] at h; exact h.2
theorem okC_one {d : ChD} {k r : ChF} {x : Sp} (h : okC (.cons d k r) x = true) (h1 : d.kind = 1) : ∃ i, findX d.name x.2 = some i ∧ i + 1 = x.2.len ∧ stepC d k x = (x.1, x.2.app (.cons d.kid .nil .nil)) := by
  simp only [okC, Bool.and_eq_true, decide_eq_true_eq] at h
  obtain ⟨⟨_, h⟩, _⟩ := h
  rw [if_neg (by omega), if_pos h1] at h
  cases e : findX d.name x.2 with
  | none => rw [e] at h; cases h
  | some i =>
    rw [e] at h
    exact ⟨i, rfl, by simpa using h, by unfold stepC; rw [if_neg (by omega), if_pos h1]⟩
theorem okC_two {d : ChD} {k r : ChF} {x : Sp} (h : okC (.cons d k r) x = true) (h1 : d.kind ≠ 0) (h2 : d.kind ≠ 1) : ∃ i y, findX d.name x.2 = some i ∧ x.2.get? i = some y ∧ (k.len ≤ 1000 ∧ okC k y = true) ∧ stepC d k x = (x.1, updF i (runC k y) x.2) := by
  simp only [okC, Bool.and_eq_true, decide_eq_true_eq] at h
  obtain ⟨⟨_, h⟩, _⟩ := h
  rw [if_neg h1, if_neg h2] at h
  cases e : findX d.name x.2 with
  | none => rw [e] at h; cases h
  | some i =>
    rw [e] at h
    simp only at h
    cases e2 : x.2.get? i with
    | none => rw [e2] at h; cases h
    | some y =>
      rw [e2] at h
      exact ⟨i, y, rfl, e2, by simpa using h, by unfold stepC; rw [if_neg h1, if_neg h2, e]; simp only [e2]⟩
theorem stepC_zero {d : ChD} {k : ChF} {x : Sp} (h : d.kind = 0) : stepC d k x = ({ x.1 with name := d.name }, x.2) := by unfold stepC; rw [if_pos h]
def chAfter (n : List UInt8) (a : SpD) (r : ChF) : ChF := .cons ⟨1, n, a⟩ .nil r
def chIn (n : List UInt8) (k r : ChF) : ChF := .cons ⟨2, n, zeroD⟩ k r
def chNamed (n : List UInt8) (r : ChF) : ChF := .cons ⟨0, n, zeroD⟩ .nil r
/-- What the second version has otherwise, and the third. -/
def chSecond : ChF := chIn nPort (chIn nClass (chAfter nLimit (leafD nShaped 3 true) .nil) (chAfter nDefault kindD .nil)) .nil
def chThird : ChF := chIn nPort (chIn nClass (chIn nLimit (chNamed nDepth .nil) .nil) .nil) (chAfter nPort ⟨nWait, 1, 1, 1, 1000, [], false, 0⟩ .nil)
theorem second_is : runC chSecond (rootD, rootF 1) = (rootD, rootF 2) := by decide
theorem third_is : runC chThird (rootD, rootF 2) = (rootD, rootF 3) := by decide
theorem second_ok : okC chSecond (rootD, rootF 1) = true := by decide
theorem third_ok : okC chThird (rootD, rootF 2) = true := by decide

end Go.Proofs.Ytkpbjgjflabloaa
