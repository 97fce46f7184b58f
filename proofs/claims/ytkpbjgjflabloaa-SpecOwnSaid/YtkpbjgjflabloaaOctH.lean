/-
  A slice of bytes of the call's own, that bytes are appended to. No condition but those of each theorem.
-/
import Derived.Test.YtkpbjgjflabloaaOctG
import Derived.Maps.AppendAt
import Derived.Deep.AppendLies
import Derived.OwnWalk
namespace Go.Proofs.Ytkpbjgjflabloaa
open Go.RowKit

/-- The slice v, of bytes l, lies at the head of a block of the call's own (from base on), or is nil. -/
def Own (w : World) (base : Nat) (v : Value) (l : List UInt8) : Prop := w.ownsRow base 5 1 v l.length (l.map byteV)

section
variable {w w' : World} {base : Nat} {v : Value} {l : List UInt8}
theorem Own.nil (w : World) (base : Nat) : Own w base (.slice none 0 0) [] := World.ownsRow_nil w base 5 1
theorem Own.below (h : Own w base v l) (hb : Below w.heap.size w w') : Own w' base v l :=
  World.ownsRow.kept h ⟨hb.os, hb.tape, hb.output, hb.size, fun k hk _ => hb.block k hk⟩ (row := none) (by cases hv : v.ownBlock <;> simp)
theorem Own.rd (h : Own w base v l) (hl : l.length ≤ 140737488355328) : ∃ d, base ≤ d ∧ (v.ownBlock = none ∧ v = .slice none 0 0 ∨ v.ownBlock = some d ∧ d < w.heap.size) ∧ Rd w d v l := by
  have hh := h
  obtain ⟨_, h2⟩ := h
  rcases h2 with ⟨rfl, hn⟩ | ⟨g, cap, cur, rfl, hb, hg, hnc, hcm, hs, ht⟩
  · have : l = [] := List.eq_nil_of_length_eq_zero hn
    subst this
    exact ⟨base, Nat.le_refl _, .inl ⟨rfl, rfl⟩, Rd.nil _ _⟩
  · have hlt : g < w.heap.size := by
      rcases Nat.lt_or_ge g w.heap.size with hlt | hge
      · exact hlt
      · rw [Array.getElem?_eq_none hge] at hg; cases hg
    refine ⟨g, hb, .inr ⟨rfl, hlt⟩, _, cap, rfl, hnc, hl, fun _ => ⟨0, rfl, fun j b hj => ?_⟩⟩
    have hjl : j < l.length := (List.getElem?_eq_some_iff.1 hj).1
    rw [World.ownsRow.cellAt hh (0 + j) (by omega)]
    simp [hj]
theorem Own.rd' (h : Own w base v l) (hl : l.length ≤ 140737488355328) : ∃ d, d ≤ w.heap.size ∧ Rd w d v l := by
  obtain ⟨d, _, h2, hr⟩ := h.rd hl
  rcases h2 with ⟨_, rfl⟩ | ⟨_, h2⟩
  · obtain ⟨A, c, e, _⟩ := id hr
    injection e with _ e2
    have : l = [] := List.eq_nil_of_length_eq_zero e2.symm
    exact ⟨0, Nat.zero_le _, hr.block this 0⟩
  · exact ⟨d, Nat.le_of_lt h2, hr⟩
theorem Own.made (w : World) (n : Nat) (b : UInt8) (hb : base ≤ w.heap.size) (hn : n ≤ 140737488355328) (cs : Array Value) (hcs : cs = ((List.replicate n b).map byteV).toArray) :
    Own (w.alloc (.cells cs 5)) base (.slice (some ⟨w.heap.size, 0, none⟩) n n) (List.replicate n b) := by
  subst hcs
  refine ⟨by simp, .inr ⟨w.heap.size, n, _, by simp, hb, heap_alloc_new w _, by simp, by unfold maxLen; omega, by simp, ?_⟩⟩
  simp only [Nat.mul_one]
  exact List.take_of_length_le (by simp)
end

/-- What an append leaves. -/
def AppPost (w : World) (base : Nat) (v : Value) (l : List UInt8) (v' : Value) (w' : World) : Prop :=
  Own w' base v' l ∧ w.grownBy w' v.ownBlock ∧ (v'.ownBlock = v.ownBlock ∨ v'.ownBlock = some w.heap.size)

theorem AppPost.below {w w' : World} {base : Nat} {v v' : Value} {l l0 : List UInt8} (h : AppPost w base v l v' w') (hown : Own w base v l0) (hb : base ≤ w.heap.size) : Below base w w' :=
  (Below.refl _ _).grown h.2.1 hb fun k e => (World.ownsRow.lt hown k e).1

end Go.Proofs.Ytkpbjgjflabloaa
