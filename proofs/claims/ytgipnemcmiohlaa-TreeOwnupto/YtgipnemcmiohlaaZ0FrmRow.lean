/- What the laws of package tree want of FrmRow. -/
import Derived.Test.YtgipnemcmiohlaaZ0OctRef
namespace Go.Proofs.Ytgipnemcmiohlaa
open Go.RowKit
set_option linter.unusedSimpArgs false
/-- The slice v holds the values xs, which lie in block d (where there is any). -/
def Vals (w : World) (d : Nat) (v : Value) (xs : List Value) : Prop :=
  ∃ A c, v = .slice A xs.length c ∧ xs.length ≤ c ∧ (0 < xs.length → d < w.heap.size ∧ ∃ off, A = some ⟨d, off, none⟩ ∧ ∀ j u, xs[j]? = some u → w.cell? ⟨d, off + j, none⟩ = some u)
section
variable {w w' : World} {d : Nat} {v : Value} {xs : List Value}
theorem Vals.shape (h : Vals w d v xs) : ∃ A c, v = .slice A xs.length c := by obtain ⟨A, c, h, _⟩ := h; exact ⟨A, c, h⟩
theorem Vals.nil (w : World) (d : Nat) : Vals w d (.slice none 0 0) [] := ⟨none, 0, rfl, Nat.le_refl _, fun h => absurd h (by simp)⟩
theorem Vals.below {B : Nat} (h : Vals w d v xs) (hb : Below B w w') (hd : 0 < xs.length → d < B) : Vals w' d v xs := by
  obtain ⟨A, c, rfl, h1, h2⟩ := h
  refine ⟨A, c, rfl, h1, fun hp => ?_⟩
  obtain ⟨hlt, off, rfl, hc⟩ := h2 hp
  exact ⟨Nat.lt_of_lt_of_le hlt hb.size, off, rfl, fun j x hx => (hb.cell (p := ⟨d, off + j, none⟩) (hd hp)).trans (hc j x hx)⟩
theorem Vals.lt (h : Vals w d v xs) (hp : 0 < xs.length) : d < w.heap.size := by obtain ⟨A, c, rfl, h1, h2⟩ := h; exact (h2 hp).1
theorem Vals.at {A : Option Addr} {n c : Nat} (h : Vals w d (.slice A n c) xs) {j : Nat} {u : Value} (hj : xs[j]? = some u) :
    ∃ off, A = some ⟨d, off, none⟩ ∧ d < w.heap.size ∧ j < n ∧ n = xs.length ∧ w.cell? ⟨d, off + j, none⟩ = some u := by
  obtain ⟨A', c', he, h1, h2⟩ := h
  injection he with e1 e2 e3
  subst e1 e2 e3
  have hjl : j < xs.length := (List.getElem?_eq_some_iff.1 hj).1
  obtain ⟨hlt, off, rfl, hc⟩ := h2 (by omega)
  exact ⟨off, rfl, hlt, hjl, rfl, hc j u hj⟩
end
/-- The slice v, of values xs of the type e, is the call's own (from base on). -/
def OwnV (e : TypeId) (w : World) (base : Nat) (v : Value) (xs : List Value) : Prop := w.ownsRow base e 1 v xs.length xs
section
variable {w w' : World} {e : TypeId} {base : Nat} {v : Value} {xs : List Value}
theorem OwnV.nil (w : World) (base : Nat) : OwnV e w base (.slice none 0 0) [] := World.ownsRow_nil w base e 1
theorem OwnV.below (h : OwnV e w base v xs) (hb : Below w.heap.size w w') : OwnV e w' base v xs :=
  World.ownsRow.kept h ⟨hb.os, hb.tape, hb.output, hb.size, fun k hk _ => hb.block k hk⟩ (row := none) (by cases hv : v.ownBlock <;> simp)
theorem OwnV.lt (h : OwnV e w base v xs) : ∀ k, v.ownBlock = some k → base ≤ k ∧ k < w.heap.size := fun k hk => World.ownsRow.lt h k hk
end
/-- What an append of a value leaves. -/
def AppV (e : TypeId) (w : World) (base : Nat) (v : Value) (xs : List Value) (v' : Value) (w' : World) : Prop :=
  OwnV e w' base v' xs ∧ w.grownBy w' v.ownBlock ∧ (v'.ownBlock = v.ownBlock ∨ v'.ownBlock = some w.heap.size) ∧ ∃ g c, v' = .slice (some ⟨g, 0, none⟩) xs.length c
theorem AppV.below {e : TypeId} {w w' : World} {base : Nat} {v v' : Value} {xs ys : List Value} (h : AppV e w base v xs v' w') (hown : OwnV e w base v ys) (hb : base ≤ w.heap.size) : Below base w w' :=
  (Below.refl _ _).grown h.2.1 hb fun k e => (hown.lt k e).1
end Go.Proofs.Ytgipnemcmiohlaa

