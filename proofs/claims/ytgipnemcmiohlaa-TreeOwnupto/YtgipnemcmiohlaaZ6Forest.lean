/- What the laws of package tree want of Forest. -/
import Derived.Test.YtgipnemcmiohlaaZ0Law09J
import Derived.Test.YtgipnemcmiohlaaZ2TreWithR
import Derived.Test.YtgipnemcmiohlaaZ3Law09A
namespace Go.Proofs.Ytgipnemcmiohlaa
open Go.RowKit
set_option linter.unusedSimpArgs false
namespace Fr
variable {α : Type}
end Fr
section
variable {α : Type} {D : RdOf α} {K p : Nat} {w w' : World} {S S' N N' : Nat → Prop}
end
section
variable {α : Type} {D : RdOf α} {K p : Nat} {w w' : World} {S S' N N' : Nat → Prop}
end
section
variable {α : Type} {D : RdOf α} {e : TypeId} {K p : Nat} {w w' : World} {base : Nat} {S S' N N' : Nat → Prop} {v : Value} {f : Fr α}
theorem OwnG.widen (hD : StayD D) (h : OwnG D e K p w base S N v f) (hS : ∀ g, S g → S' g) (hN : ∀ g, N g → N' g) (hS2 : ∀ g, S' g → g < w.heap.size ∧ some g ≠ v.ownBlock) (hN2 : ∀ g, N' g → g < w.heap.size ∧ some g ≠ v.ownBlock) : OwnG D e K p w base S' N' v f := by
  obtain ⟨_, _, xs, h1, h2⟩ := h
  exact ⟨hS2, hN2, xs, h1, h2.kept hD (fun _ _ => rfl) hS (fun _ _ => rfl) hN⟩
end
end Go.Proofs.Ytgipnemcmiohlaa

