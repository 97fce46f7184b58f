/- What the laws of package tree want of Forest. -/
import Derived.Test.YtgipnemcmiohlaaZ0Law09J
namespace Go.Proofs.Ytgipnemcmiohlaa
open Go.RowKit
set_option linter.unusedSimpArgs false
namespace Fr
variable {α : Type}
theorem app_assoc (f g h : Fr α) : (f.app g).app h = f.app (g.app h) := by
  induction f with
  | nil => rfl
  | cons a k r _ ih => simp only [app, ih]
end Fr
section
variable {α : Type} {D : RdOf α} {K p : Nat} {w w' : World} {S S' N N' : Nat → Prop}
end
section
variable {α : Type} {D : RdOf α} {K p : Nat} {w w' : World} {S S' N N' : Nat → Prop}
end
section
variable {α : Type} {D : RdOf α} {e : TypeId} {K p : Nat} {w w' : World} {base : Nat} {S S' N N' : Nat → Prop} {v : Value} {f : Fr α}
theorem OwnG.nilS (w : World) (base : Nat) (hS : ∀ g, S g → g < w.heap.size) (hN : ∀ g, N g → g < w.heap.size) : OwnG D e K p w base S N (.slice none 0 0) (.nil : Fr α) :=
  ⟨fun g h => ⟨hS g h, by intro h; cases h⟩, fun g h => ⟨hN g h, by intro h; cases h⟩, [], OwnK.nil _ _ _ _, rfl⟩
end
end Go.Proofs.Ytgipnemcmiohlaa

