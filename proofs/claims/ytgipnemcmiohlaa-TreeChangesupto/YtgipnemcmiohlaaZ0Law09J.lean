/- What the laws of package tree want of Law09J. -/
import Derived.Test.YtgipnemcmiohlaaZ0Law09H
namespace Go.Proofs.Ytgipnemcmiohlaa
open Go.RowKit
set_option linter.unusedSimpArgs false
set_option linter.unusedVariables false
theorem like_trans9 {f : NdF} : ∀ {g h : NdF}, like9 f g → like9 g h → like9 f h := by
  induction f with
  | nil => intro g h h1 h2; cases g with
    | nil => exact h2
    | cons => exact h1.elim
  | cons a k r ihk ih => intro g h h1 h2; cases g with
    | nil => exact h1.elim
    | cons b q s => cases h with
      | nil => exact h2.elim
      | cons d x y => exact ⟨ihk h1.1 h2.1, ih h1.2 h2.2⟩
def Mine9 (S : Nat → Prop) (w : World) (v : Value) (f : NdF) : Prop := ∃ f', like9 f f' ∧ RowO S w v f'
theorem Mine9.over {S : Nat → Prop} {w w' : World} {v : Value} {f : NdF} (h : Mine9 S w v f) (ho : Over9 S w w') : Mine9 S w' v f := by
  obtain ⟨f', h1, h2⟩ := h
  obtain ⟨f2, h3, h4⟩ := h2.over ho
  exact ⟨f2, like_trans9 h1 h3, h4⟩
theorem Over9.blk {S : Nat → Prop} {w w' : World} {g : Nat} {t : TypeId} {cs : Array Value} (h : Over9 S w w') (hb : Blk w g t cs) (hs : ¬ S g) : Blk w' g t cs := (h.out g hb.lt hs).trans hb
theorem RowO.mono {S S' : Nat → Prop} {w : World} {v : Value} {f : NdF} (h : RowO S w v f) (hS : ∀ g, S g → S' g) : RowO S' w v f := ⟨FrV.mono stay_na h.1 hS (fun _ h => h), h.2⟩
/-- A row in memory that was made between base and lim. -/
def New9 (base lim : Nat) (w : World) (v : Value) (f : NdF) : Prop := lim ≤ w.heap.size ∧ ∃ S, (∀ g, S g → base ≤ g ∧ g < lim ∧ UnF w g) ∧ RowO S w v f
theorem New9.below {base lim : Nat} {w w' : World} {v : Value} {f : NdF} (h : New9 base lim w v f) (hb : Below w.heap.size w w') : New9 base lim w' v f := by
  obtain ⟨h0, S, h1, h2, h3⟩ := h
  refine ⟨Nat.le_trans h0 hb.size, S, fun g hg => ?_, FrV.kept stay_na h2 (fun g hg => hb.block g (by have := (h1 g hg).2.1; omega)) (fun _ h => h) (fun _ h => h.elim) (fun _ h => h), h3⟩
  obtain ⟨x1, x2, cs, t, x3⟩ := h1 g hg
  exact ⟨x1, x2, cs, t, x3.below hb (by omega)⟩
end Go.Proofs.Ytgipnemcmiohlaa

