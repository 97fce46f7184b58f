/- What the laws of package tree want of ForestB. -/
import Derived.Test.YtgipnemcmiohlaaZ0TreWay
import Derived.ArgAppend
namespace Go.Proofs.Ytgipnemcmiohlaa
open Go.RowKit
set_option linter.unusedSimpArgs false
section
variable {α : Type} {D : RdOf α} {e : TypeId} {K p : Nat} {w w' : World} {base : Nat} {S S' N N' : Nat → Prop} {v : Value} {f : Fr α}
/-- A row that is written out reads as its things. -/
theorem FrV.lit {g c : Nat} {xs : List Value} (hS : S g) (hb : Blk w g e xs.toArray) (hr : rowG D K p w S N xs f) (hc : f.len ≤ c) : FrV D K p w S N (.slice (some ⟨g, 0, none⟩) f.len c) f :=
  ⟨_, c, rfl, hc, fun _ => ⟨g, 0, rfl, hS, hr.at (fun j u hj => by
    rw [Nat.zero_add, hb.cell]
    simpa using hj)⟩⟩
/-- .. and is the call's own. -/
theorem OwnK.lit {k n g : Nat} {xs : List Value} (hb : Blk w g e xs.toArray) (hg : base ≤ g) (hl : xs.length = n * k) (hn : n ≤ maxLen) : OwnK e k w base (.slice (some ⟨g, 0, none⟩) n n) n xs :=
  ⟨hl, .inr ⟨g, n, xs.toArray, rfl, hg, hb, Nat.le_refl _, hn, by simpa using hl, by simp [← hl]⟩⟩
theorem OwnG.lit {g : Nat} {xs : List Value} (hb : Blk w g e xs.toArray) (hg : base ≤ g) (hn : f.len ≤ maxLen) (hr : rowG D K p w S N xs f) (hS : ∀ k, S k → k < w.heap.size ∧ k ≠ g) (hN : ∀ k, N k → k < w.heap.size ∧ k ≠ g) : OwnG D e K p w base S N (.slice (some ⟨g, 0, none⟩) f.len f.len) f :=
  ⟨fun k hk => ⟨(hS k hk).1, by intro h; injection h with h; exact (hS k hk).2 h⟩, fun k hk => ⟨(hN k hk).1, by intro h; injection h with h; exact (hN k hk).2 h⟩, xs, OwnK.lit hb hg hr.len hn, hr⟩
theorem OwnG.grown (hD : StayD D) {row : Option Nat} (h : OwnG D e K p w base S N v f) (hg : w.grownBy w' row) (hne : v.ownBlock = none ∨ v.ownBlock ≠ row) (hS : ∀ g, S g → some g ≠ row) (hN : ∀ g, N g → some g ≠ row) : OwnG D e K p w' base S N v f := by
  obtain ⟨h1, h2, xs, h3, h4⟩ := h
  exact ⟨fun g hg' => ⟨Nat.lt_of_lt_of_le (h1 g hg').1 hg.size, (h1 g hg').2⟩, fun g hg' => ⟨Nat.lt_of_lt_of_le (h2 g hg').1 hg.size, (h2 g hg').2⟩, xs, h3.grown hg hne,
    h4.kept hD (fun g hg' => hg.block g (h1 g hg').1 (hS g hg')) (fun _ h => h) (fun g hg' => hg.block g (h2 g hg').1 (hN g hg')) (fun _ h => h)⟩
/-- What an append of one leaves. -/
def AppG (D : RdOf α) (e : TypeId) (K p : Nat) (base : Nat) (S N : Nat → Prop) (w : World) (v : Value) (f : Fr α) (v' : Value) (w' : World) : Prop :=
  OwnG D e K p w' base S N v' f ∧ w.grownBy w' v.ownBlock ∧ (v'.ownBlock = v.ownBlock ∨ v'.ownBlock = some w.heap.size) ∧ ∃ g c, v' = .slice (some ⟨g, 0, none⟩) f.len c
theorem AppG.below {v' : Value} {g : Fr α} (h : AppG D e K p base S N w v g v' w') (hown : OwnG D e K p w base S N v f) (hb : base ≤ w.heap.size) : Below base w w' :=
  (Below.refl _ _).grown h.2.1 hb fun b e => (hown.lt b e).1
end
end Go.Proofs.Ytgipnemcmiohlaa

