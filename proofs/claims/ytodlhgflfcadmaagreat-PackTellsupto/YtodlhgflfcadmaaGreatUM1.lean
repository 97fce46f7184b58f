/- Forest OctI OctRef FrmRow TreNum TreWay -/
import Derived.Test.YtodlhgflfcadmaaGreatUM0
import Derived.OpenShut
import Derived.Lib.IndexBytes
import Derived.WalkLawsBesides
set_option linter.unusedSimpArgs false
set_option linter.unusedVariables false
set_option maxRecDepth 100000
set_option maxHeartbeats 8000000
namespace Go.Proofs.YtodlhgflfcadmaaGreat
open Go.RowKit
inductive Fr (α : Type) where
 | nil
 | cons (a : α) (k r : Fr α)
namespace Fr
variable {α : Type}
def len : Fr α → Nat
 | nil => 0
 | cons _ _ r => r.len + 1
def app : Fr α → Fr α → Fr α
 | nil, g => g
 | cons a k r, g => cons a k (r.app g)
def drop : Nat → Fr α → Fr α
 | 0, f => f
 | _ + 1, nil => nil
 | n + 1, cons _ _ r => drop n r
def take : Nat → Fr α → Fr α
 | 0, _ => nil
 | _ + 1, nil => nil
 | n + 1, cons a k r => cons a k (take n r)
def get? : Fr α → Nat → Option (α × Fr α)
 | nil, _ => none
 | cons a k _, 0 => some (a, k)
 | cons _ _ r, n + 1 => r.get? n
def size : Fr α → Nat
 | nil => 0
 | cons _ k r => k.size + r.size + 1
def deep : Fr α → Nat
 | nil => 0
 | cons _ k r => max (k.deep + 1) r.deep
theorem len_cons (a : α) (k r : Fr α) : (cons a k r).len = r.len + 1 := rfl
theorem len_app (f g : Fr α) : (f.app g).len = f.len + g.len := by
 induction f with
 | nil => simp [app, len]
 | cons a k r _ ih => simp only [app, len, ih]; omega
theorem app_nil (f : Fr α) : f.app nil = f := by
 induction f with
 | nil => rfl
 | cons a k r _ ih => simp only [app, ih]
theorem app_assoc (f g h : Fr α) : (f.app g).app h = f.app (g.app h) := by
 induction f with
 | nil => rfl
 | cons a k r _ ih => simp only [app, ih]
theorem len_size (f : Fr α) : f.len ≤ f.size := by
 induction f with
 | nil => exact Nat.le_refl _
 | cons a k r _ ih => simp only [len, size]; omega
theorem size_app (f g : Fr α) : (f.app g).size = f.size + g.size := by
 induction f with
 | nil => simp [app, size]
 | cons a k r _ ih => simp only [app, size, ih]; omega
theorem take_app_drop (n : Nat) : ∀ f : Fr α, (take n f).app (drop n f) = f := by
 induction n with
 | zero => intro f; rfl
 | succ n ih =>
  intro f
  cases f with
  | nil => rfl
  | cons a k r => simp only [take, drop, app, ih]
theorem take_all (f : Fr α) : take f.len f = f := by
 induction f with
 | nil => rfl
 | cons a k r _ ih => simp only [len, take, ih]
theorem drop_all (f : Fr α) : drop f.len f = nil := by
 induction f with
 | nil => rfl
 | cons a k r _ ih => simp only [len, drop, ih]
theorem len_drop (n : Nat) : ∀ f : Fr α, (drop n f).len = f.len - n := by
 induction n with
 | zero => intro f; rfl
 | succ n ih =>
  intro f
  cases f with
  | nil => simp [drop, len]
  | cons a k r => simp only [drop, len, ih]; omega
theorem len_take (n : Nat) : ∀ f : Fr α, n ≤ f.len → (take n f).len = n := by
 induction n with
 | zero => intro f _; rfl
 | succ n ih =>
  intro f h
  cases f with
  | nil => simp [len] at h
  | cons a k r => simp only [take, len]; rw [ih r (by simp only [len] at h; omega)]
theorem get_some {f : Fr α} : ∀ {n : Nat}, n < f.len → ∃ a k, f.get? n = some (a, k) := by
 induction f with
 | nil => intro n h; simp [len] at h
 | cons a k r _ ih =>
  intro n h
  cases n with
  | zero => exact ⟨a, k, rfl⟩
  | succ n => exact ih (by simp only [len] at h; omega)
theorem get_lt {f : Fr α} : ∀ {n : Nat} {x : α × Fr α}, f.get? n = some x → n < f.len := by
 induction f with
 | nil => intro n x h; cases h
 | cons a k r _ ih =>
  intro n x h
  cases n with
  | zero => simp [len]
  | succ n => have := ih h; simp only [len]; omega
theorem get_none {f : Fr α} : ∀ {n : Nat}, f.len ≤ n → f.get? n = none := by
 induction f with
 | nil => intro n _; rfl
 | cons a k r _ ih =>
  intro n h
  cases n with
  | zero => simp [len] at h
  | succ n => exact ih (by simp only [len] at h; omega)
theorem get_drop {f : Fr α} : ∀ {n : Nat} {a : α} {k : Fr α}, f.get? n = some (a, k) → drop n f = cons a k (drop (n + 1) f) ∧ take (n + 1) f = (take n f).app (cons a k nil) := by
 induction f with
 | nil => intro n a k h; cases h
 | cons b q r _ ih =>
  intro n a k h
  cases n with
  | zero => injection h with h; injection h with h1 h2; subst h1 h2; exact ⟨rfl, rfl⟩
  | succ n =>
   obtain ⟨h1, h2⟩ := ih h
   refine ⟨h1, ?_⟩
   show cons b q (take (n + 1) r) = cons b q ((take n r).app _)
   rw [h2]
theorem size_get {f : Fr α} : ∀ {n : Nat} {a : α} {k : Fr α}, f.get? n = some (a, k) → k.size < f.size := by
 induction f with
 | nil => intro n a k h; cases h
 | cons b q r _ ih =>
  intro n a k h
  cases n with
  | zero => injection h with h; injection h with h1 h2; subst h1 h2; simp only [size]; omega
  | succ n => have := ih h; simp only [size]; omega
theorem ext {f : Fr α} : ∀ {g : Fr α}, f.len = g.len → (∀ n, n < f.len → f.get? n = g.get? n) → f = g := by
 induction f with
 | nil =>
  intro g h _
  cases g with
  | nil => rfl
  | cons => simp [len] at h
 | cons a k r _ ih =>
  intro g h hg
  cases g with
  | nil => simp [len] at h
  | cons b q s =>
   have h0 := hg 0 (by simp [len])
   injection h0 with h0
   injection h0 with h1 h2
   rw [h1, h2, ih (g := s) (by simp only [len] at h; omega) (fun n hn => hg (n + 1) (by simp only [len]; omega))]
def eqb [DecidableEq α] : Fr α → Fr α → Bool
 | nil, nil => true
 | cons a k r, cons b q s => decide (a = b) && eqb k q && eqb r s
 | _, _ => false
theorem eqb_iff [DecidableEq α] {f : Fr α} : ∀ {g : Fr α}, eqb f g = true ↔ f = g := by
 induction f with
 | nil =>
  intro g
  cases g with
  | nil => simp [eqb]
  | cons => simp [eqb]
 | cons a k r ihk ihr =>
  intro g
  cases g with
  | nil => simp [eqb]
  | cons b q s => simp [eqb, ihk, ihr, and_assoc]
instance [DecidableEq α] : DecidableEq (Fr α) := fun _ _ => decidable_of_iff _ eqb_iff
def kidsAll (P : Fr α → Prop) : Fr α → Prop
 | nil => True
 | cons _ k r => P k ∧ kidsAll P r
theorem kidsAll_get {P : Fr α → Prop} {f : Fr α} : ∀ {n : Nat} {a : α} {k : Fr α}, kidsAll P f → f.get? n = some (a, k) → P k := by
 induction f with
 | nil => intro n a k _ h; cases h
 | cons b q r _ ih =>
  intro n a k hP h
  cases n with
  | zero => injection h with h; injection h with h1 h2; subst h1 h2; exact hP.1
  | succ n => exact ih hP.2 h
theorem byKids {P : Fr α → Prop} (h : ∀ f, (∀ n a k, f.get? n = some (a, k) → P k) → P f) (f : Fr α) : P f := by
 have both : ∀ f, P f ∧ kidsAll P f := by
  intro f
  induction f with
  | nil => exact ⟨h _ (fun n a k e => by cases e), trivial⟩
  | cons a k r ihk ihr =>
   have hk : kidsAll P (cons a k r) := ⟨ihk.1, ihr.2⟩
   exact ⟨h _ (fun n b q e => kidsAll_get hk e), hk⟩
 exact (both f).1
end Fr
abbrev RdOf (α : Type) := World → (Nat → Prop) → List Value → α → Prop
def FrAt {α : Type} (D : RdOf α) (K p : Nat) (w : World) (S N : Nat → Prop) : Fr α → Nat → Nat → Prop
 | .nil, _, _ => True
 | .cons a k r, b, o => (∃ cs : List Value, cs.length = K ∧ (∀ i u, cs[i]? = some u → w.cell? ⟨b, o + i, none⟩ = some u) ∧ D w N cs a ∧
   ∃ A c, cs[p]? = some (.slice A k.len c) ∧ k.len ≤ c ∧ (0 < k.len → ∃ b' o', A = some ⟨b', o', none⟩ ∧ S b' ∧ FrAt D K p w S N k b' o')) ∧ FrAt D K p w S N r b (o + K)
def FrV {α : Type} (D : RdOf α) (K p : Nat) (w : World) (S N : Nat → Prop) (v : Value) (f : Fr α) : Prop :=
 ∃ A c, v = .slice A f.len c ∧ f.len ≤ c ∧ (0 < f.len → ∃ b o, A = some ⟨b, o, none⟩ ∧ S b ∧ FrAt D K p w S N f b o)
def FrN {α : Type} (D : RdOf α) (K p : Nat) (w : World) (S N : Nat → Prop) (cs : List Value) (a : α) (k : Fr α) : Prop :=
 cs.length = K ∧ D w N cs a ∧ ∃ v, cs[p]? = some v ∧ FrV D K p w S N v k
def StayD {α : Type} (D : RdOf α) : Prop := ∀ (w w' : World) (N N' : Nat → Prop) cs a, (∀ g, N g → w'.heap[g]? = w.heap[g]?) → (∀ g, N g → N' g) → D w N cs a → D w' N' cs a
def OneD {α : Type} (D : RdOf α) : Prop := ∀ w N cs a, D w N cs a → ∀ u ∈ cs, u.oneCell' = true
section
variable {α : Type} {D : RdOf α} {K p : Nat} {w w' : World} {S S' N N' : Nat → Prop}
theorem FrAt.kept (hD : StayD D) (hk : ∀ g, S g → w'.heap[g]? = w.heap[g]?) (hS : ∀ g, S g → S' g) (hn : ∀ g, N g → w'.heap[g]? = w.heap[g]?) (hN : ∀ g, N g → N' g) :
  ∀ {f : Fr α} {b o : Nat}, S b → FrAt D K p w S N f b o → FrAt D K p w' S' N' f b o := by
 intro f
 induction f with
 | nil => intro b o _ _; trivial
 | cons a k r ihk ihr =>
  intro b o hb ⟨⟨cs, h1, h2, h3, A, c, h4, h5, h6⟩, h7⟩
  have hc : ∀ i, w'.cell? ⟨b, i, none⟩ = w.cell? ⟨b, i, none⟩ := fun i => World.cell?_of_block (w := w) (hk b hb)
  refine ⟨⟨cs, h1, fun i u hu => (hc _).trans (h2 i u hu), hD _ _ _ _ _ _ hn hN h3, A, c, h4, h5, fun h0 => ?_⟩, ihr hb h7⟩
  obtain ⟨b', o', h8, h9, h10⟩ := h6 h0
  exact ⟨b', o', h8, hS _ h9, ihk h9 h10⟩
theorem FrV.kept {v : Value} {f : Fr α} (hD : StayD D) (h : FrV D K p w S N v f) (hk : ∀ g, S g → w'.heap[g]? = w.heap[g]?) (hS : ∀ g, S g → S' g) (hn : ∀ g, N g → w'.heap[g]? = w.heap[g]?) (hN : ∀ g, N g → N' g) : FrV D K p w' S' N' v f := by
 obtain ⟨A, c, rfl, h1, h2⟩ := h
 refine ⟨A, c, rfl, h1, fun h0 => ?_⟩
 obtain ⟨b, o, h3, h4, h5⟩ := h2 h0
 exact ⟨b, o, h3, hS _ h4, h5.kept hD hk hS hn hN h4⟩
theorem FrN.kept {cs : List Value} {a : α} {k : Fr α} (hD : StayD D) (h : FrN D K p w S N cs a k) (hk : ∀ g, S g → w'.heap[g]? = w.heap[g]?) (hS : ∀ g, S g → S' g) (hn : ∀ g, N g → w'.heap[g]? = w.heap[g]?) (hN : ∀ g, N g → N' g) : FrN D K p w' S' N' cs a k := by
 obtain ⟨h1, h2, v, h3, h4⟩ := h
 exact ⟨h1, hD _ _ _ _ _ _ hn hN h2, v, h3, h4.kept hD hk hS hn hN⟩
theorem FrV.mono {v : Value} {f : Fr α} (hD : StayD D) (h : FrV D K p w S N v f) (hS : ∀ g, S g → S' g) (hN : ∀ g, N g → N' g) : FrV D K p w S' N' v f := h.kept hD (fun _ _ => rfl) hS (fun _ _ => rfl) hN
theorem FrN.mono {cs : List Value} {a : α} {k : Fr α} (hD : StayD D) (h : FrN D K p w S N cs a k) (hS : ∀ g, S g → S' g) (hN : ∀ g, N g → N' g) : FrN D K p w S' N' cs a k := h.kept hD (fun _ _ => rfl) hS (fun _ _ => rfl) hN
theorem FrV.empty (w : World) (S N : Nat → Prop) : FrV D K p w S N (.slice none 0 0) .nil := ⟨none, 0, rfl, Nat.le_refl _, fun h => absurd h (by simp [Fr.len])⟩
theorem FrV.shape {v : Value} {f : Fr α} (h : FrV D K p w S N v f) : ∃ A c, v = .slice A f.len c := by
 obtain ⟨A, c, e, _⟩ := h
 exact ⟨A, c, e⟩
theorem FrAt.drop (n : Nat) : ∀ {f : Fr α} {b o : Nat}, FrAt D K p w S N f b o → FrAt D K p w S N (Fr.drop n f) b (o + n * K) := by
 induction n with
 | zero => intro f b o h; simpa [Fr.drop] using h
 | succ n ih =>
  intro f b o h
  cases f with
  | nil => trivial
  | cons a k r =>
   have h7 := ih h.2
   have e : o + K + n * K = o + (n + 1) * K := by rw [Nat.add_mul]; omega
   rw [e] at h7
   exact h7
theorem FrV.at {v : Value} {f : Fr α} (h : FrV D K p w S N v f) {n : Nat} {a : α} {k : Fr α} (hn : f.get? n = some (a, k)) :
  ∃ b o c cs, v = .slice (some ⟨b, o, none⟩) f.len c ∧ f.len ≤ c ∧ S b ∧ FrN D K p w S N cs a k ∧ ∀ i u, cs[i]? = some u → w.cell? ⟨b, o + n * K + i, none⟩ = some u := by
 have hlt := Fr.get_lt hn
 obtain ⟨A, c, rfl, h1, h2⟩ := h
 obtain ⟨b, o, rfl, h3, h4⟩ := h2 (by omega)
 have h7 := h4.drop n
 rw [(Fr.get_drop hn).1] at h7
 obtain ⟨⟨cs, g1, g2, g3, A', c', g4, g5, g6⟩, _⟩ := h7
 exact ⟨b, o, c, cs, rfl, h1, h3, ⟨g1, g3, _, g4, A', c', rfl, g5, g6⟩, g2⟩
end
def rowG {α : Type} (D : RdOf α) (K p : Nat) (w : World) (S N : Nat → Prop) : List Value → Fr α → Prop
 | xs, .nil => xs = []
 | xs, .cons a k r => ∃ cs ys, xs = cs ++ ys ∧ FrN D K p w S N cs a k ∧ rowG D K p w S N ys r
section
variable {α : Type} {D : RdOf α} {K p : Nat} {w w' : World} {S S' N N' : Nat → Prop}
theorem rowG.kept (hD : StayD D) (hk : ∀ g, S g → w'.heap[g]? = w.heap[g]?) (hS : ∀ g, S g → S' g) (hn : ∀ g, N g → w'.heap[g]? = w.heap[g]?) (hN : ∀ g, N g → N' g) : ∀ {f : Fr α} {xs : List Value}, rowG D K p w S N xs f → rowG D K p w' S' N' xs f := by
 intro f
 induction f with
 | nil => intro xs h; exact h
 | cons a k r _ ih =>
  intro xs h
  obtain ⟨cs, ys, rfl, h1, h2⟩ := h
  exact ⟨cs, ys, rfl, h1.kept hD hk hS hn hN, ih h2⟩
theorem rowG.len : ∀ {f : Fr α} {xs : List Value}, rowG D K p w S N xs f → xs.length = f.len * K := by
 intro f
 induction f with
 | nil => intro xs h; rw [show xs = [] from h]; simp [Fr.len]
 | cons a k r _ ih =>
  intro xs h
  obtain ⟨cs, ys, rfl, h1, h2⟩ := h
  rw [List.length_append, h1.1, ih h2, Fr.len_cons, Nat.add_mul]
  omega
theorem rowG.app {g : Fr α} {ys : List Value} (h2 : rowG D K p w S N ys g) : ∀ {f : Fr α} {xs : List Value}, rowG D K p w S N xs f → rowG D K p w S N (xs ++ ys) (f.app g) := by
 intro f
 induction f with
 | nil => intro xs h; rw [show xs = [] from h]; exact h2
 | cons a k r _ ih =>
  intro xs h
  obtain ⟨cs, zs, rfl, g1, g2⟩ := h
  exact ⟨cs, zs ++ ys, by rw [List.append_assoc], g1, ih g2⟩
theorem rowG.one {a : α} {k : Fr α} {cs : List Value} (h : FrN D K p w S N cs a k) : rowG D K p w S N cs (.cons a k .nil) := ⟨cs, [], by simp, h, rfl⟩
theorem rowG.snoc {f : Fr α} {xs : List Value} (h : rowG D K p w S N xs f) {a : α} {k : Fr α} {cs : List Value} (h1 : FrN D K p w S N cs a k) : rowG D K p w S N (xs ++ cs) (f.app (.cons a k .nil)) := rowG.app (rowG.one h1) h
theorem rowG.oneCell (hone : OneD D) : ∀ {f : Fr α} {xs : List Value}, rowG D K p w S N xs f → ∀ u ∈ xs, u.oneCell' = true := by
 intro f
 induction f with
 | nil => intro xs h u hu; rw [show xs = [] from h] at hu; cases hu
 | cons a k r _ ih =>
  intro xs h u hu
  obtain ⟨cs, ys, rfl, h1, h2⟩ := h
  rcases List.mem_append.1 hu with hu | hu
  ·exact hone _ _ _ _ h1.2.1 u hu
  ·exact ih h2 u hu
theorem rowG.at {b : Nat} : ∀ {f : Fr α} {xs : List Value} {o : Nat}, rowG D K p w S N xs f → (∀ j u, xs[j]? = some u → w.cell? ⟨b, o + j, none⟩ = some u) → FrAt D K p w S N f b o := by
 intro f
 induction f with
 | nil => intro xs o _ _; trivial
 | cons a k r _ ih =>
  intro xs o h hc
  obtain ⟨cs, ys, rfl, ⟨g1, g2, v, g3, A, c, rfl, g4, g5⟩, g6⟩ := h
  refine ⟨⟨cs, g1, fun i u hu => hc i u ?_, g2, A, c, g3, g4, g5⟩, ih g6 (fun j u hj => ?_)⟩
  ·rw [List.getElem?_append_left (List.getElem?_eq_some_iff.1 hu).1]; exact hu
  ·have h := hc (K + j) u (by rw [List.getElem?_append_right (by omega), g1, show K + j - K = j by omega]; exact hj)
   rwa [show o + (K + j) = o + K + j by omega] at h
theorem FrAt.row {b : Nat} : ∀ {f : Fr α} {o : Nat}, FrAt D K p w S N f b o → ∃ xs, rowG D K p w S N xs f ∧ ∀ j u, xs[j]? = some u → w.cell? ⟨b, o + j, none⟩ = some u := by
 intro f
 induction f with
 | nil => intro o _; exact ⟨[], rfl, fun j u h => by simp at h⟩
 | cons a k r _ ih =>
  intro o ⟨⟨cs, h1, h2, h3, A, c, h4, h5, h6⟩, h7⟩
  obtain ⟨ys, h8, h9⟩ := ih h7
  refine ⟨cs ++ ys, ⟨cs, ys, rfl, ⟨h1, h3, _, h4, A, c, rfl, h5, h6⟩, h8⟩, fun j u hj => ?_⟩
  by_cases hj0 : j < K
  ·rw [List.getElem?_append_left (by omega)] at hj
   exact h2 j u hj
  ·rw [List.getElem?_append_right (by omega), h1] at hj
   have := h9 (j - K) u hj
   rwa [show o + K + (j - K) = o + j by omega] at this
end
def Its (base : Nat) (w : World) (v : Value) (g : Nat) : Prop := base ≤ g ∧ g < w.heap.size ∧ some g ≠ v.ownBlock
def OwnG {α : Type} (D : RdOf α) (e : TypeId) (K p : Nat) (w : World) (base : Nat) (S N : Nat → Prop) (v : Value) (f : Fr α) : Prop :=
 (∀ g, S g → g < w.heap.size ∧ some g ≠ v.ownBlock) ∧ (∀ g, N g → g < w.heap.size ∧ some g ≠ v.ownBlock) ∧ ∃ xs, OwnK e K w base v f.len xs ∧ rowG D K p w S N xs f
section
variable {α : Type} {D : RdOf α} {e : TypeId} {K p : Nat} {w w' : World} {base : Nat} {S S' N N' : Nat → Prop} {v : Value} {f : Fr α}
theorem OwnG.nil (w : World) (base : Nat) : OwnG D e K p w base (fun _ => False) (fun _ => False) (.slice none 0 0) (.nil : Fr α) := ⟨fun _ h => h.elim, fun _ h => h.elim, [], OwnK.nil _ _ _ _, rfl⟩
theorem OwnG.below (hD : StayD D) (h : OwnG D e K p w base S N v f) (hb : Below w.heap.size w w') : OwnG D e K p w' base S N v f := by
 obtain ⟨hS, hN, xs, h1, h2⟩ := h
 exact ⟨fun g hg => ⟨Nat.lt_of_lt_of_le (hS g hg).1 hb.size, (hS g hg).2⟩, fun g hg => ⟨Nat.lt_of_lt_of_le (hN g hg).1 hb.size, (hN g hg).2⟩, xs, h1.below hb,
  h2.kept hD (fun g hg => hb.block g (hS g hg).1) (fun g hg => hg) (fun g hg => hb.block g (hN g hg).1) (fun g hg => hg)⟩
theorem OwnG.widen (hD : StayD D) (h : OwnG D e K p w base S N v f) (hS : ∀ g, S g → S' g) (hN : ∀ g, N g → N' g) (hS2 : ∀ g, S' g → g < w.heap.size ∧ some g ≠ v.ownBlock) (hN2 : ∀ g, N' g → g < w.heap.size ∧ some g ≠ v.ownBlock) : OwnG D e K p w base S' N' v f := by
 obtain ⟨_, _, xs, h1, h2⟩ := h
 exact ⟨hS2, hN2, xs, h1, h2.kept hD (fun _ _ => rfl) hS (fun _ _ => rfl) hN⟩
theorem OwnG.lt (h : OwnG D e K p w base S N v f) : ∀ k, v.ownBlock = some k → base ≤ k ∧ k < w.heap.size := by
 obtain ⟨_, _, xs, h1, _⟩ := h
 exact h1.lt
theorem OwnG.shape (h : OwnG D e K p w base S N v f) : ∃ A c, v = .slice A f.len c := by
 obtain ⟨_, _, xs, h1, _⟩ := h
 exact h1.shape
theorem OwnG.frv (hD : StayD D) (h : OwnG D e K p w base S N v f) : FrV D K p w (fun g => S g ∨ v.ownBlock = some g) N v f := by
 obtain ⟨hS, hN, xs, h1, h2⟩ := h
 have h2' : rowG D K p w (fun g => S g ∨ v.ownBlock = some g) N xs f := h2.kept hD (fun _ _ => rfl) (fun g hg => .inl hg) (fun _ _ => rfl) (fun _ hg => hg)
 have hh := h1
 rcases h1.2 with ⟨rfl, h0⟩ | ⟨g, cap, cur, rfl, hb, hg, hnc, hcm, hcs, ht⟩
 ·exact ⟨none, 0, by rw [h0], by omega, fun h => absurd h (by omega)⟩
 ·refine ⟨_, cap, rfl, hnc, fun h0 => ⟨g, 0, rfl, .inr rfl, h2'.at (fun j u hj => ?_)⟩⟩
  have hjl : j < xs.length := (List.getElem?_eq_some_iff.1 hj).1
  have hxl : xs.length = f.len * K := h1.1
  rw [World.ownsRow.cellAt hh (0 + j) (by omega), Nat.zero_add, hj]
theorem OwnG.app (hD : StayD D) {xs ys : List Value} {v' : Value} {g : Fr α} (hown : OwnG D e K p w base S N v f) (hxr : rowG D K p w S N xs f)
  (h1 : OwnK e K w' base v' (f.app g).len (xs ++ ys)) (h2 : w.grownBy w' v.ownBlock) (h3 : v'.ownBlock = v.ownBlock ∨ v'.ownBlock = some w.heap.size) (hy : rowG D K p w S N ys g) : OwnG D e K p w' base S N v' (f.app g) := by
 obtain ⟨hS, hN, _⟩ := hown
 have sep : ∀ k, k < w.heap.size → some k ≠ v.ownBlock → some k ≠ v'.ownBlock := by
  intro k hk hne
  rcases h3 with h | h
  ·rw [h]; exact hne
  ·rw [h]; intro h'; injection h' with h'; omega
 exact ⟨fun k hk => ⟨Nat.lt_of_lt_of_le (hS k hk).1 h2.size, sep k (hS k hk).1 (hS k hk).2⟩, fun k hk => ⟨Nat.lt_of_lt_of_le (hN k hk).1 h2.size, sep k (hN k hk).1 (hN k hk).2⟩, xs ++ ys, h1,
  (rowG.app hy hxr).kept hD (fun k hk => h2.block k (hS k hk).1 (hS k hk).2) (fun _ h => h) (fun k hk => h2.block k (hN k hk).1 (hN k hk).2) (fun _ h => h)⟩
end
def IsRow (k : IntKind) (w : World) (a : Option Addr) (len cap : Nat) (zs : List Int) : Prop :=
 (a = none ∧ len = 0 ∧ cap = 0 ∧ zs = []) ∨
 ∃ x, a = some x ∧ len ≤ cap ∧ cap ≤ maxLen ∧ zs.length = cap ∧ (∀ i, i < zs.length → w.cell? (x.add i) = some (.int k (zs.getD i 0))) ∧ ∀ n ∈ zs, (Lit.int k n).wf = true
theorem IsRow.rd {w : World} {a : Option Addr} {len cap : Nat} {zs : List Int} (h : IsRow .u8 w a len cap zs) (hl : len ≤ 140737488355328) :
  ∃ d l, l.length = len ∧ d ≤ w.heap.size ∧ Rd w d (.slice a len cap) l := by
 rcases h with ⟨rfl, rfl, rfl, rfl⟩ | ⟨x, rfl, hlc, hcm, hz, hcell, hwf⟩
 ·exact ⟨0, [], rfl, Nat.zero_le _, Rd.nil _ _⟩
 ·have hlen : ((zs.take len).map fun n => UInt8.ofNat n.toNat).length = len := by simp; omega
  by_cases h0 : 0 < len
  ·have hx : x.spot = none := World.cell?_spot (by have := hcell 0 (by omega); simpa [Addr.add] using this)
   obtain ⟨b, off, sp⟩ := x
   have hsp : sp = none := hx
   subst hsp
   have hlt : b < w.heap.size := by
    have := World.block_lt_of_cell? w _ (hcell 0 (by omega))
    simpa [Addr.add] using this
   refine ⟨b, (zs.take len).map fun n => UInt8.ofNat n.toNat, hlen, by omega, _, cap, by rw [hlen], by omega, by omega, fun _ => ⟨off, rfl, fun j y hj => ?_⟩⟩
   have hjl : j < len := by have := (List.getElem?_eq_some_iff.1 hj).1; omega
   have hc := hcell j (by omega)
   have e : (⟨b, off, none⟩ : Addr).add j = ⟨b, off + j, none⟩ := by unfold Addr.add; split <;> simp_all
   rw [e] at hc
   rw [hc]
   have hjz : j < zs.length := by omega
   have hy : y = UInt8.ofNat (zs[j]).toNat := by
    rw [List.getElem?_map, List.getElem?_take_of_lt hjl, List.getElem?_eq_getElem hjz] at hj
    simpa using hj.symm
   obtain ⟨b0, b1⟩ := bounds_u8 (hwf zs[j] (List.getElem_mem hjz))
   rw [hy]
   unfold byteV
   rw [ofNat_toNat]
   have hg : zs.getD j 0 = zs[j] := by simp [List.getD, List.getElem?_eq_getElem hjz]
   rw [hg]
   congr 2
   omega
  ·have : len = 0 := by omega
   subst this
   exact ⟨0, [], rfl, Nat.zero_le _, _, cap, rfl, Nat.zero_le _, by simp, fun hp => absurd hp (by simp)⟩
def RdN (k : IntKind) (w : World) (d : Nat) (v : Value) (xs : List Nat) : Prop :=
 ∃ A c, v = .slice A xs.length c ∧ xs.length ≤ c ∧ (0 < xs.length → d < w.heap.size ∧ ∃ off, A = some ⟨d, off, none⟩ ∧ ∀ j x : Nat, xs[j]? = some x → w.cell? ⟨d, off + j, none⟩ = some (.int k (x : Int)))
theorem RdN.below {k : IntKind} {w w' : World} {d : Nat} {v : Value} {xs : List Nat} (h : RdN k w d v xs) (hb : Below w.heap.size w w') : RdN k w' d v xs := by
 obtain ⟨A, c, rfl, h1, h2⟩ := h
 refine ⟨A, c, rfl, h1, fun hp => ?_⟩
 obtain ⟨hlt, off, rfl, hc⟩ := h2 hp
 exact ⟨Nat.lt_of_lt_of_le hlt hb.size, off, rfl, fun j x hx => (hb.cell (p := ⟨d, off + j, none⟩) hlt).trans (hc j x hx)⟩
theorem RdN.grown {k : IntKind} {w w' : World} {d g : Nat} {v : Value} {xs : List Nat} (h : RdN k w d v xs) (hb : w.grownBy w' (some g)) (hd : 0 < xs.length → d ≠ g) : RdN k w' d v xs := by
 obtain ⟨A, c, rfl, h1, h2⟩ := h
 refine ⟨A, c, rfl, h1, fun hp => ?_⟩
 obtain ⟨hlt, off, rfl, hc⟩ := h2 hp
 refine ⟨Nat.lt_of_lt_of_le hlt hb.size, off, rfl, fun j x hx => hb.cell (hc j x hx) ?_⟩
 intro e
 injection e with e
 exact hd hp e
section
variable {w : World} {d n c : Nat} {A : Option Addr} {l : List UInt8}
theorem Rd.cap (h : Rd w d (.slice A n c) l) : l.length = n ∧ n ≤ c := by
 obtain ⟨A', c', e, h1, _⟩ := h
 injection e with _ e2 e3
 omega
end
def txt (l : List UInt8) : ByteArray := ⟨l.toArray⟩
theorem txt_size (l : List UInt8) : (txt l).size = l.length := by simp [txt, ByteArray.size]
theorem txt_data (l : List UInt8) : (txt l).data.toList = l := by simp [txt]
theorem txt_ext {a b : ByteArray} (h : a.data.toList = b.data.toList) : a = b := by
 cases a; cases b
 simp only [ByteArray.mk.injEq]
 exact Array.toList_inj.1 h
theorem txt_toList (l : List UInt8) : (txt l).toList = l := by rw [Lib.toList_data, txt_data]
theorem txt_some {l : List UInt8} (h : 0 < l.length) : (!(txt l).toList.isEmpty) = true := by
 rw [txt_toList]
 cases l with
 | nil => simp at h
 | cons => rfl
theorem txt_none : (!(txt []).toList.isEmpty) = false := by rw [txt_toList]; rfl
def Vals (w : World) (d : Nat) (v : Value) (xs : List Value) : Prop :=
 ∃ A c, v = .slice A xs.length c ∧ xs.length ≤ c ∧ (0 < xs.length → d < w.heap.size ∧ ∃ off, A = some ⟨d, off, none⟩ ∧ ∀ j u, xs[j]? = some u → w.cell? ⟨d, off + j, none⟩ = some u)
section
variable {w w' : World} {d : Nat} {v : Value} {xs : List Value}
theorem Vals.shape (h : Vals w d v xs) : ∃ A c, v = .slice A xs.length c := by obtain ⟨A, c, h, _⟩ := h; exact ⟨A, c, h⟩
theorem Vals.nil (w : World) (d : Nat) : Vals w d (.slice none 0 0) [] := ⟨none, 0, rfl, Nat.le_refl _, fun h => absurd h (by simp)⟩
theorem Vals.below {B : Nat} (h : Vals w d v xs) (hb : Below B w w') (hd : 0 < xs.length → d < B) : Vals w' d v xs := by
 obtain ⟨A, c, rfl, h1, h2⟩ := h
 refine ⟨A, c, rfl, h1, fun hp => ?_⟩
 obtain ⟨hlt, off, rfl, hc⟩ := h2 hp
 exact ⟨Nat.lt_of_lt_of_le hlt hb.size, off, rfl, fun j x hx => (hb.cell (p := ⟨d, off + j, none⟩) (hd hp)).trans (hc j x hx)⟩
theorem Vals.lt (h : Vals w d v xs) (hp : 0 < xs.length) : d < w.heap.size := by obtain ⟨A, c, rfl, h1, h2⟩ := h; exact (h2 hp).1
theorem Vals.below' (h : Vals w d v xs) (hb : Below w.heap.size w w') : Vals w' d v xs := h.below hb h.lt
theorem Vals.at {A : Option Addr} {n c : Nat} (h : Vals w d (.slice A n c) xs) {j : Nat} {u : Value} (hj : xs[j]? = some u) :
  ∃ off, A = some ⟨d, off, none⟩ ∧ d < w.heap.size ∧ j < n ∧ n = xs.length ∧ w.cell? ⟨d, off + j, none⟩ = some u := by
 obtain ⟨A', c', he, h1, h2⟩ := h
 injection he with e1 e2 e3
 subst e1 e2 e3
 have hjl : j < xs.length := (List.getElem?_eq_some_iff.1 hj).1
 obtain ⟨hlt, off, rfl, hc⟩ := h2 (by omega)
 exact ⟨off, rfl, hlt, hjl, rfl, hc j u hj⟩
end
def OwnV (e : TypeId) (w : World) (base : Nat) (v : Value) (xs : List Value) : Prop := w.ownsRow base e 1 v xs.length xs
section
variable {w w' : World} {e : TypeId} {base : Nat} {v : Value} {xs : List Value}
theorem OwnV.nil (w : World) (base : Nat) : OwnV e w base (.slice none 0 0) [] := World.ownsRow_nil w base e 1
theorem OwnV.below (h : OwnV e w base v xs) (hb : Below w.heap.size w w') : OwnV e w' base v xs :=
 World.ownsRow.kept h ⟨hb.os, hb.tape, hb.output, hb.size, fun k hk _ => hb.block k hk⟩ (row := none) (by cases hv : v.ownBlock <;> simp)
theorem OwnV.lt (h : OwnV e w base v xs) : ∀ k, v.ownBlock = some k → base ≤ k ∧ k < w.heap.size := fun k hk => World.ownsRow.lt h k hk
end
def AppV (e : TypeId) (w : World) (base : Nat) (v : Value) (xs : List Value) (v' : Value) (w' : World) : Prop :=
 OwnV e w' base v' xs ∧ w.grownBy w' v.ownBlock ∧ (v'.ownBlock = v.ownBlock ∨ v'.ownBlock = some w.heap.size) ∧ ∃ g c, v' = .slice (some ⟨g, 0, none⟩) xs.length c
theorem AppV.below {e : TypeId} {w w' : World} {base : Nat} {v v' : Value} {xs ys : List Value} (h : AppV e w base v xs v' w') (hown : OwnV e w base v ys) (hb : base ≤ w.heap.size) : Below base w w' :=
 (Below.refl _ _).grown h.2.1 hb fun k e => (hown.lt k e).1
def txts (ls : List (List UInt8)) : List Value := ls.map fun l => .string (txt l)
theorem txts_at {ls : List (List UInt8)} {j : Nat} {l : List UInt8} (h : ls[j]? = some l) : (txts ls)[j]? = some (.string (txt l)) := by simp [txts, h]
abbrev ltY (a b : List UInt8) : Bool := Go.Op.bytesLess a b
theorem u8_lt_irrefl (a : UInt8) : ¬ a < a := by rw [UInt8.lt_iff_toNat_lt]; omega
theorem ltB_irrefl : ∀ a : List UInt8, ltY a a = false := by
 intro a
 induction a with
 | nil => rfl
 | cons x a ih =>
  have h : ltY (x :: a) (x :: a) = (decide (x < x) || (x == x && ltY a a)) := rfl
  rw [h, ih]
  simp [u8_lt_irrefl]
theorem ltB_nil (a : List UInt8) : ltY a [] = false := by cases a <;> rfl
theorem ltB_cons (x y : UInt8) (a b : List UInt8) : ltY (x :: a) (y :: b) = true ↔ x.toNat < y.toNat ∨ (x = y ∧ ltY a b = true) := by
 have h : ltY (x :: a) (y :: b) = (decide (x < y) || (x == y && ltY a b)) := rfl
 rw [h]
 simp [UInt8.lt_iff_toNat_lt]
theorem ltB_trans : ∀ a b c : List UInt8, ltY a b = true → ltY b c = true → ltY a c = true := by
 intro a
 induction a with
 | nil =>
  intro b c h1 h2
  cases c with
  | nil => rw [ltB_nil] at h2; cases h2
  | cons => rfl
 | cons x a ih =>
  intro b c h1 h2
  cases b with
  | nil => rw [ltB_nil] at h1; cases h1
  | cons y b =>
   cases c with
   | nil => rw [ltB_nil] at h2; cases h2
   | cons z c =>
    rw [ltB_cons] at h1 h2 ⊢
    rcases h1 with h1 | ⟨rfl, h1⟩
    ·rcases h2 with h2 | ⟨rfl, h2⟩
     ·exact .inl (by omega)
     ·exact .inl h1
    ·rcases h2 with h2 | ⟨rfl, h2⟩
     ·exact .inl h2
     ·exact .inr ⟨rfl, ih b c h1 h2⟩
structure NdD where
 name : List UInt8
 key : List UInt8
 kind : Int
 num : Nat
 text : List UInt8
theorem NdD.ext_ {a b : NdD} (h1 : a.name = b.name) (h2 : a.key = b.key) (h3 : a.kind = b.kind) (h4 : a.num = b.num) (h5 : a.text = b.text) : a = b := by
 cases a; cases b; simp_all
instance : DecidableEq NdD := fun a b => decidable_of_iff (a.name = b.name ∧ a.key = b.key ∧ a.kind = b.kind ∧ a.num = b.num ∧ a.text = b.text)
 ⟨fun ⟨h1, h2, h3, h4, h5⟩ => NdD.ext_ h1 h2 h3 h4 h5, fun h => by subst h; exact ⟨rfl, rfl, rfl, rfl, rfl⟩⟩
abbrev NdF := Fr NdD
abbrev Nd := NdD × NdF
abbrev Stp := List UInt8 × List UInt8
abbrev zeroT : NdD := ⟨[], [], 0, 0, []⟩
abbrev noN : Nd := (zeroT, .nil)
def stp (a : NdD) : Stp := (a.name, a.key)
def lessS (s t : Stp) : Bool := ltY s.1 t.1 || (decide (s.1 = t.1) && ltY s.2 t.2)
def lessX (a b : NdD) : Bool := lessS (stp a) (stp b)
theorem lessS_iff (s t : Stp) : lessS s t = true ↔ ltY s.1 t.1 = true ∨ (s.1 = t.1 ∧ ltY s.2 t.2 = true) := by simp [lessS]
theorem lessS_trans {s t u : Stp} (h1 : lessS s t = true) (h2 : lessS t u = true) : lessS s u = true := by
 rw [lessS_iff] at h1 h2 ⊢
 rcases h1 with h1 | ⟨e, h1⟩
 ·rcases h2 with h2 | ⟨e2, h2⟩
  ·exact .inl (ltB_trans _ _ _ h1 h2)
  ·exact .inl (e2 ▸ h1)
 ·rcases h2 with h2 | ⟨e2, h2⟩
  ·exact .inl (e ▸ h2)
  ·exact .inr ⟨e.trans e2, ltB_trans _ _ _ h1 h2⟩
def hdLess (a : NdD) : NdF → Bool
 | .nil => true
 | .cons b _ _ => lessX a b
def rgtF : NdF → Bool
 | .nil => true
 | .cons a k r => ((if a.kind ≠ 0 then decide (k.len = 0) else (decide (a.num = 0) && decide (a.text = []) && rgtF k)) && hdLess a r) && rgtF r
def rgtX (x : Nd) : Bool := if x.1.kind ≠ 0 then decide (x.2.len = 0) else (decide (x.1.num = 0) && decide (x.1.text = []) && rgtF x.2)
theorem rightF_cons (a : NdD) (k r : NdF) : rgtF (.cons a k r) = (rgtX (a, k) && hdLess a r && rgtF r) := rfl
def sizeX (x : Nd) : Nat := x.2.size + 1
def allGt (s : Stp) : NdF → Prop
 | .nil => True
 | .cons a _ r => lessS s (stp a) = true ∧ allGt s r
theorem allGt.mono {s t : Stp} (h : lessS s t = true) : ∀ {f : NdF}, allGt t f → allGt s f := by
 intro f
 induction f with
 | nil => intro _; trivial
 | cons a k r _ ih => intro ⟨h1, h2⟩; exact ⟨lessS_trans h h1, ih h2⟩
def okAt (f : NdF) (i : Nat) : Bool := match f.get? i with
 | none => true
 | some y => rgtX y && (match i with | 0 => true | j + 1 => match f.get? j with | none => true | some z => lessX z.1 y.1)
theorem right_at : ∀ {f : NdF}, rgtF f = true ↔ ∀ i, i < f.len → okAt f i = true := by
 intro f
 induction f with
 | nil => exact ⟨fun _ i h => by simp [Fr.len] at h, fun _ => rfl⟩
 | cons a k r _ ih =>
  rw [rightF_cons]
  simp only [Bool.and_eq_true]
  constructor
  ·intro ⟨⟨h1, h2⟩, h3⟩ i hi
   cases i with
   | zero => simp [okAt, Fr.get?, h1]
   | succ i =>
    have h4 := ih.1 h3 i (by simp only [Fr.len] at hi; omega)
    cases i with
    | zero =>
     cases r with
     | nil => simp [Fr.len] at hi
     | cons b q s => simp only [okAt, Fr.get?, Bool.and_true] at h4 ⊢; simp only [hdLess] at h2; rw [h4, h2]; rfl
    | succ j => simpa [okAt, Fr.get?] using h4
  ·intro h
   refine ⟨⟨?_, ?_⟩, ih.2 fun i hi => ?_⟩
   ·have := h 0 (by simp [Fr.len])
    simpa [okAt, Fr.get?] using this
   ·cases r with
    | nil => rfl
    | cons b q s =>
     have := h 1 (by simp [Fr.len])
     simp only [okAt, Fr.get?, Bool.and_eq_true] at this
     exact this.2
   ·have h4 := h (i + 1) (by simp only [Fr.len]; omega)
    cases i with
    | zero =>
     cases r with
     | nil => simp [Fr.len] at hi
     | cons b q s => simp only [okAt, Fr.get?, Bool.and_eq_true] at h4 ⊢; simp [h4.1]
    | succ j => simpa [okAt, Fr.get?] using h4
theorem right_none {f : NdF} {i : Nat} (hi : i < f.len) (h : okAt f i = false) : rgtF f = false := by
 cases h2 : rgtF f with
 | false => rfl
 | true => rw [right_at.1 h2 i hi] at h; cases h
def findN (s : Stp) : NdF → Option Nat
 | .nil => none
 | .cons a _ r => if stp a = s then some 0 else (findN s r).map (· + 1)
def findIx (s : Stp) (f : NdF) : Int := match findN s f with
 | none => -1
 | some i => (i : Int)
def gtF (s : Stp) : NdF → Option Nd
 | .nil => none
 | .cons a k r => if stp a = s then some (a, k) else gtF s r
def delF (s : Stp) : NdF → NdF
 | .nil => .nil
 | .cons a k r => if stp a = s then r else .cons a k (delF s r)
theorem find_get {s : Stp} : ∀ {f : NdF}, gtF s f = (findN s f).bind f.get? := by
 intro f
 induction f with
 | nil => rfl
 | cons a k r _ ih =>
  simp only [gtF, findN]
  split
  ·rfl
  ·rw [ih]
   cases findN s r <;> rfl
theorem find_stp {s : Stp} : ∀ {f : NdF} {i : Nat}, findN s f = some i → ∃ y, f.get? i = some y ∧ stp y.1 = s ∧ gtF s f = some y := by
 intro f
 induction f with
 | nil => intro i h; cases h
 | cons a k r _ ih =>
  intro i h
  simp only [findN] at h
  split at h
  ·injection h with h; subst h; rename_i e; exact ⟨(a, k), rfl, e, by simp [gtF, e]⟩
  ·rename_i e
   cases hr : findN s r with
   | none => rw [hr] at h; cases h
   | some j =>
    rw [hr] at h
    injection h with h
    subst h
    obtain ⟨y, h1, h2, h3⟩ := ih hr
    exact ⟨y, h1, h2, by simp [gtF, e, h3]⟩
theorem findN_none {s : Stp} {f : NdF} (h : findN s f = none) : gtF s f = none := by rw [find_get, h]; rfl
theorem find_lt {s : Stp} : ∀ {f : NdF} {i : Nat}, (∀ j, j < i → ∀ y, f.get? j = some y → stp y.1 ≠ s) → (∃ y, f.get? i = some y ∧ stp y.1 = s) → findN s f = some i := by
 intro f
 induction f with
 | nil => intro i _ ⟨y, h, _⟩; cases h
 | cons a k r _ ih =>
  intro i h1 ⟨y, h2, h3⟩
  cases i with
  | zero =>
   injection h2 with h2
   subst h2
   simp [findN, h3]
  | succ i =>
   have h4 := h1 0 (by omega) (a, k) rfl
   have h5 := ih (i := i) (fun j hj y hy => h1 (j + 1) (by omega) y hy) ⟨y, h2, h3⟩
   simp only [findN]
   rw [if_neg h4, h5]
   rfl
theorem find_out {s : Stp} : ∀ {f : NdF}, (∀ j, j < f.len → ∀ y, f.get? j = some y → stp y.1 ≠ s) → findN s f = none := by
 intro f
 induction f with
 | nil => intro _; rfl
 | cons a k r _ ih =>
  intro h
  simp only [findN]
  rw [if_neg (h 0 (by simp [Fr.len]) (a, k) rfl), ih (fun j hj y hy => h (j + 1) (by simp only [Fr.len]; omega) y hy)]
  rfl
theorem del_size {s : Stp} {z : Nd} : ∀ {f : NdF}, gtF s f = some z → (delF s f).size + sizeX z = f.size := by
 intro f
 induction f with
 | nil => intro h; cases h
 | cons a k r _ ih =>
  intro h
  simp only [gtF] at h
  simp only [delF]
  split at h
  ·rename_i e; injection h with h; subst h; rw [if_pos e]; simp only [Fr.size, sizeX]; omega
  ·rename_i e; rw [if_neg e]; have := ih h; simp only [Fr.size]; omega
theorem getF_size {s : Stp} {z : Nd} {f : NdF} (h : gtF s f = some z) : sizeX z ≤ f.size := by
 have := del_size h; omega
def getX : Nd → List Stp → Option Nd
 | x, [] => some x
 | x, s :: l => match gtF s x.2 with
  | none => none
  | some y => getX y l
def GetX (x : Nd) (l : List Stp) : Nd × Bool := match getX x l with
 | some y => (y, true)
 | none => (noN, false)
theorem get_size : ∀ (l : List Stp) (x z : Nd), getX x l = some z → sizeX z ≤ sizeX x := by
 intro l
 induction l with
 | nil => intro x z h; injection h with h; subst h; exact Nat.le_refl _
 | cons s l ih =>
  intro x z h
  rw [getX.eq_def] at h
  simp only at h
  cases h1 : gtF s x.2 with
  | none => rw [h1] at h; cases h
  | some u =>
   rw [h1] at h
   have h2 := ih u z h
   have h3 := getF_size h1
   simp only [sizeX] at h2 h3 ⊢
   omega
def parts : List Stp → List Stp → Prop
 | s :: a, t :: b => s ≠ t ∨ parts a b
 | _, _ => False
end Go.Proofs.YtodlhgflfcadmaaGreat
