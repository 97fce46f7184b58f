/- What the laws of package tree want of Forest. -/
import Derived.Test.YtgipnemcmiohlaaZ0RowMem
namespace Go.Proofs.Ytgipnemcmiohlaa
open Go.RowKit
set_option linter.unusedSimpArgs false
/-- Things one behind the other: what the first one holds, what is within it, and the others. -/
inductive Fr (α : Type) where
  | nil
  | cons (a : α) (k r : Fr α)
namespace Fr
variable {α : Type}
def len : Fr α → Nat
  | nil => 0
  | cons _ _ r => r.len + 1
def app : Fr α → Fr α → Fr α
  | nil, g => g
  | cons a k r, g => cons a k (r.app g)
def drop : Nat → Fr α → Fr α
  | 0, f => f
  | _ + 1, nil => nil
  | n + 1, cons _ _ r => drop n r
def take : Nat → Fr α → Fr α
  | 0, _ => nil
  | _ + 1, nil => nil
  | n + 1, cons a k r => cons a k (take n r)
/-- The thing at a place. -/
def get? : Fr α → Nat → Option (α × Fr α)
  | nil, _ => none
  | cons a k _, 0 => some (a, k)
  | cons _ _ r, n + 1 => r.get? n
/-- How many there are, at all depths. -/
def size : Fr α → Nat
  | nil => 0
  | cons _ k r => k.size + r.size + 1
theorem len_cons (a : α) (k r : Fr α) : (cons a k r).len = r.len + 1 := rfl
theorem len_app (f g : Fr α) : (f.app g).len = f.len + g.len := by
  induction f with
  | nil => simp [app, len]
  | cons a k r _ ih => simp only [app, len, ih]; omega
theorem app_nil (f : Fr α) : f.app nil = f := by
  induction f with
  | nil => rfl
  | cons a k r _ ih => simp only [app, ih]
theorem len_size (f : Fr α) : f.len ≤ f.size := by
  induction f with
  | nil => exact Nat.le_refl _
  | cons a k r _ ih => simp only [len, size]; omega
theorem size_app (f g : Fr α) : (f.app g).size = f.size + g.size := by
  induction f with
  | nil => simp [app, size]
  | cons a k r _ ih => simp only [app, size, ih]; omega
theorem take_app_drop (n : Nat) : ∀ f : Fr α, (take n f).app (drop n f) = f := by
  induction n with
  | zero => intro f; rfl
  | succ n ih =>
    intro f
    cases f with
    | nil => rfl
    | cons a k r => simp only [take, drop, app, ih]
theorem take_all (f : Fr α) : take f.len f = f := by
  induction f with
  | nil => rfl
  | cons a k r _ ih => simp only [len, take, ih]
theorem drop_all (f : Fr α) : drop f.len f = nil := by
  induction f with
  | nil => rfl
  | cons a k r _ ih => simp only [len, drop, ih]
theorem len_drop (n : Nat) : ∀ f : Fr α, (drop n f).len = f.len - n := by
  induction n with
  | zero => intro f; rfl
  | succ n ih =>
    intro f
    cases f with
    | nil => simp [drop, len]
    | cons a k r => simp only [drop, len, ih]; omega
theorem len_take (n : Nat) : ∀ f : Fr α, n ≤ f.len → (take n f).len = n := by
  induction n with
  | zero => intro f _; rfl
  | succ n ih =>
    intro f h
    cases f with
    | nil => simp [len] at h
    | cons a k r => simp only [take, len]; rw [ih r (by simp only [len] at h; omega)]
theorem get_some {f : Fr α} : ∀ {n : Nat}, n < f.len → ∃ a k, f.get? n = some (a, k) := by
  induction f with
  | nil => intro n h; simp [len] at h
  | cons a k r _ ih =>
    intro n h
    cases n with
    | zero => exact ⟨a, k, rfl⟩
    | succ n => exact ih (by simp only [len] at h; omega)
theorem get_lt {f : Fr α} : ∀ {n : Nat} {x : α × Fr α}, f.get? n = some x → n < f.len := by
  induction f with
  | nil => intro n x h; cases h
  | cons a k r _ ih =>
    intro n x h
    cases n with
    | zero => simp [len]
    | succ n => have := ih h; simp only [len]; omega
theorem get_drop {f : Fr α} : ∀ {n : Nat} {a : α} {k : Fr α}, f.get? n = some (a, k) → drop n f = cons a k (drop (n + 1) f) ∧ take (n + 1) f = (take n f).app (cons a k nil) := by
  induction f with
  | nil => intro n a k h; cases h
  | cons b q r _ ih =>
    intro n a k h
    cases n with
    | zero => injection h with h; injection h with h1 h2; subst h1 h2; exact ⟨rfl, rfl⟩
    | succ n =>
      obtain ⟨h1, h2⟩ := ih h
      refine ⟨h1, ?_⟩
      show cons b q (take (n + 1) r) = cons b q ((take n r).app _)
      rw [h2]
theorem size_get {f : Fr α} : ∀ {n : Nat} {a : α} {k : Fr α}, f.get? n = some (a, k) → k.size < f.size := by
  induction f with
  | nil => intro n a k h; cases h
  | cons b q r _ ih =>
    intro n a k h
    cases n with
    | zero => injection h with h; injection h with h1 h2; subst h1 h2; simp only [size]; omega
    | succ n => have := ih h; simp only [size]; omega
theorem ext {f : Fr α} : ∀ {g : Fr α}, f.len = g.len → (∀ n, n < f.len → f.get? n = g.get? n) → f = g := by
  induction f with
  | nil =>
    intro g h _
    cases g with
    | nil => rfl
    | cons => simp [len] at h
  | cons a k r _ ih =>
    intro g h hg
    cases g with
    | nil => simp [len] at h
    | cons b q s =>
      have h0 := hg 0 (by simp [len])
      injection h0 with h0
      injection h0 with h1 h2
      rw [h1, h2, ih (g := s) (by simp only [len] at h; omega) (fun n hn => hg (n + 1) (by simp only [len]; omega))]
def eqb [DecidableEq α] : Fr α → Fr α → Bool
  | nil, nil => true
  | cons a k r, cons b q s => decide (a = b) && eqb k q && eqb r s
  | _, _ => false
theorem eqb_iff [DecidableEq α] {f : Fr α} : ∀ {g : Fr α}, eqb f g = true ↔ f = g := by
  induction f with
  | nil =>
    intro g
    cases g with
    | nil => simp [eqb]
    | cons => simp [eqb]
  | cons a k r ihk ihr =>
    intro g
    cases g with
    | nil => simp [eqb]
    | cons b q s => simp [eqb, ihk, ihr, and_assoc]
instance [DecidableEq α] : DecidableEq (Fr α) := fun _ _ => decidable_of_iff _ eqb_iff
/-- P holds of each thing's inside. -/
def kidsAll (P : Fr α → Prop) : Fr α → Prop
  | nil => True
  | cons _ k r => P k ∧ kidsAll P r
theorem kidsAll_get {P : Fr α → Prop} {f : Fr α} : ∀ {n : Nat} {a : α} {k : Fr α}, kidsAll P f → f.get? n = some (a, k) → P k := by
  induction f with
  | nil => intro n a k _ h; cases h
  | cons b q r _ ih =>
    intro n a k hP h
    cases n with
    | zero => injection h with h; injection h with h1 h2; subst h1 h2; exact hP.1
    | succ n => exact ih hP.2 h
/-- What holds of things of whose insides it holds holds of all. -/
theorem byKids {P : Fr α → Prop} (h : ∀ f, (∀ n a k, f.get? n = some (a, k) → P k) → P f) (f : Fr α) : P f := by
  have both : ∀ f, P f ∧ kidsAll P f := by
    intro f
    induction f with
    | nil => exact ⟨h _ (fun n a k e => by cases e), trivial⟩
    | cons a k r ihk ihr =>
      have hk : kidsAll P (cons a k r) := ⟨ihk.1, ihr.2⟩
      exact ⟨h _ (fun n b q e => kidsAll_get hk e), hk⟩
  exact (both f).1
end Fr
/-- What a thing's own cells read as, N the blocks of what they lead to. -/
abbrev RdOf (α : Type) := World → (Nat → Prop) → List Value → α → Prop
/-- The things f lie from place o on in block b, K cells each, the one at p the slice of what is within; S: in which blocks these lie. -/
def FrAt {α : Type} (D : RdOf α) (K p : Nat) (w : World) (S N : Nat → Prop) : Fr α → Nat → Nat → Prop
  | .nil, _, _ => True
  | .cons a k r, b, o => (∃ cs : List Value, cs.length = K ∧ (∀ i u, cs[i]? = some u → w.cell? ⟨b, o + i, none⟩ = some u) ∧ D w N cs a ∧
      ∃ A c, cs[p]? = some (.slice A k.len c) ∧ k.len ≤ c ∧ (0 < k.len → ∃ b' o', A = some ⟨b', o', none⟩ ∧ S b' ∧ FrAt D K p w S N k b' o')) ∧ FrAt D K p w S N r b (o + K)
/-- The slice v reads as the things f. -/
def FrV {α : Type} (D : RdOf α) (K p : Nat) (w : World) (S N : Nat → Prop) (v : Value) (f : Fr α) : Prop :=
  ∃ A c, v = .slice A f.len c ∧ f.len ≤ c ∧ (0 < f.len → ∃ b o, A = some ⟨b, o, none⟩ ∧ S b ∧ FrAt D K p w S N f b o)
/-- The cells cs read as the one thing a, with k within. -/
def FrN {α : Type} (D : RdOf α) (K p : Nat) (w : World) (S N : Nat → Prop) (cs : List Value) (a : α) (k : Fr α) : Prop :=
  cs.length = K ∧ D w N cs a ∧ ∃ v, cs[p]? = some v ∧ FrV D K p w S N v k
/-- D says the same wherever the blocks of N lie as they lay. -/
def StayD {α : Type} (D : RdOf α) : Prop := ∀ (w w' : World) (N N' : Nat → Prop) cs a, (∀ g, N g → w'.heap[g]? = w.heap[g]?) → (∀ g, N g → N' g) → D w N cs a → D w' N' cs a
/-- Each cell of a thing is one. -/
def OneD {α : Type} (D : RdOf α) : Prop := ∀ w N cs a, D w N cs a → ∀ u ∈ cs, u.oneCell' = true
section
variable {α : Type} {D : RdOf α} {K p : Nat} {w w' : World} {S S' N N' : Nat → Prop}
theorem FrAt.kept (hD : StayD D) (hk : ∀ g, S g → w'.heap[g]? = w.heap[g]?) (hS : ∀ g, S g → S' g) (hn : ∀ g, N g → w'.heap[g]? = w.heap[g]?) (hN : ∀ g, N g → N' g) :
    ∀ {f : Fr α} {b o : Nat}, S b → FrAt D K p w S N f b o → FrAt D K p w' S' N' f b o := by
  intro f
  induction f with
  | nil => intro b o _ _; trivial
  | cons a k r ihk ihr =>
    intro b o hb ⟨⟨cs, h1, h2, h3, A, c, h4, h5, h6⟩, h7⟩
    have hc : ∀ i, w'.cell? ⟨b, i, none⟩ = w.cell? ⟨b, i, none⟩ := fun i => World.cell?_of_block (w := w) (hk b hb)
    refine ⟨⟨cs, h1, fun i u hu => (hc _).trans (h2 i u hu), hD _ _ _ _ _ _ hn hN h3, A, c, h4, h5, fun h0 => ?_⟩, ihr hb h7⟩
    obtain ⟨b', o', h8, h9, h10⟩ := h6 h0
    exact ⟨b', o', h8, hS _ h9, ihk h9 h10⟩
theorem FrV.kept {v : Value} {f : Fr α} (hD : StayD D) (h : FrV D K p w S N v f) (hk : ∀ g, S g → w'.heap[g]? = w.heap[g]?) (hS : ∀ g, S g → S' g) (hn : ∀ g, N g → w'.heap[g]? = w.heap[g]?) (hN : ∀ g, N g → N' g) : FrV D K p w' S' N' v f := by
  obtain ⟨A, c, rfl, h1, h2⟩ := h
  refine ⟨A, c, rfl, h1, fun h0 => ?_⟩
  obtain ⟨b, o, h3, h4, h5⟩ := h2 h0
  exact ⟨b, o, h3, hS _ h4, h5.kept hD hk hS hn hN h4⟩
theorem FrN.kept {cs : List Value} {a : α} {k : Fr α} (hD : StayD D) (h : FrN D K p w S N cs a k) (hk : ∀ g, S g → w'.heap[g]? = w.heap[g]?) (hS : ∀ g, S g → S' g) (hn : ∀ g, N g → w'.heap[g]? = w.heap[g]?) (hN : ∀ g, N g → N' g) : FrN D K p w' S' N' cs a k := by
  obtain ⟨h1, h2, v, h3, h4⟩ := h
  exact ⟨h1, hD _ _ _ _ _ _ hn hN h2, v, h3, h4.kept hD hk hS hn hN⟩
theorem FrV.mono {v : Value} {f : Fr α} (hD : StayD D) (h : FrV D K p w S N v f) (hS : ∀ g, S g → S' g) (hN : ∀ g, N g → N' g) : FrV D K p w S' N' v f := h.kept hD (fun _ _ => rfl) hS (fun _ _ => rfl) hN
theorem FrN.mono {cs : List Value} {a : α} {k : Fr α} (hD : StayD D) (h : FrN D K p w S N cs a k) (hS : ∀ g, S g → S' g) (hN : ∀ g, N g → N' g) : FrN D K p w S' N' cs a k := h.kept hD (fun _ _ => rfl) hS (fun _ _ => rfl) hN
theorem FrV.empty (w : World) (S N : Nat → Prop) : FrV D K p w S N (.slice none 0 0) .nil := ⟨none, 0, rfl, Nat.le_refl _, fun h => absurd h (by simp [Fr.len])⟩
theorem FrV.shape {v : Value} {f : Fr α} (h : FrV D K p w S N v f) : ∃ A c, v = .slice A f.len c := by
  obtain ⟨A, c, e, _⟩ := h
  exact ⟨A, c, e⟩
theorem FrAt.drop (n : Nat) : ∀ {f : Fr α} {b o : Nat}, FrAt D K p w S N f b o → FrAt D K p w S N (Fr.drop n f) b (o + n * K) := by
  induction n with
  | zero => intro f b o h; simpa [Fr.drop] using h
  | succ n ih =>
    intro f b o h
    cases f with
    | nil => trivial
    | cons a k r =>
      have h7 := ih h.2
      have e : o + K + n * K = o + (n + 1) * K := by rw [Nat.add_mul]; omega
      rw [e] at h7
      exact h7
/-- The thing at a place: its cells. -/
theorem FrV.at {v : Value} {f : Fr α} (h : FrV D K p w S N v f) {n : Nat} {a : α} {k : Fr α} (hn : f.get? n = some (a, k)) :
    ∃ b o c cs, v = .slice (some ⟨b, o, none⟩) f.len c ∧ f.len ≤ c ∧ S b ∧ FrN D K p w S N cs a k ∧ ∀ i u, cs[i]? = some u → w.cell? ⟨b, o + n * K + i, none⟩ = some u := by
  have hlt := Fr.get_lt hn
  obtain ⟨A, c, rfl, h1, h2⟩ := h
  obtain ⟨b, o, rfl, h3, h4⟩ := h2 (by omega)
  have h7 := h4.drop n
  rw [(Fr.get_drop hn).1] at h7
  obtain ⟨⟨cs, g1, g2, g3, A', c', g4, g5, g6⟩, _⟩ := h7
  exact ⟨b, o, c, cs, rfl, h1, h3, ⟨g1, g3, _, g4, A', c', rfl, g5, g6⟩, g2⟩
end
/-- The cells of things, K each. -/
def rowG {α : Type} (D : RdOf α) (K p : Nat) (w : World) (S N : Nat → Prop) : List Value → Fr α → Prop
  | xs, .nil => xs = []
  | xs, .cons a k r => ∃ cs ys, xs = cs ++ ys ∧ FrN D K p w S N cs a k ∧ rowG D K p w S N ys r
section
variable {α : Type} {D : RdOf α} {K p : Nat} {w w' : World} {S S' N N' : Nat → Prop}
theorem rowG.kept (hD : StayD D) (hk : ∀ g, S g → w'.heap[g]? = w.heap[g]?) (hS : ∀ g, S g → S' g) (hn : ∀ g, N g → w'.heap[g]? = w.heap[g]?) (hN : ∀ g, N g → N' g) : ∀ {f : Fr α} {xs : List Value}, rowG D K p w S N xs f → rowG D K p w' S' N' xs f := by
  intro f
  induction f with
  | nil => intro xs h; exact h
  | cons a k r _ ih =>
    intro xs h
    obtain ⟨cs, ys, rfl, h1, h2⟩ := h
    exact ⟨cs, ys, rfl, h1.kept hD hk hS hn hN, ih h2⟩
theorem rowG.len : ∀ {f : Fr α} {xs : List Value}, rowG D K p w S N xs f → xs.length = f.len * K := by
  intro f
  induction f with
  | nil => intro xs h; rw [show xs = [] from h]; simp [Fr.len]
  | cons a k r _ ih =>
    intro xs h
    obtain ⟨cs, ys, rfl, h1, h2⟩ := h
    rw [List.length_append, h1.1, ih h2, Fr.len_cons, Nat.add_mul]
    omega
theorem rowG.app {g : Fr α} {ys : List Value} (h2 : rowG D K p w S N ys g) : ∀ {f : Fr α} {xs : List Value}, rowG D K p w S N xs f → rowG D K p w S N (xs ++ ys) (f.app g) := by
  intro f
  induction f with
  | nil => intro xs h; rw [show xs = [] from h]; exact h2
  | cons a k r _ ih =>
    intro xs h
    obtain ⟨cs, zs, rfl, g1, g2⟩ := h
    exact ⟨cs, zs ++ ys, by rw [List.append_assoc], g1, ih g2⟩
theorem rowG.one {a : α} {k : Fr α} {cs : List Value} (h : FrN D K p w S N cs a k) : rowG D K p w S N cs (.cons a k .nil) := ⟨cs, [], by simp, h, rfl⟩
theorem rowG.oneCell (hone : OneD D) : ∀ {f : Fr α} {xs : List Value}, rowG D K p w S N xs f → ∀ u ∈ xs, u.oneCell' = true := by
  intro f
  induction f with
  | nil => intro xs h u hu; rw [show xs = [] from h] at hu; cases hu
  | cons a k r _ ih =>
    intro xs h u hu
    obtain ⟨cs, ys, rfl, h1, h2⟩ := h
    rcases List.mem_append.1 hu with hu | hu
    · exact hone _ _ _ _ h1.2.1 u hu
    · exact ih h2 u hu
/-- Cells that read as things, in a block. -/
theorem rowG.at {b : Nat} : ∀ {f : Fr α} {xs : List Value} {o : Nat}, rowG D K p w S N xs f → (∀ j u, xs[j]? = some u → w.cell? ⟨b, o + j, none⟩ = some u) → FrAt D K p w S N f b o := by
  intro f
  induction f with
  | nil => intro xs o _ _; trivial
  | cons a k r _ ih =>
    intro xs o h hc
    obtain ⟨cs, ys, rfl, ⟨g1, g2, v, g3, A, c, rfl, g4, g5⟩, g6⟩ := h
    refine ⟨⟨cs, g1, fun i u hu => hc i u ?_, g2, A, c, g3, g4, g5⟩, ih g6 (fun j u hj => ?_)⟩
    · rw [List.getElem?_append_left (List.getElem?_eq_some_iff.1 hu).1]; exact hu
    · have h := hc (K + j) u (by rw [List.getElem?_append_right (by omega), g1, show K + j - K = j by omega]; exact hj)
      rwa [show o + (K + j) = o + K + j by omega] at h
/-- .. and back: the cells of things that lie in a block. -/
theorem FrAt.row {b : Nat} : ∀ {f : Fr α} {o : Nat}, FrAt D K p w S N f b o → ∃ xs, rowG D K p w S N xs f ∧ ∀ j u, xs[j]? = some u → w.cell? ⟨b, o + j, none⟩ = some u := by
  intro f
  induction f with
  | nil => intro o _; exact ⟨[], rfl, fun j u h => by simp at h⟩
  | cons a k r _ ih =>
    intro o ⟨⟨cs, h1, h2, h3, A, c, h4, h5, h6⟩, h7⟩
    obtain ⟨ys, h8, h9⟩ := ih h7
    refine ⟨cs ++ ys, ⟨cs, ys, rfl, ⟨h1, h3, _, h4, A, c, rfl, h5, h6⟩, h8⟩, fun j u hj => ?_⟩
    by_cases hj0 : j < K
    · rw [List.getElem?_append_left (by omega)] at hj
      exact h2 j u hj
    · rw [List.getElem?_append_right (by omega), h1] at hj
      have := h9 (j - K) u hj
      rwa [show o + K + (j - K) = o + j by omega] at this
end
/-- The slice v, of things f of the type e, is the call's own (from base on); what they lead to lies in S and N, in no way in its own block. -/
def OwnG {α : Type} (D : RdOf α) (e : TypeId) (K p : Nat) (w : World) (base : Nat) (S N : Nat → Prop) (v : Value) (f : Fr α) : Prop :=
  (∀ g, S g → g < w.heap.size ∧ some g ≠ v.ownBlock) ∧ (∀ g, N g → g < w.heap.size ∧ some g ≠ v.ownBlock) ∧ ∃ xs, OwnK e K w base v f.len xs ∧ rowG D K p w S N xs f
section
variable {α : Type} {D : RdOf α} {e : TypeId} {K p : Nat} {w w' : World} {base : Nat} {S S' N N' : Nat → Prop} {v : Value} {f : Fr α}
theorem OwnG.nil (w : World) (base : Nat) : OwnG D e K p w base (fun _ => False) (fun _ => False) (.slice none 0 0) (.nil : Fr α) := ⟨fun _ h => h.elim, fun _ h => h.elim, [], OwnK.nil _ _ _ _, rfl⟩
theorem OwnG.below (hD : StayD D) (h : OwnG D e K p w base S N v f) (hb : Below w.heap.size w w') : OwnG D e K p w' base S N v f := by
  obtain ⟨hS, hN, xs, h1, h2⟩ := h
  exact ⟨fun g hg => ⟨Nat.lt_of_lt_of_le (hS g hg).1 hb.size, (hS g hg).2⟩, fun g hg => ⟨Nat.lt_of_lt_of_le (hN g hg).1 hb.size, (hN g hg).2⟩, xs, h1.below hb,
    h2.kept hD (fun g hg => hb.block g (hS g hg).1) (fun g hg => hg) (fun g hg => hb.block g (hN g hg).1) (fun g hg => hg)⟩
theorem OwnG.lt (h : OwnG D e K p w base S N v f) : ∀ k, v.ownBlock = some k → base ≤ k ∧ k < w.heap.size := by
  obtain ⟨_, _, xs, h1, _⟩ := h
  exact h1.lt
theorem OwnG.shape (h : OwnG D e K p w base S N v f) : ∃ A c, v = .slice A f.len c := by
  obtain ⟨_, _, xs, h1, _⟩ := h
  exact h1.shape
/-- Read as things: the slice's own block beside S. -/
theorem OwnG.frv (hD : StayD D) (h : OwnG D e K p w base S N v f) : FrV D K p w (fun g => S g ∨ v.ownBlock = some g) N v f := by
  obtain ⟨hS, hN, xs, h1, h2⟩ := h
  have h2' : rowG D K p w (fun g => S g ∨ v.ownBlock = some g) N xs f := h2.kept hD (fun _ _ => rfl) (fun g hg => .inl hg) (fun _ _ => rfl) (fun _ hg => hg)
  have hh := h1
  rcases h1.2 with ⟨rfl, h0⟩ | ⟨g, cap, cur, rfl, hb, hg, hnc, hcm, hcs, ht⟩
  · exact ⟨none, 0, by rw [h0], by omega, fun h => absurd h (by omega)⟩
  · refine ⟨_, cap, rfl, hnc, fun h0 => ⟨g, 0, rfl, .inr rfl, h2'.at (fun j u hj => ?_)⟩⟩
    have hjl : j < xs.length := (List.getElem?_eq_some_iff.1 hj).1
    have hxl : xs.length = f.len * K := h1.1
    rw [World.ownsRow.cellAt hh (0 + j) (by omega), Nat.zero_add, hj]
/-- What an append leaves. -/
theorem OwnG.app (hD : StayD D) {xs ys : List Value} {v' : Value} {g : Fr α} (hown : OwnG D e K p w base S N v f) (hxr : rowG D K p w S N xs f)
    (h1 : OwnK e K w' base v' (f.app g).len (xs ++ ys)) (h2 : w.grownBy w' v.ownBlock) (h3 : v'.ownBlock = v.ownBlock ∨ v'.ownBlock = some w.heap.size) (hy : rowG D K p w S N ys g) : OwnG D e K p w' base S N v' (f.app g) := by
  obtain ⟨hS, hN, _⟩ := hown
  have sep : ∀ k, k < w.heap.size → some k ≠ v.ownBlock → some k ≠ v'.ownBlock := by
    intro k hk hne
    rcases h3 with h | h
    · rw [h]; exact hne
    · rw [h]; intro h'; injection h' with h'; omega
  exact ⟨fun k hk => ⟨Nat.lt_of_lt_of_le (hS k hk).1 h2.size, sep k (hS k hk).1 (hS k hk).2⟩, fun k hk => ⟨Nat.lt_of_lt_of_le (hN k hk).1 h2.size, sep k (hN k hk).1 (hN k hk).2⟩, xs ++ ys, h1,
    (rowG.app hy hxr).kept hD (fun k hk => h2.block k (hS k hk).1 (hS k hk).2) (fun _ h => h) (fun k hk => h2.block k (hN k hk).1 (hN k hk).2) (fun _ h => h)⟩
end
end Go.Proofs.Ytgipnemcmiohlaa

