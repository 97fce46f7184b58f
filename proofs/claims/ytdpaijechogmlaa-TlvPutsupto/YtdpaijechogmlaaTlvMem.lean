/-
  Items within items in memory: a slice that reads as them (the program's own items, and the document's). No program walked, no condition but those of each theorem.
-/
import Derived.Test.YtdpaijechogmlaaTlvMath
import Derived.Test.YtdpaijechogmlaaOctRef
namespace Go.Proofs.Ytdpaijechogmlaa
open Go.RowKit

namespace Fo
def drop : Nat → Fo → Fo
  | 0, f => f
  | _ + 1, nil => nil
  | n + 1, cons _ _ _ r => drop n r
def take : Nat → Fo → Fo
  | 0, _ => nil
  | _ + 1, nil => nil
  | n + 1, cons t d k r => cons t d k (take n r)
theorem take_app_drop (n : Nat) : ∀ f : Fo, (take n f).app (drop n f) = f := by
  induction n with
  | zero => intro f; rfl
  | succ n ih =>
    intro f
    cases f with
    | nil => rfl
    | cons t d k r => simp only [take, drop, app, ih]
theorem take_all (f : Fo) : take f.len f = f := by
  induction f with
  | nil => rfl
  | cons t d k r _ ih => simp only [len, take, ih]
theorem len_drop (n : Nat) : ∀ f : Fo, (drop n f).len = f.len - n := by
  induction n with
  | zero => intro f; rfl
  | succ n ih =>
    intro f
    cases f with
    | nil => simp [drop, len]
    | cons t d k r => simp only [drop, len, ih]; omega
theorem len_take (n : Nat) : ∀ f : Fo, n ≤ f.len → (take n f).len = n := by
  induction n with
  | zero => intro f _; rfl
  | succ n ih =>
    intro f h
    cases f with
    | nil => simp [len] at h
    | cons t d k r => simp only [take, len]; rw [ih r (by simp only [len] at h; omega)]
/-- The item at a place. -/
theorem drop_cons {n : Nat} : ∀ {f : Fo}, n < f.len → ∃ t d k, drop n f = cons t d k (drop (n + 1) f) ∧ take (n + 1) f = (take n f).app (cons t d k nil) := by
  induction n with
  | zero =>
    intro f h
    cases f with
    | nil => simp [len] at h
    | cons t d k r => exact ⟨t, d, k, rfl, rfl⟩
  | succ n ih =>
    intro f h
    cases f with
    | nil => simp [len] at h
    | cons t d k r =>
      obtain ⟨t', d', k', h1, h2⟩ := ih (f := r) (by simp only [len] at h; omega)
      refine ⟨t', d', k', h1, ?_⟩
      show cons t d k (take (n + 1) r) = cons t d k ((take n r).app _)
      rw [h2]

/-- P holds of each item's kids. -/
def kidsAll (P : Fo → Prop) : Fo → Prop
  | nil => True
  | cons _ _ k r => P k ∧ kidsAll P r
theorem kidsAll_drop {P : Fo → Prop} (n : Nat) : ∀ {f : Fo}, kidsAll P f → kidsAll P (drop n f) := by
  induction n with
  | zero => intro f h; exact h
  | succ n ih =>
    intro f h
    cases f with
    | nil => exact h
    | cons t d k r => exact ih h.2
/-- What holds of items of whose kids it holds holds of all. -/
theorem byKids {P : Fo → Prop} (h : ∀ f, kidsAll P f → P f) (f : Fo) : P f := by
  have both : ∀ f, P f ∧ kidsAll P f := by
    intro f
    induction f with
    | nil => exact ⟨h _ trivial, trivial⟩
    | cons t d k r ihk ihr => exact ⟨h _ ⟨ihk.1, ihr.2⟩, ⟨ihk.1, ihr.2⟩⟩
  exact (both f).1
end Fo

/-- What an item's data reads as: D; S: in which blocks it lies. -/
def FAt (D : World → (Nat → Prop) → Value → List UInt8 → Prop) (w : World) (S : Nat → Prop) : Fo → Nat → Nat → Prop
  | .nil, _, _ => True
  | .cons t d k r, b, o => w.cell? ⟨b, o, none⟩ = some (.int .u64 (t : Int)) ∧ t < 18446744073709551616 ∧ (∃ v, w.cell? ⟨b, o + 1, none⟩ = some v ∧ D w S v d) ∧
      (∃ A c, w.cell? ⟨b, o + 2, none⟩ = some (.slice A k.len c) ∧ k.len ≤ c ∧ (0 < k.len → ∃ b' o', A = some ⟨b', o', none⟩ ∧ S b' ∧ FAt D w S k b' o')) ∧ FAt D w S r b (o + 3)

/-- The slice v reads as the items f. -/
def FV (D : World → (Nat → Prop) → Value → List UInt8 → Prop) (w : World) (S : Nat → Prop) (v : Value) (f : Fo) : Prop :=
  ∃ A c, v = .slice A f.len c ∧ f.len ≤ c ∧ (0 < f.len → ∃ b o, A = some ⟨b, o, none⟩ ∧ S b ∧ FAt D w S f b o)

/-- The program's items hold slices of bytes, the document's texts. -/
def DataI (w : World) (S : Nat → Prop) (v : Value) (d : List UInt8) : Prop := ∃ db, Rd w db v d ∧ (0 < d.length → S db)
def DataR (_ : World) (_ : Nat → Prop) (v : Value) (d : List UInt8) : Prop := v = .string (txt d)

/-- D says the same wherever the blocks of S lie as they lay. -/
def Stays (D : World → (Nat → Prop) → Value → List UInt8 → Prop) : Prop :=
  ∀ (w w' : World) (S S' : Nat → Prop) v d, (∀ g, S g → w'.heap[g]? = w.heap[g]?) → (∀ g, S g → S' g) → D w S v d → D w' S' v d
theorem stays_I : Stays DataI := fun w w' S S' v d hk hS ⟨db, hr, hs⟩ => by
  by_cases h0 : 0 < d.length
  · exact ⟨db, hr.heap (hk db (hs h0)), fun h => hS _ (hs h)⟩
  · have hd : d = [] := List.eq_nil_of_length_eq_zero (by omega)
    subst hd
    obtain ⟨A, c, rfl, h1, h2, _⟩ := hr
    exact ⟨db, ⟨A, c, rfl, h1, h2, fun h => absurd h (by simp)⟩, fun h => absurd h (by simp)⟩
theorem stays_R : Stays DataR := fun _ _ _ _ _ _ _ _ h => h

section
variable {D : World → (Nat → Prop) → Value → List UInt8 → Prop} {w w' : World} {S S' : Nat → Prop}
theorem FAt.kept (hD : Stays D) (hk : ∀ g, S g → w'.heap[g]? = w.heap[g]?) (hS : ∀ g, S g → S' g) : ∀ {f : Fo} {b o : Nat}, S b → FAt D w S f b o → FAt D w' S' f b o := by
  intro f
  induction f with
  | nil => intro b o _ _; trivial
  | cons t d k r ihk ihr =>
    intro b o hb ⟨h1, ht, ⟨v, h2, h3⟩, ⟨A, c, h4, h5, h6⟩, h7⟩
    have hc : ∀ i, w'.cell? ⟨b, i, none⟩ = w.cell? ⟨b, i, none⟩ := fun i => World.cell?_of_block (w := w) (hk b hb)
    refine ⟨(hc _).trans h1, ht, ⟨v, (hc _).trans h2, hD _ _ _ _ _ _ hk hS h3⟩, ⟨A, c, (hc _).trans h4, h5, fun h0 => ?_⟩, ihr hb h7⟩
    obtain ⟨b', o', h8, h9, h10⟩ := h6 h0
    exact ⟨b', o', h8, hS _ h9, ihk h9 h10⟩
theorem FV.kept {v : Value} {f : Fo} (hD : Stays D) (h : FV D w S v f) (hk : ∀ g, S g → w'.heap[g]? = w.heap[g]?) (hS : ∀ g, S g → S' g) : FV D w' S' v f := by
  obtain ⟨A, c, rfl, h1, h2⟩ := h
  refine ⟨A, c, rfl, h1, fun h0 => ?_⟩
  obtain ⟨b, o, h3, h4, h5⟩ := h2 h0
  exact ⟨b, o, h3, hS _ h4, h5.kept hD hk hS h4⟩
theorem FV.nil (w : World) (S : Nat → Prop) : FV D w S (.slice none 0 0) .nil := ⟨none, 0, rfl, Nat.le_refl _, fun h => absurd h (by simp [Fo.len])⟩
theorem FAt.drop (n : Nat) : ∀ {f : Fo} {b o : Nat}, FAt D w S f b o → FAt D w S (Fo.drop n f) b (o + n * 3) := by
  induction n with
  | zero => intro f b o h; simpa [Fo.drop] using h
  | succ n ih =>
    intro f b o h
    cases f with
    | nil => trivial
    | cons t d k r =>
      have h7 := ih h.2.2.2.2
      have e : o + 3 + n * 3 = o + (n + 1) * 3 := by omega
      rw [e] at h7
      exact h7
/-- The item at a place: its cells. -/
theorem FV.at {v : Value} {f : Fo} (h : FV D w S v f) {n : Nat} (hn : n < f.len) :
    ∃ b o c t d k, v = .slice (some ⟨b, o, none⟩) f.len c ∧ f.len ≤ c ∧ S b ∧ Fo.drop n f = .cons t d k (Fo.drop (n + 1) f) ∧ Fo.take (n + 1) f = (Fo.take n f).app (.cons t d k .nil) ∧ t < 18446744073709551616 ∧
      w.cell? ⟨b, o + n * 3, none⟩ = some (.int .u64 (t : Int)) ∧ (∃ dv, w.cell? ⟨b, o + n * 3 + 1, none⟩ = some dv ∧ D w S dv d) ∧ (∃ kv, w.cell? ⟨b, o + n * 3 + 2, none⟩ = some kv ∧ FV D w S kv k) := by
  obtain ⟨A, c, rfl, h1, h2⟩ := h
  obtain ⟨b, o, rfl, h3, h4⟩ := h2 (by omega)
  obtain ⟨t, d, k, h5, h6⟩ := Fo.drop_cons hn
  have h7 := h4.drop n
  rw [h5] at h7
  obtain ⟨g1, gt, ⟨dv, g2, g3⟩, ⟨A', c', g4, g5, g6⟩, _⟩ := h7
  exact ⟨b, o, c, t, d, k, rfl, h1, h3, h5, h6, gt, g1, ⟨dv, g2, g3⟩, ⟨_, g4, A', c', rfl, g5, g6⟩⟩
theorem FV.shape {v : Value} {f : Fo} (h : FV D w S v f) : ∃ A c, v = .slice A f.len c := by
  obtain ⟨A, c, e, _⟩ := h
  exact ⟨A, c, e⟩
end

end Go.Proofs.Ytdpaijechogmlaa
