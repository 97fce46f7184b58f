/-
  The reader of package lex in memory: the characters that are left, as numbers with their places. No condition but those of each theorem.
-/
import Derived.Test.YtgpcbfjakgndlaaLexChr
import Derived.Test.YtgpcbfjakgndlaaLexMem
import Derived.Lib.OthersKept
import Derived.Lib.Hide
import Derived.Outline
namespace Go.Proofs.Ytgpcbfjakgndlaa
open Go.RowKit
set_option linter.unusedSimpArgs false

def chC (c : Int × Ps) : List Value := [.int .i32 c.1, .int .i64 (c.2.1 : Int), .int .i64 (c.2.2 : Int)]
theorem chC_len (c : Int × Ps) : (chC c).length = 3 := rfl
theorem chC_one (c : Int × Ps) : ∀ u ∈ chC c, u.oneCell' = true := by
  intro u hu
  simp only [chC, List.mem_cons, List.not_mem_nil, or_false] at hu
  rcases hu with rfl | rfl | rfl <;> rfl
def chs : Ps → List It → List (Int × Ps)
  | p, [] => [(-1, p)]
  | p, x :: l => (wc x, p) :: chs (adv p x) l
theorem chs_len (p : Ps) (l : List It) : (chs p l).length = l.length + 1 := by
  induction l generalizing p with
  | nil => rfl
  | cons x l ih => simp only [chs, List.length_cons, ih]
theorem chs_hd (p : Ps) (l : List It) : ∃ r, chs p l = (hdc l, p) :: r := by
  cases l with
  | nil => exact ⟨[], rfl⟩
  | cons x l => exact ⟨_, rfl⟩

/-! ### Frames -/
theorem gr_refl (w : World) (row : Option Nat) : w.grownBy w row := ⟨rfl, rfl, rfl, Nat.le_refl _, fun _ _ _ => rfl⟩
theorem gr_trans {a b c : World} {row : Option Nat} (h : a.grownBy b row) (k : b.grownBy c row) : a.grownBy c row :=
  ⟨k.os.trans h.os, k.tape.trans h.tape, k.output.trans h.output, Nat.le_trans h.size k.size, fun i hi hr => (k.block i (Nat.lt_of_lt_of_le hi h.size) hr).trans (h.block i hi hr)⟩
theorem gr_of {a b : World} {B : Nat} (h : Below B a b) (hB : a.heap.size ≤ B) (row : Option Nat) : a.grownBy b row :=
  ⟨h.os, h.tape, h.output, h.size, fun i hi _ => h.block i (Nat.lt_of_lt_of_le hi hB)⟩
theorem gr_below {a b c : World} {B : Nat} {row : Option Nat} (h : a.grownBy b row) (k : Below B b c) (hB : a.heap.size ≤ B) : a.grownBy c row :=
  ⟨k.os.trans h.os, k.tape.trans h.tape, k.output.trans h.output, Nat.le_trans h.size k.size, fun i hi hr => (k.block i (Nat.lt_of_lt_of_le hi hB)).trans (h.block i hi hr)⟩
theorem gr_set {w : World} (p : Addr) (u : Value) : w.grownBy (w.setCell p u) (some p.block) :=
  ⟨rfl, rfl, rfl, by simp [World.setCell], fun i _ hr => Below.heap_setCell w p u i (fun e => hr (by rw [e]))⟩
theorem bld_kept {T e : TypeId} {B b g : Nat} {bs : List Value} {w w' : World} (h : Lib.IsBuilderF T e B b bs w) (hg : w.grownBy w' (some g)) (hb : g < B) : Lib.IsBuilderF T e B b bs w' := by
  have k : ∀ p, Lib.BuilderAtF T e B b p bs w → Lib.BuilderAtF T e B b p bs w' := fun p ⟨h1, v, h2, h3, h4⟩ => by
    refine ⟨h1, v, (hg.block b (Array.getElem?_eq_some_iff.1 h2).1 (by simp; omega)).trans h2, h3.kept hg ?_, h4⟩
    cases hv : v.ownBlock with
    | none => exact .inl rfl
    | some k =>
      have := (h3.lt k hv).1
      exact .inr (by simp; omega)
  exact h.elim (fun x => .inl (k _ x)) (fun x => .inr (k _ x))
theorem bld_below {T e : TypeId} {B b : Nat} {bs : List Value} {w w' : World} (h : Lib.IsBuilderF T e B b bs w) (hg : Below w.heap.size w w') : Lib.IsBuilderF T e B b bs w' := by
  have k : ∀ p, Lib.BuilderAtF T e B b p bs w → Lib.BuilderAtF T e B b p bs w' := fun p ⟨h1, v, h2, h3, h4⟩ => by
    have hgr : w.grownBy w' none := gr_of hg (Nat.le_refl _) none
    refine ⟨h1, v, (hg.block b (Array.getElem?_eq_some_iff.1 h2).1).trans h2, h3.kept hgr ?_, h4⟩
    cases hv : v.ownBlock with
    | none => exact .inl rfl
    | some k => exact .inr (by simp)
  exact h.elim (fun x => .inl (k _ x)) (fun x => .inr (k _ x))

/-- The reader in block g, which lies with its characters below B, has these left, from p on. -/
def Rdr (w : World) (B g : Nat) (p : Ps) (l : List It) : Prop :=
  g < B ∧ B ≤ w.heap.size ∧ (∀ x ∈ l, ItOk x) ∧ ∃ d off c, g ≠ d ∧ d < B ∧ l.length + 1 ≤ c ∧ Blk w g 67 #[.slice (some ⟨d, off, none⟩) (l.length + 1) c] ∧ ∀ j u, ((chs p l).flatMap chC)[j]? = some u → w.cell? ⟨d, off + j, none⟩ = some u
section
variable {w w' : World} {B g : Nat} {p : Ps} {l : List It}
theorem Rdr.below {B' : Nat} (h : Rdr w B g p l) (hb : Below B' w w') (hB : B ≤ B') : Rdr w' B g p l := by
  obtain ⟨h1, h2, h3, d, off, c, h4, h5, h6, h8, h9⟩ := h
  exact ⟨h1, Nat.le_trans h2 hb.size, h3, d, off, c, h4, h5, h6, h8.below hb (by omega), fun j u hu => (hb.cell (p := ⟨d, off + j, none⟩) (show d < B' by omega)).trans (h9 j u hu)⟩
theorem Rdr.ok (h : Rdr w B g p l) : ∀ x ∈ l, ItOk x := h.2.2.1
theorem Rdr.lt (h : Rdr w B g p l) : g < B ∧ B ≤ w.heap.size := ⟨h.1, h.2.1⟩
theorem Rdr.at (h : Rdr w B g p l) : ∃ d off c, d < w.heap.size ∧ g < w.heap.size ∧ l.length + 1 ≤ c ∧ w.cell? ⟨g, 0, none⟩ = some (.slice (some ⟨d, off, none⟩) (l.length + 1) c) ∧ w.cell? ⟨d, off, none⟩ = some (.int .i32 (hdc l)) ∧ w.cell? ⟨d, off + 1, none⟩ = some (.int .i64 (p.1 : Int)) ∧ w.cell? ⟨d, off + 2, none⟩ = some (.int .i64 (p.2 : Int)) := by
  obtain ⟨h1, h2, h3, d, off, c, h4, h5, h6, h8, h9⟩ := h
  obtain ⟨r, hr⟩ := chs_hd p l
  rw [hr] at h9
  refine ⟨d, off, c, by omega, by omega, h6, ?_, h9 0 _ rfl, h9 1 _ rfl, h9 2 _ rfl⟩
  rw [h8.cell]; rfl
theorem Rdr.next {x : It} (h : Rdr w B g p (x :: l)) : ∃ d off c, l.length + 2 ≤ c ∧ w.cell? ⟨g, 0, none⟩ = some (.slice (some ⟨d, off, none⟩) (l.length + 2) c) ∧ w.frozen? ⟨g, 0, none⟩ = false ∧
    ∀ c', l.length + 1 ≤ c' → Rdr (w.setCell ⟨g, 0, none⟩ (.slice (some ⟨d, off + 3, none⟩) (l.length + 1) c')) B g (adv p x) l := by
  obtain ⟨h1, h2, h3, d, off, c, h4, h5, h6, h8, h9⟩ := h
  refine ⟨d, off, c, h6, ?_, h8.frozen 0, fun c' hc' => ⟨h1, by simpa [World.setCell] using h2, fun y hy => h3 y (List.mem_cons_of_mem _ hy), d, off + 3, c', h4, h5, hc', h8.set_ 0 _, fun j u hu => ?_⟩⟩
  · rw [h8.cell]; rfl
  · have hb := Below.heap_setCell w ⟨g, 0, none⟩ (.slice (some ⟨d, off + 3, none⟩) (l.length + 1) c') d (Ne.symm h4)
    rw [World.cell?_of_block (w := w) (a := ⟨d, off + 3 + j, none⟩) hb, Nat.add_assoc]
    refine h9 (3 + j) u ?_
    show (((wc x, p) :: chs (adv p x) l).flatMap chC)[3 + j]? = some u
    rw [List.flatMap_cons, List.getElem?_append_right (by rw [chC_len]; omega), chC_len, show 3 + j - 3 = j by omega]
    exact hu
end

end Go.Proofs.Ytgpcbfjakgndlaa
