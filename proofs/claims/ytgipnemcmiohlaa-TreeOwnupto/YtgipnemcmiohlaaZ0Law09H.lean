/- What the laws of package tree want of Law09H. -/
import Derived.Test.YtgipnemcmiohlaaZ0TrxG
import Derived.Laws.StructEq
import Derived.Deep.DeepCutAuto
import Derived.Deep.CutBlock
import Derived.WalkLawsBesides
namespace Go.Proofs.Ytgipnemcmiohlaa
open Go.RowKit
set_option linter.unusedSimpArgs false
set_option linter.unusedVariables false
/-- A block of cells that may be written. -/
def UnF (w : World) (g : Nat) : Prop := ∃ cs t, Blk w g t cs
theorem UnF.frozen {w : World} {g : Nat} (h : UnF w g) (i : Nat) : w.frozen? ⟨g, i, none⟩ = false := by
  obtain ⟨cs, t, h⟩ := h
  exact h.frozen i
/-- In the blocks of S only names and numbers of nodes were written. -/
structure Over9 (S : Nat → Prop) (w w' : World) : Prop where
  os : w'.os = w.os
  tape : w'.tape = w.tape
  output : w'.output = w.output
  size : w.heap.size ≤ w'.heap.size
  out : ∀ g, g < w.heap.size → ¬ S g → w'.heap[g]? = w.heap[g]?
  same : ∀ g, S g → ∀ o, o % 6 ≠ 0 → o % 6 ≠ 3 → w'.cell? ⟨g, o, none⟩ = w.cell? ⟨g, o, none⟩
  name : ∀ g, S g → ∀ o, o % 6 = 0 → ∀ s, w.cell? ⟨g, o, none⟩ = some (.string (txt s)) → ∃ s', w'.cell? ⟨g, o, none⟩ = some (.string (txt s'))
  num : ∀ g, S g → ∀ o, o % 6 = 3 → ∀ n : Nat, w.cell? ⟨g, o, none⟩ = some (.int .u64 (n : Int)) → ∃ n' : Nat, w'.cell? ⟨g, o, none⟩ = some (.int .u64 (n' : Int))
  unf : ∀ g, S g → UnF w g → UnF w' g
theorem Over9.refl (S : Nat → Prop) (w : World) : Over9 S w w := ⟨rfl, rfl, rfl, Nat.le_refl _, fun _ _ _ => rfl, fun _ _ _ _ _ => rfl, fun _ _ _ _ s h => ⟨s, h⟩, fun _ _ _ _ n h => ⟨n, h⟩, fun _ _ h => h⟩
theorem Over9.trans {S : Nat → Prop} {w w1 w2 : World} (h : Over9 S w w1) (h' : Over9 S w1 w2) : Over9 S w w2 where
  os := h'.os.trans h.os
  tape := h'.tape.trans h.tape
  output := h'.output.trans h.output
  size := Nat.le_trans h.size h'.size
  out g hg hs := (h'.out g (Nat.lt_of_lt_of_le hg h.size) hs).trans (h.out g hg hs)
  same g hs o h0 h3 := (h'.same g hs o h0 h3).trans (h.same g hs o h0 h3)
  name g hs o h0 s hc := by
    obtain ⟨s1, h1⟩ := h.name g hs o h0 s hc
    exact h'.name g hs o h0 s1 h1
  num g hs o h0 n hc := by
    obtain ⟨n1, h1⟩ := h.num g hs o h0 n hc
    exact h'.num g hs o h0 n1 h1
  unf g hs hu := h'.unf g hs (h.unf g hs hu)
/-- New blocks besides. -/
theorem Over9.below {S : Nat → Prop} {w w' : World} (hS : ∀ g, S g → g < w.heap.size) (h : Below w.heap.size w w') : Over9 S w w' where
  os := h.os
  tape := h.tape
  output := h.output
  size := h.size
  out g hg _ := h.block g hg
  same g hs o _ _ := World.cell?_of_block (w := w) (h.block g (hS g hs))
  name g hs o _ s hc := ⟨s, (World.cell?_of_block (w := w) (h.block g (hS g hs))).trans hc⟩
  num g hs o _ n hc := ⟨n, (World.cell?_of_block (w := w) (h.block g (hS g hs))).trans hc⟩
  unf g hs hu := by
    obtain ⟨cs, t, hb⟩ := hu
    exact ⟨cs, t, hb.below h (hS g hs)⟩
theorem UnF.setCell {w : World} {g : Nat} (h : UnF w g) (p : Addr) (hp : p.spot = none) (v : Value) : UnF (w.setCell p v) g := by
  obtain ⟨cs, t, hb⟩ := h
  obtain ⟨b, o, sp⟩ := p
  have hp' : sp = none := hp
  subst hp'
  by_cases e : g = b
  · subst e
    exact ⟨_, t, hb.set_ o v⟩
  · exact ⟨cs, t, hb.far (p := ⟨b, o, none⟩) e v⟩
/-- As many kids, at all places. -/
def like9 : NdF → NdF → Prop
  | .nil, .nil => True
  | .cons _ k r, .cons _ k' r' => like9 k k' ∧ like9 r r'
  | _, _ => False
theorem like_refl9 (f : NdF) : like9 f f := by
  induction f with
  | nil => trivial
  | cons a k r h1 h2 => exact ⟨h1, h2⟩
theorem like_len9 {f : NdF} : ∀ {g : NdF}, like9 f g → g.len = f.len := by
  induction f with
  | nil => intro g h; cases g with
    | nil => rfl
    | cons => exact h.elim
  | cons a k r _ ih => intro g h; cases g with
    | nil => exact h.elim
    | cons b q s => simp only [Fr.len]; rw [ih h.2]
theorem FrAt.over9 {S : Nat → Prop} {w w' : World} (h : Over9 S w w') : ∀ {f : NdF} {b o : Nat}, S b → o % 6 = 0 → FrAt NdA 6 5 w S noB f b o → ∃ f', like9 f f' ∧ FrAt NdA 6 5 w' S noB f' b o := by
  intro f
  induction f with
  | nil => intro b o _ _ _; exact ⟨.nil, trivial, trivial⟩
  | cons a k r ihk ihr =>
    intro b o hb ho ⟨⟨cs, h1, h2, ⟨⟨kv, e, h3⟩, h3'⟩, A, c, h4, h5, h6⟩, h7⟩
    subst e
    obtain ⟨s', hs⟩ := h.name b hb (o + 0) (by omega) a.name (h2 0 _ rfl)
    obtain ⟨n', hn⟩ := h.num b hb (o + 3) (by omega) a.num (h2 3 _ rfl)
    obtain ⟨r', hr1, hr2⟩ := ihr hb (by omega) h7
    have hk : ∃ k', like9 k k' ∧ (0 < k.len → ∃ b' o', A = some ⟨b', o', none⟩ ∧ S b' ∧ FrAt NdA 6 5 w' S noB k' b' o') := by
      by_cases h0 : 0 < k.len
      · obtain ⟨b', o', rfl, h9, h10⟩ := h6 h0
        obtain ⟨k', x1, x2⟩ := ihk h9 (h3' b' o' _ _ h4) h10
        exact ⟨k', x1, fun _ => ⟨_, _, rfl, h9, x2⟩⟩
      · exact ⟨k, like_refl9 k, fun h => absurd h h0⟩
    obtain ⟨k', hk1, hk2⟩ := hk
    have hkl := like_len9 hk1
    refine ⟨.cons { a with name := s', num := n' } k' r', ⟨hk1, hr1⟩, ⟨ndC { a with name := s', num := n' } kv, rfl, fun i u hu => ?_, ⟨⟨kv, rfl, h3⟩, h3'⟩, A, c, by rw [hkl]; exact h4, by rw [hkl]; exact h5, fun h0 => hk2 (by rw [← hkl]; exact h0)⟩, hr2⟩
    match i, hu with
    | 0, hu => injection hu with hu; subst hu; exact hs
    | 1, hu => exact (h.same b hb (o + 1) (by omega) (by omega)).trans (h2 1 u hu)
    | 2, hu => exact (h.same b hb (o + 2) (by omega) (by omega)).trans (h2 2 u hu)
    | 3, hu => injection hu with hu; subst hu; exact hn
    | 4, hu => exact (h.same b hb (o + 4) (by omega) (by omega)).trans (h2 4 u hu)
    | 5, hu => exact (h.same b hb (o + 5) (by omega) (by omega)).trans (h2 5 u hu)
    | i + 6, hu => simp at hu
/-- A row whose nodes begin where one begins. -/
def RowO (S : Nat → Prop) (w : World) (v : Value) (f : NdF) : Prop := FrV NdA 6 5 w S noB v f ∧ ∀ b o n c, v = .slice (some ⟨b, o, none⟩) n c → o % 6 = 0
theorem RowO.over {S : Nat → Prop} {w w' : World} {v : Value} {f : NdF} (h : RowO S w v f) (ho : Over9 S w w') : ∃ f', like9 f f' ∧ RowO S w' v f' := by
  obtain ⟨⟨A, c, rfl, h1, h2⟩, h3⟩ := h
  by_cases h0 : 0 < f.len
  · obtain ⟨b, o, rfl, h4, h5⟩ := h2 h0
    obtain ⟨f', x1, x2⟩ := FrAt.over9 ho h4 (h3 _ _ _ _ rfl) h5
    have hl := like_len9 x1
    refine ⟨f', x1, ⟨_, c, by rw [hl], by rw [hl]; exact h1, fun _ => ⟨b, o, rfl, h4, x2⟩⟩, fun b' o' n' c' e => ?_⟩
    exact h3 _ _ _ _ e
  · exact ⟨f, like_refl9 f, ⟨A, c, rfl, h1, fun h => absurd h h0⟩, h3⟩
/-- The kid at a place: its cells, its own row. -/
theorem RowO.at {S : Nat → Prop} {w : World} {A : Option Addr} {n c : Nat} {f : NdF} (h : RowO S w (.slice A n c) f) {i : Nat} {y : Nd} (hy : f.get? i = some y) :
    ∃ g o A' c', A = some ⟨g, o, none⟩ ∧ n = f.len ∧ n ≤ c ∧ S g ∧ o % 6 = 0 ∧ RowO S w (.slice A' y.2.len c') y.2 ∧ ∀ j u, (ndC y.1 (.slice A' y.2.len c'))[j]? = some u → w.cell? ⟨g, o + i * 6 + j, none⟩ = some u := by
  obtain ⟨a, k⟩ := y
  obtain ⟨hv, hal⟩ := h
  obtain ⟨g, o, c1, cs, e, h1, h2, h3, h4⟩ := FrV.at hv hy
  injection e with e1 e2 e3
  subst e1 e2 e3
  obtain ⟨hcl, ⟨⟨kv, rfl, h5⟩, h6⟩, v, h7, h8⟩ := h3
  obtain ⟨A', c', rfl⟩ := h8.shape
  simp at h7
  subst h7
  refine ⟨g, o, A', c', rfl, rfl, h1, h2, hal _ _ _ _ rfl, ⟨h8, fun b o n c e => ?_⟩, h4⟩
  injection e with e1 e2 e3
  subst e1 e2 e3
  exact h6 b o _ _ rfl
end Go.Proofs.Ytgipnemcmiohlaa

