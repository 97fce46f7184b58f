/- What the laws of package tree want of TreMem. -/
import Derived.Test.YtgipnemcmiohlaaZ0ForestB
namespace Go.Proofs.Ytgipnemcmiohlaa
open Go.RowKit
set_option linter.unusedSimpArgs false
set_option linter.unusedVariables false
/-- The cells of a node, its kids' slice last. -/
abbrev ndC (a : NdD) (kv : Value) : List Value := [.string (txt a.name), .string (txt a.key), .int .i64 a.kind, .int .u64 (a.num : Int), .string (txt a.text), kv]
def NdT : RdOf NdD := fun _ _ cs a => ∃ kv, cs = ndC a kv ∧ kv.oneCell' = true
/-- .. whose kids begin where one begins. -/
def NdA : RdOf NdD := fun w N cs a => NdT w N cs a ∧ ∀ b o n c, cs[5]? = some (.slice (some ⟨b, o, none⟩) n c) → o % 6 = 0
def noB : Nat → Prop := fun _ => False
theorem stay_nd : StayD NdT := fun _ _ _ _ _ _ _ _ h => h
theorem stay_na : StayD NdA := fun _ _ _ _ _ _ _ _ h => h
theorem one_nd : OneD NdT := by
  intro w N cs a ⟨kv, h1, h4⟩ u hu
  subst h1
  simp only [List.mem_cons, List.not_mem_nil, or_false] at hu
  rcases hu with rfl | rfl | rfl | rfl | rfl | rfl <;> first | rfl | exact h4
theorem one_na : OneD NdA := fun w N cs a h u hu => one_nd w N cs a h.1 u hu
/-- The cells cs are the tree x, in blocks below b. -/
def LieB (b : Nat) (w : World) (cs : List Value) (x : Nd) : Prop := FrN NdT 6 5 w (fun g => g < b) noB cs x.1 x.2
/-- The slice v is the row f, in blocks below b. -/
def RowT (b : Nat) (w : World) (v : Value) (f : NdF) : Prop := FrV NdT 6 5 w (fun g => g < b) noB v f
/-- A tree lies in a world. -/
abbrev LieN (w : World) (cs : List Value) (x : Nd) : Prop := LieB w.heap.size w cs x
theorem LieB.shape {b : Nat} {w : World} {cs : List Value} {x : Nd} (h : LieB b w cs x) : ∃ A c, cs = ndC x.1 (.slice A x.2.len c) ∧ RowT b w (.slice A x.2.len c) x.2 := by
  obtain ⟨_, ⟨kv, rfl, _⟩, v, h5, h6⟩ := h
  obtain ⟨A, c, rfl⟩ := h6.shape
  simp at h5
  subst h5
  exact ⟨A, c, rfl, h6⟩
theorem LieB.make {b : Nat} {w : World} {a : NdD} {f : NdF} {v : Value} (h : RowT b w v f) : LieB b w (ndC a v) (a, f) := by
  refine ⟨rfl, ⟨v, rfl, ?_⟩, v, rfl, h⟩
  obtain ⟨A, c, rfl⟩ := h.shape
  rfl
theorem LieB.keep {b b' : Nat} {w w' : World} {cs : List Value} {x : Nd} (h : LieB b w cs x) (hk : ∀ g, g < b → w'.heap[g]? = w.heap[g]?) (hb : b ≤ b') : LieB b' w' cs x :=
  FrN.kept stay_nd h hk (fun g hg => Nat.lt_of_lt_of_le hg hb) (fun _ h => h.elim) (fun _ h => h)
theorem RowT.keep {b b' : Nat} {w w' : World} {v : Value} {f : NdF} (h : RowT b w v f) (hk : ∀ g, g < b → w'.heap[g]? = w.heap[g]?) (hb : b ≤ b') : RowT b' w' v f :=
  FrV.kept stay_nd h hk (fun g hg => Nat.lt_of_lt_of_le hg hb) (fun _ h => h.elim) (fun _ h => h)
theorem LieB.under {b b' B : Nat} {w w' : World} {cs : List Value} {x : Nd} (h : LieB b w cs x) (hB : Below B w w') (hb : b ≤ B) (hb' : b ≤ b') : LieB b' w' cs x := h.keep (fun g hg => hB.block g (Nat.lt_of_lt_of_le hg hb)) hb'
theorem RowT.under {b b' B : Nat} {w w' : World} {v : Value} {f : NdF} (h : RowT b w v f) (hB : Below B w w') (hb : b ≤ B) (hb' : b ≤ b') : RowT b' w' v f := h.keep (fun g hg => hB.block g (Nat.lt_of_lt_of_le hg hb)) hb'
theorem LieB.below {w w' : World} {cs : List Value} {x : Nd} (h : LieN w cs x) (hb : Below w.heap.size w w') : LieN w' cs x := h.under hb (Nat.le_refl _) hb.size
theorem RowT.below {w w' : World} {v : Value} {f : NdF} (h : RowT w.heap.size w v f) (hb : Below w.heap.size w w') : RowT w'.heap.size w' v f := h.under hb (Nat.le_refl _) hb.size
theorem LieB.zero (b : Nat) (w : World) : LieB b w (ndC zeroT (.slice none 0 0)) noN := LieB.make (FrV.empty _ _ _)
/-- The kid at a place: its cells. -/
theorem RowT.at {b : Nat} {w : World} {A : Option Addr} {n c : Nat} {f : NdF} (h : RowT b w (.slice A n c) f) {i : Nat} {y : Nd} (hy : f.get? i = some y) :
    ∃ g o A' c', A = some ⟨g, o, none⟩ ∧ n = f.len ∧ n ≤ c ∧ g < b ∧ RowT b w (.slice A' y.2.len c') y.2 ∧ ∀ j u, (ndC y.1 (.slice A' y.2.len c'))[j]? = some u → w.cell? ⟨g, o + i * 6 + j, none⟩ = some u := by
  obtain ⟨a, k⟩ := y
  obtain ⟨g, o, c1, cs, e, h1, h2, h3, h4⟩ := FrV.at h hy
  injection e with e1 e2 e3
  subst e1 e2 e3
  obtain ⟨A', c', rfl, h6⟩ := LieB.shape (x := (a, k)) h3
  exact ⟨g, o, A', c', rfl, rfl, h1, h2, h6, h4⟩
theorem RowT.len {b : Nat} {w : World} {A : Option Addr} {n c : Nat} {f : NdF} (h : RowT b w (.slice A n c) f) : n = f.len ∧ n ≤ c := by
  obtain ⟨A', c', e, h1, _⟩ := h
  injection e with e1 e2 e3
  subst e2 e3
  exact ⟨rfl, h1⟩
/-- The slice v is the way l, below b. -/
def WayV (b : Nat) (w : World) (v : Value) (l : List Stp) : Prop := ∃ A c, v = .slice A l.length c ∧ l.length ≤ c ∧ (0 < l.length → ∃ g o, A = some ⟨g, o, none⟩ ∧ g < b ∧
  ∀ j s, l[j]? = some s → w.cell? ⟨g, o + j * 2, none⟩ = some (.string (txt s.1)) ∧ w.cell? ⟨g, o + j * 2 + 1, none⟩ = some (.string (txt s.2)))
theorem WayV.keep {b b' : Nat} {w w' : World} {v : Value} {l : List Stp} (h : WayV b w v l) (hk : ∀ g, g < b → w'.heap[g]? = w.heap[g]?) (hb : b ≤ b') : WayV b' w' v l := by
  obtain ⟨A, c, rfl, h1, h2⟩ := h
  refine ⟨A, c, rfl, h1, fun h0 => ?_⟩
  obtain ⟨g, o, rfl, h3, h4⟩ := h2 h0
  refine ⟨g, o, rfl, Nat.lt_of_lt_of_le h3 hb, fun j s hs => ?_⟩
  obtain ⟨h5, h6⟩ := h4 j s hs
  exact ⟨(World.cell?_of_block (w := w) (hk g h3)).trans h5, (World.cell?_of_block (w := w) (hk g h3)).trans h6⟩
theorem WayV.under {b b' B : Nat} {w w' : World} {v : Value} {l : List Stp} (h : WayV b w v l) (hB : Below B w w') (hb : b ≤ B) (hb' : b ≤ b') : WayV b' w' v l := h.keep (fun g hg => hB.block g (Nat.lt_of_lt_of_le hg hb)) hb'
theorem WayV.below {w w' : World} {v : Value} {l : List Stp} (h : WayV w.heap.size w v l) (hb : Below w.heap.size w w') : WayV w'.heap.size w' v l := h.under hb (Nat.le_refl _) hb.size
theorem WayV.shape {b : Nat} {w : World} {v : Value} {l : List Stp} (h : WayV b w v l) : ∃ A c, v = .slice A l.length c := by
  obtain ⟨A, c, h, _⟩ := h; exact ⟨A, c, h⟩
theorem WayV.at {b : Nat} {w : World} {A : Option Addr} {n c : Nat} {l : List Stp} (h : WayV b w (.slice A n c) l) {j : Nat} {s : Stp} (hs : l[j]? = some s) :
    ∃ g o, A = some ⟨g, o, none⟩ ∧ n = l.length ∧ n ≤ c ∧ g < b ∧ w.cell? ⟨g, o + j * 2, none⟩ = some (.string (txt s.1)) ∧ w.cell? ⟨g, o + j * 2 + 1, none⟩ = some (.string (txt s.2)) := by
  have hlt := (List.getElem?_eq_some_iff.1 hs).1
  obtain ⟨A', c', e, h1, h2⟩ := h
  injection e with e1 e2 e3
  subst e1 e2 e3
  obtain ⟨g, o, rfl, h3, h4⟩ := h2 (by omega)
  obtain ⟨h5, h6⟩ := h4 j s hs
  exact ⟨g, o, rfl, rfl, h1, h3, h5, h6⟩
theorem WayV.nil (b : Nat) (w : World) (A : Option Addr) (c : Nat) : WayV b w (.slice A 0 c) [] := ⟨A, c, rfl, Nat.zero_le _, fun h => absurd h (by simp)⟩
theorem WayV.front {b : Nat} {w : World} {A : Option Addr} {n c : Nat} {l : List Stp} (m : Nat) (hm : m ≤ l.length) (h : WayV b w (.slice A n c) l) : WayV b w (.slice A m c) (l.take m) := by
  obtain ⟨A', c', e, h1, h2⟩ := h
  injection e with e1 e2 e3
  subst e1 e2 e3
  have hl : (l.take m).length = m := by rw [List.length_take]; omega
  refine ⟨A, c, by rw [hl], by omega, fun h0 => ?_⟩
  obtain ⟨g, o, rfl, h3, h4⟩ := h2 (by omega)
  refine ⟨g, o, rfl, h3, fun j s hs => h4 j s ?_⟩
  rw [List.getElem?_take] at hs
  split at hs
  · exact hs
  · cases hs
/-- A block of the call's own, that may be written: of nodes. -/
def Fresh9 (base : Nat) (w : World) (g : Nat) : Prop := base ≤ g ∧ ∃ cs t, w.heap[g]? = some (.cells cs t (0, 0))
theorem Fresh9.lt {base : Nat} {w : World} {g : Nat} (h : Fresh9 base w g) : g < w.heap.size := by
  obtain ⟨_, cs, t, h⟩ := h
  exact (Array.getElem?_eq_some_iff.1 h).1
/-- A tree in new memory. -/
def NewT (base : Nat) (w : World) (cs : List Value) (x : Nd) : Prop := ∃ S, (∀ g, S g → Fresh9 base w g) ∧ FrN NdA 6 5 w S noB cs x.1 x.2
theorem FrAt.plain {w : World} {S N : Nat → Prop} : ∀ {f : NdF} {b o : Nat}, FrAt NdA 6 5 w S N f b o → FrAt NdT 6 5 w S N f b o := by
  intro f
  induction f with
  | nil => intro b o _; trivial
  | cons a k r ihk ihr =>
    intro b o ⟨⟨cs, h1, h2, h3, A, c, h4, h5, h6⟩, h7⟩
    refine ⟨⟨cs, h1, h2, h3.1, A, c, h4, h5, fun h0 => ?_⟩, ihr h7⟩
    obtain ⟨b', o', h8, h9, h10⟩ := h6 h0
    exact ⟨b', o', h8, h9, ihk h10⟩
theorem FrV.plain {w : World} {S N : Nat → Prop} {v : Value} {f : NdF} (h : FrV NdA 6 5 w S N v f) : FrV NdT 6 5 w S N v f := by
  obtain ⟨A, c, rfl, h1, h2⟩ := h
  refine ⟨A, c, rfl, h1, fun h0 => ?_⟩
  obtain ⟨b, o, h3, h4, h5⟩ := h2 h0
  exact ⟨b, o, h3, h4, h5.plain⟩
theorem NewT.lies {base : Nat} {w : World} {cs : List Value} {x : Nd} (h : NewT base w cs x) : LieN w cs x := by
  obtain ⟨S, h1, h2, h3, v, h4, h5⟩ := h
  exact FrN.mono stay_nd ⟨h2, h3.1, v, h4, h5.plain⟩ (fun g hg => (h1 g hg).lt) (fun _ h => h)
/-- What tells a tree, and something, leaves. -/
def TreP (x : Nd) (u : Value) (w : World) (r : Ending) (w' : World) : Prop := ∃ cs, r = .returned (.tuple #[.agg cs.toArray, u]) ∧ NewT w.heap.size w' cs x ∧ Below w.heap.size w w'
def TreP1 (x : Nd) (w : World) (r : Ending) (w' : World) : Prop := ∃ cs, r = .returned (.agg cs.toArray) ∧ NewT w.heap.size w' cs x ∧ Below w.heap.size w w'
/-- What a law sees of it. -/
def RTreP (x : Nd) (u : Value) (w : World) (r : Ending) (w' : World) : Prop := ∃ cs, r = .returned (.tuple #[.agg cs.toArray, u]) ∧ LieN w' cs x ∧ Below w.heap.size w w'
def RTreP1 (x : Nd) (w : World) (r : Ending) (w' : World) : Prop := ∃ cs, r = .returned (.agg cs.toArray) ∧ LieN w' cs x ∧ Below w.heap.size w w'
/-- The cells cs are the tree x, in blocks below b, or from B on. -/
def LieP (b B : Nat) (w : World) (cs : List Value) (x : Nd) : Prop := FrN NdT 6 5 w (fun g => g < b ∨ (B ≤ g ∧ g < w.heap.size)) noB cs x.1 x.2
def RowP (b B : Nat) (w : World) (v : Value) (f : NdF) : Prop := FrV NdT 6 5 w (fun g => g < b ∨ (B ≤ g ∧ g < w.heap.size)) noB v f
theorem LieP.shape {b B : Nat} {w : World} {cs : List Value} {x : Nd} (h : LieP b B w cs x) : ∃ A c, cs = ndC x.1 (.slice A x.2.len c) ∧ RowP b B w (.slice A x.2.len c) x.2 := by
  obtain ⟨_, ⟨kv, rfl, _⟩, v, h5, h6⟩ := h
  obtain ⟨A, c, rfl⟩ := h6.shape
  simp at h5
  subst h5
  exact ⟨A, c, rfl, h6⟩
theorem LieP.make {b B : Nat} {w : World} {a : NdD} {f : NdF} {v : Value} (h : RowP b B w v f) : LieP b B w (ndC a v) (a, f) := by
  refine ⟨rfl, ⟨v, rfl, ?_⟩, v, rfl, h⟩
  obtain ⟨A, c, rfl⟩ := h.shape
  rfl
theorem LieP.keep {b B b' B' : Nat} {w w' : World} {cs : List Value} {x : Nd} (h : LieP b B w cs x) (hk : ∀ g, g < b ∨ (B ≤ g ∧ g < w.heap.size) → w'.heap[g]? = w.heap[g]?) (hS : ∀ g, g < b ∨ (B ≤ g ∧ g < w.heap.size) → g < b' ∨ (B' ≤ g ∧ g < w'.heap.size)) : LieP b' B' w' cs x :=
  FrN.kept stay_nd h hk hS (fun _ h => h.elim) (fun _ h => h)
theorem LieP.lies {b B : Nat} {w : World} {cs : List Value} {x : Nd} (h : LieP b B w cs x) (hb : b ≤ w.heap.size) : LieN w cs x :=
  FrN.mono stay_nd h (fun g hg => by rcases hg with h | h <;> omega) (fun _ h => h)
theorem LieB.p {b : Nat} {w : World} {cs : List Value} {x : Nd} (h : LieB b w cs x) (B : Nat) : LieP b B w cs x := FrN.mono stay_nd h (fun g hg => .inl hg) (fun _ h => h)
theorem RowT.p {b : Nat} {w : World} {v : Value} {f : NdF} (h : RowT b w v f) (B : Nat) : RowP b B w v f := FrV.mono stay_nd h (fun g hg => .inl hg) (fun _ h => h)
/-- What the document's tells, of trees that lie below b. -/
def PTreP (b : Nat) (x : Nd) (u : Value) (w : World) (r : Ending) (w' : World) : Prop := ∃ cs, r = .returned (.tuple #[.agg cs.toArray, u]) ∧ LieP b w.heap.size w' cs x ∧ Below w.heap.size w w'
def PTreP1 (b : Nat) (x : Nd) (w : World) (r : Ending) (w' : World) : Prop := ∃ cs, r = .returned (.agg cs.toArray) ∧ LieP b w.heap.size w' cs x ∧ Below w.heap.size w w'
theorem PTreP.r {x : Nd} {u : Value} {w : World} {r : Ending} {w' : World} (h : PTreP w.heap.size x u w r w') : RTreP x u w r w' := by
  obtain ⟨cs, h1, h2, h3⟩ := h; exact ⟨cs, h1, h2.lies h3.size, h3⟩
theorem PTreP1.r {x : Nd} {w : World} {r : Ending} {w' : World} (h : PTreP1 w.heap.size x w r w') : RTreP1 x w r w' := by
  obtain ⟨cs, h1, h2, h3⟩ := h; exact ⟨cs, h1, h2.lies h3.size, h3⟩
theorem PTreP.flat {b : Nat} {a : NdD} {f : NdF} {u : Value} {w : World} {r : Ending} {w' : World} (h : PTreP b (a, f) u w r w') : ∃ A c, r = .returned (.tuple #[.agg (ndC a (.slice A f.len c)).toArray, u]) ∧ LieP b w.heap.size w' (ndC a (.slice A f.len c)) (a, f) ∧ Below w.heap.size w w' := by
  obtain ⟨cs, rfl, h2, h3⟩ := h
  obtain ⟨A, c, rfl, _⟩ := h2.shape
  exact ⟨A, c, rfl, h2, h3⟩
theorem PTreP1.flat {b : Nat} {a : NdD} {f : NdF} {w : World} {r : Ending} {w' : World} (h : PTreP1 b (a, f) w r w') : ∃ A c, r = .returned (.agg (ndC a (.slice A f.len c)).toArray) ∧ LieP b w.heap.size w' (ndC a (.slice A f.len c)) (a, f) ∧ Below w.heap.size w w' := by
  obtain ⟨cs, rfl, h2, h3⟩ := h
  obtain ⟨A, c, rfl, _⟩ := h2.shape
  exact ⟨A, c, rfl, h2, h3⟩
def Ans9 (v : Value) (w : World) (r : Ending) (w' : World) : Prop := r = .returned v ∧ Below w.heap.size w w'
theorem TreP.r {x : Nd} {u : Value} {w : World} {r : Ending} {w' : World} (h : TreP x u w r w') : RTreP x u w r w' := by
  obtain ⟨cs, h1, h2, h3⟩ := h; exact ⟨cs, h1, h2.lies, h3⟩
theorem TreP1.r {x : Nd} {w : World} {r : Ending} {w' : World} (h : TreP1 x w r w') : RTreP1 x w r w' := by
  obtain ⟨cs, h1, h2, h3⟩ := h; exact ⟨cs, h1, h2.lies, h3⟩
/-- Small enough. -/
def Few9 (x : Nd) : Prop := x.2.size ≤ 1000000
def LessTC (W0 : World) : Prop := ∀ (x y : Nd) (cs ds : List Value) (w : World), LieN w cs x → LieN w ds y → Below W0.heap.size W0 w →
  Calls Try.prog 18 #[.agg cs.toArray, .agg ds.toArray] w (Ans9 (.bool (lessX x.1 y.1)) w)
def RightTC (W0 : World) : Prop := ∀ (x : Nd) (cs : List Value) (w : World), LieN w cs x → Few9 x → Below W0.heap.size W0 w →
  Calls Try.prog 11 #[.agg cs.toArray] w (Ans9 (.bool (rgtX x)) w)
def SameTC (W0 : World) : Prop := ∀ (x y : Nd) (cs ds : List Value) (w : World), LieN w cs x → LieN w ds y → Few9 x → Few9 y → Below W0.heap.size W0 w →
  Calls Try.prog 17 #[.agg cs.toArray, .agg ds.toArray] w (Ans9 (.bool (decide (x = y))) w)
def SizeTC (W0 : World) : Prop := ∀ (x : Nd) (cs : List Value) (w : World), LieN w cs x → Few9 x → Below W0.heap.size W0 w →
  Calls Try.prog 13 #[.agg cs.toArray] w (Ans9 (.int .i64 (sizeX x : Int)) w)
def GetTC (W0 : World) : Prop := ∀ (x : Nd) (l : List Stp) (cs : List Value) (v : Value) (w : World), LieN w cs x → WayV w.heap.size w v l → Few9 x → l.length ≤ 1000000 → Below W0.heap.size W0 w →
  Calls Try.prog 20 #[.agg cs.toArray, v] w (TreP (GetX x l).1 (.bool (GetX x l).2) w)
def SetTC (W0 : World) : Prop := ∀ (x y : Nd) (l : List Stp) (cs ds : List Value) (v : Value) (w : World), LieN w cs x → LieN w ds y → WayV w.heap.size w v l → Few9 x → Few9 y → rgtX x = true → l.length ≤ 1000000 → Below W0.heap.size W0 w →
  Calls Try.prog 22 #[.agg cs.toArray, v, .agg ds.toArray] w (TreP (SetX x l y).1 (.int .i64 ((SetX x l y).2 : Int)) w)
def CutTC (W0 : World) : Prop := ∀ (x : Nd) (l : List Stp) (cs : List Value) (v : Value) (w : World), LieN w cs x → WayV w.heap.size w v l → Few9 x → rgtX x = true → l.length ≤ 1000000 → Below W0.heap.size W0 w →
  Calls Try.prog 24 #[.agg cs.toArray, v] w (TreP (CutX x l).1 (.int .i64 ((CutX x l).2 : Int)) w)
def SortTC (W0 : World) : Prop := ∀ (x : Nd) (cs : List Value) (w : World), LieN w cs x → Few9 x → Below W0.heap.size W0 w →
  Calls Try.prog 10 #[.agg cs.toArray] w (TreP1 (sortX x) w)
/-- PACKAGE TREE ANSWERS AS IT IS TO, in every world behind W0. -/
structure TreC (W0 : World) : Prop where
  less : LessTC W0
  right : RightTC W0
  same : SameTC W0
  size : SizeTC W0
  get : GetTC W0
  set : SetTC W0
  cut : CutTC W0
  sort : SortTC W0
end Go.Proofs.Ytgipnemcmiohlaa

