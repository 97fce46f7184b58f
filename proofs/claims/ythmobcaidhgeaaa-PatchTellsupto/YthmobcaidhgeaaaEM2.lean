/- TreMem ForestC TreOpen DifNum Drawn -/
import Derived.Test.YthmobcaidhgeaaaEM1
import Derived.Deep.Fields
import Derived.SliceStrings
import Derived.Deep.RegionHeld3
set_option linter.unusedSimpArgs false
set_option linter.unusedVariables false
set_option maxRecDepth 100000
set_option maxHeartbeats 8000000
namespace Go.Proofs.Ythmobcaidhgeaaa
open Go.RowKit
abbrev ndC (a : NdD) (kv : Value) : List Value := [.string (txt a.name), .string (txt a.key), .int .i64 a.kind, .int .u64 (a.num : Int), .string (txt a.text), kv]
def NdT : RdOf NdD := fun _ _ cs a => ∃ kv, cs = ndC a kv ∧ kv.oneCell' = true
def NdA : RdOf NdD := fun w N cs a => NdT w N cs a ∧ ∀ b o n c, cs[5]? = some (.slice (some ⟨b, o, none⟩) n c) → o % 6 = 0
def noB : Nat → Prop := fun _ => False
theorem stay_nd : StayD NdT := fun _ _ _ _ _ _ _ _ h => h
theorem one_nd : OneD NdT := by
 intro w N cs a ⟨kv, h1, h4⟩ u hu
 subst h1
 simp only [List.mem_cons, List.not_mem_nil, or_false] at hu
 rcases hu with rfl | rfl | rfl | rfl | rfl | rfl <;> first | rfl | exact h4
theorem one_na : OneD NdA := fun w N cs a h u hu => one_nd w N cs a h.1 u hu
def LieB (b : Nat) (w : World) (cs : List Value) (x : Nd) : Prop := FrN NdT 6 5 w (fun g => g < b) noB cs x.1 x.2
def RowT (b : Nat) (w : World) (v : Value) (f : NdF) : Prop := FrV NdT 6 5 w (fun g => g < b) noB v f
abbrev LieN (w : World) (cs : List Value) (x : Nd) : Prop := LieB w.heap.size w cs x
theorem LieB.shape {b : Nat} {w : World} {cs : List Value} {x : Nd} (h : LieB b w cs x) : ∃ A c, cs = ndC x.1 (.slice A x.2.len c) ∧ RowT b w (.slice A x.2.len c) x.2 := by
 obtain ⟨_, ⟨kv, rfl, _⟩, v, h5, h6⟩ := h
 obtain ⟨A, c, rfl⟩ := h6.shape
 simp at h5
 subst h5
 exact ⟨A, c, rfl, h6⟩
theorem LieB.make {b : Nat} {w : World} {a : NdD} {f : NdF} {v : Value} (h : RowT b w v f) : LieB b w (ndC a v) (a, f) := by
 refine ⟨rfl, ⟨v, rfl, ?_⟩, v, rfl, h⟩
 obtain ⟨A, c, rfl⟩ := h.shape
 rfl
theorem LieB.keep {b b' : Nat} {w w' : World} {cs : List Value} {x : Nd} (h : LieB b w cs x) (hk : ∀ g, g < b → w'.heap[g]? = w.heap[g]?) (hb : b ≤ b') : LieB b' w' cs x :=
 FrN.kept stay_nd h hk (fun g hg => Nat.lt_of_lt_of_le hg hb) (fun _ h => h.elim) (fun _ h => h)
theorem RowT.keep {b b' : Nat} {w w' : World} {v : Value} {f : NdF} (h : RowT b w v f) (hk : ∀ g, g < b → w'.heap[g]? = w.heap[g]?) (hb : b ≤ b') : RowT b' w' v f :=
 FrV.kept stay_nd h hk (fun g hg => Nat.lt_of_lt_of_le hg hb) (fun _ h => h.elim) (fun _ h => h)
theorem LieB.under {b b' B : Nat} {w w' : World} {cs : List Value} {x : Nd} (h : LieB b w cs x) (hB : Below B w w') (hb : b ≤ B) (hb' : b ≤ b') : LieB b' w' cs x := h.keep (fun g hg => hB.block g (Nat.lt_of_lt_of_le hg hb)) hb'
theorem RowT.under {b b' B : Nat} {w w' : World} {v : Value} {f : NdF} (h : RowT b w v f) (hB : Below B w w') (hb : b ≤ B) (hb' : b ≤ b') : RowT b' w' v f := h.keep (fun g hg => hB.block g (Nat.lt_of_lt_of_le hg hb)) hb'
theorem LieB.below {w w' : World} {cs : List Value} {x : Nd} (h : LieN w cs x) (hb : Below w.heap.size w w') : LieN w' cs x := h.under hb (Nat.le_refl _) hb.size
theorem RowT.below {w w' : World} {v : Value} {f : NdF} (h : RowT w.heap.size w v f) (hb : Below w.heap.size w w') : RowT w'.heap.size w' v f := h.under hb (Nat.le_refl _) hb.size
theorem LieB.zero (b : Nat) (w : World) : LieB b w (ndC zeroT (.slice none 0 0)) noN := LieB.make (FrV.empty _ _ _)
theorem RowT.at {b : Nat} {w : World} {A : Option Addr} {n c : Nat} {f : NdF} (h : RowT b w (.slice A n c) f) {i : Nat} {y : Nd} (hy : f.get? i = some y) :
  ∃ g o A' c', A = some ⟨g, o, none⟩ ∧ n = f.len ∧ n ≤ c ∧ g < b ∧ RowT b w (.slice A' y.2.len c') y.2 ∧ ∀ j u, (ndC y.1 (.slice A' y.2.len c'))[j]? = some u → w.cell? ⟨g, o + i * 6 + j, none⟩ = some u := by
 obtain ⟨a, k⟩ := y
 obtain ⟨g, o, c1, cs, e, h1, h2, h3, h4⟩ := FrV.at h hy
 injection e with e1 e2 e3
 subst e1 e2 e3
 obtain ⟨A', c', rfl, h6⟩ := LieB.shape (x := (a, k)) h3
 exact ⟨g, o, A', c', rfl, rfl, h1, h2, h6, h4⟩
theorem RowT.len {b : Nat} {w : World} {A : Option Addr} {n c : Nat} {f : NdF} (h : RowT b w (.slice A n c) f) : n = f.len ∧ n ≤ c := by
 obtain ⟨A', c', e, h1, _⟩ := h
 injection e with e1 e2 e3
 subst e2 e3
 exact ⟨rfl, h1⟩
def WayV (b : Nat) (w : World) (v : Value) (l : List Stp) : Prop := ∃ A c, v = .slice A l.length c ∧ l.length ≤ c ∧ (0 < l.length → ∃ g o, A = some ⟨g, o, none⟩ ∧ g < b ∧
 ∀ j s, l[j]? = some s → w.cell? ⟨g, o + j * 2, none⟩ = some (.string (txt s.1)) ∧ w.cell? ⟨g, o + j * 2 + 1, none⟩ = some (.string (txt s.2)))
theorem WayV.keep {b b' : Nat} {w w' : World} {v : Value} {l : List Stp} (h : WayV b w v l) (hk : ∀ g, g < b → w'.heap[g]? = w.heap[g]?) (hb : b ≤ b') : WayV b' w' v l := by
 obtain ⟨A, c, rfl, h1, h2⟩ := h
 refine ⟨A, c, rfl, h1, fun h0 => ?_⟩
 obtain ⟨g, o, rfl, h3, h4⟩ := h2 h0
 refine ⟨g, o, rfl, Nat.lt_of_lt_of_le h3 hb, fun j s hs => ?_⟩
 obtain ⟨h5, h6⟩ := h4 j s hs
 exact ⟨(World.cell?_of_block (w := w) (hk g h3)).trans h5, (World.cell?_of_block (w := w) (hk g h3)).trans h6⟩
theorem WayV.under {b b' B : Nat} {w w' : World} {v : Value} {l : List Stp} (h : WayV b w v l) (hB : Below B w w') (hb : b ≤ B) (hb' : b ≤ b') : WayV b' w' v l := h.keep (fun g hg => hB.block g (Nat.lt_of_lt_of_le hg hb)) hb'
theorem WayV.below {w w' : World} {v : Value} {l : List Stp} (h : WayV w.heap.size w v l) (hb : Below w.heap.size w w') : WayV w'.heap.size w' v l := h.under hb (Nat.le_refl _) hb.size
theorem WayV.shape {b : Nat} {w : World} {v : Value} {l : List Stp} (h : WayV b w v l) : ∃ A c, v = .slice A l.length c := by
 obtain ⟨A, c, h, _⟩ := h; exact ⟨A, c, h⟩
theorem WayV.at {b : Nat} {w : World} {A : Option Addr} {n c : Nat} {l : List Stp} (h : WayV b w (.slice A n c) l) {j : Nat} {s : Stp} (hs : l[j]? = some s) :
  ∃ g o, A = some ⟨g, o, none⟩ ∧ n = l.length ∧ n ≤ c ∧ g < b ∧ w.cell? ⟨g, o + j * 2, none⟩ = some (.string (txt s.1)) ∧ w.cell? ⟨g, o + j * 2 + 1, none⟩ = some (.string (txt s.2)) := by
 have hlt := (List.getElem?_eq_some_iff.1 hs).1
 obtain ⟨A', c', e, h1, h2⟩ := h
 injection e with e1 e2 e3
 subst e1 e2 e3
 obtain ⟨g, o, rfl, h3, h4⟩ := h2 (by omega)
 obtain ⟨h5, h6⟩ := h4 j s hs
 exact ⟨g, o, rfl, rfl, h1, h3, h5, h6⟩
theorem WayV.nil (b : Nat) (w : World) (A : Option Addr) (c : Nat) : WayV b w (.slice A 0 c) [] := ⟨A, c, rfl, Nat.zero_le _, fun h => absurd h (by simp)⟩
theorem WayV.tail {b : Nat} {w : World} {g o n c : Nat} {s : Stp} {l : List Stp} (h : WayV b w (.slice (some ⟨g, o, none⟩) n c) (s :: l)) : WayV b w (.slice (some ⟨g, o + 2, none⟩) l.length (c - 1)) l := by
 obtain ⟨A', c', e, h1, h2⟩ := h
 injection e with e1 e2 e3
 subst e2 e3
 obtain ⟨g', o', e4, h3, h4⟩ := h2 (by simp)
 rw [← e1] at e4
 injection e4 with e4
 injection e4 with e5 e6 e7
 subst e5 e6
 simp only [List.length_cons] at h1
 refine ⟨_, _, rfl, by omega, fun _ => ⟨g, o + 2, rfl, h3, fun j u hu => ?_⟩⟩
 have h5 := h4 (j + 1) u (by simpa using hu)
 rw [show o + (j + 1) * 2 = o + 2 + j * 2 by omega] at h5
 exact h5
theorem WayV.front {b : Nat} {w : World} {A : Option Addr} {n c : Nat} {l : List Stp} (m : Nat) (hm : m ≤ l.length) (h : WayV b w (.slice A n c) l) : WayV b w (.slice A m c) (l.take m) := by
 obtain ⟨A', c', e, h1, h2⟩ := h
 injection e with e1 e2 e3
 subst e1 e2 e3
 have hl : (l.take m).length = m := by rw [List.length_take]; omega
 refine ⟨A, c, by rw [hl], by omega, fun h0 => ?_⟩
 obtain ⟨g, o, rfl, h3, h4⟩ := h2 (by omega)
 refine ⟨g, o, rfl, h3, fun j s hs => h4 j s ?_⟩
 rw [List.getElem?_take] at hs
 split at hs
 ·exact hs
 ·cases hs
def Fresh9 (base : Nat) (w : World) (g : Nat) : Prop := base ≤ g ∧ ∃ cs t, w.heap[g]? = some (.cells cs t (0, 0))
theorem Fresh9.lt {base : Nat} {w : World} {g : Nat} (h : Fresh9 base w g) : g < w.heap.size := by
 obtain ⟨_, cs, t, h⟩ := h
 exact (Array.getElem?_eq_some_iff.1 h).1
def NewT (base : Nat) (w : World) (cs : List Value) (x : Nd) : Prop := ∃ S, (∀ g, S g → Fresh9 base w g) ∧ FrN NdA 6 5 w S noB cs x.1 x.2
theorem FrAt.plain {w : World} {S N : Nat → Prop} : ∀ {f : NdF} {b o : Nat}, FrAt NdA 6 5 w S N f b o → FrAt NdT 6 5 w S N f b o := by
 intro f
 induction f with
 | nil => intro b o _; trivial
 | cons a k r ihk ihr =>
  intro b o ⟨⟨cs, h1, h2, h3, A, c, h4, h5, h6⟩, h7⟩
  refine ⟨⟨cs, h1, h2, h3.1, A, c, h4, h5, fun h0 => ?_⟩, ihr h7⟩
  obtain ⟨b', o', h8, h9, h10⟩ := h6 h0
  exact ⟨b', o', h8, h9, ihk h10⟩
theorem FrV.plain {w : World} {S N : Nat → Prop} {v : Value} {f : NdF} (h : FrV NdA 6 5 w S N v f) : FrV NdT 6 5 w S N v f := by
 obtain ⟨A, c, rfl, h1, h2⟩ := h
 refine ⟨A, c, rfl, h1, fun h0 => ?_⟩
 obtain ⟨b, o, h3, h4, h5⟩ := h2 h0
 exact ⟨b, o, h3, h4, h5.plain⟩
theorem NewT.lies {base : Nat} {w : World} {cs : List Value} {x : Nd} (h : NewT base w cs x) : LieN w cs x := by
 obtain ⟨S, h1, h2, h3, v, h4, h5⟩ := h
 exact FrN.mono stay_nd ⟨h2, h3.1, v, h4, h5.plain⟩ (fun g hg => (h1 g hg).lt) (fun _ h => h)
def TreP (x : Nd) (u : Value) (w : World) (r : Ending) (w' : World) : Prop := ∃ cs, r = .returned (.tuple #[.agg cs.toArray, u]) ∧ NewT w.heap.size w' cs x ∧ Below w.heap.size w w'
def TreP1 (x : Nd) (w : World) (r : Ending) (w' : World) : Prop := ∃ cs, r = .returned (.agg cs.toArray) ∧ NewT w.heap.size w' cs x ∧ Below w.heap.size w w'
def RTreP (x : Nd) (u : Value) (w : World) (r : Ending) (w' : World) : Prop := ∃ cs, r = .returned (.tuple #[.agg cs.toArray, u]) ∧ LieN w' cs x ∧ Below w.heap.size w w'
def RTreP1 (x : Nd) (w : World) (r : Ending) (w' : World) : Prop := ∃ cs, r = .returned (.agg cs.toArray) ∧ LieN w' cs x ∧ Below w.heap.size w w'
def LieP (b B : Nat) (w : World) (cs : List Value) (x : Nd) : Prop := FrN NdT 6 5 w (fun g => g < b ∨ (B ≤ g ∧ g < w.heap.size)) noB cs x.1 x.2
def RowP (b B : Nat) (w : World) (v : Value) (f : NdF) : Prop := FrV NdT 6 5 w (fun g => g < b ∨ (B ≤ g ∧ g < w.heap.size)) noB v f
theorem LieP.shape {b B : Nat} {w : World} {cs : List Value} {x : Nd} (h : LieP b B w cs x) : ∃ A c, cs = ndC x.1 (.slice A x.2.len c) ∧ RowP b B w (.slice A x.2.len c) x.2 := by
 obtain ⟨_, ⟨kv, rfl, _⟩, v, h5, h6⟩ := h
 obtain ⟨A, c, rfl⟩ := h6.shape
 simp at h5
 subst h5
 exact ⟨A, c, rfl, h6⟩
theorem LieP.make {b B : Nat} {w : World} {a : NdD} {f : NdF} {v : Value} (h : RowP b B w v f) : LieP b B w (ndC a v) (a, f) := by
 refine ⟨rfl, ⟨v, rfl, ?_⟩, v, rfl, h⟩
 obtain ⟨A, c, rfl⟩ := h.shape
 rfl
theorem LieP.keep {b B b' B' : Nat} {w w' : World} {cs : List Value} {x : Nd} (h : LieP b B w cs x) (hk : ∀ g, g < b ∨ (B ≤ g ∧ g < w.heap.size) → w'.heap[g]? = w.heap[g]?) (hS : ∀ g, g < b ∨ (B ≤ g ∧ g < w.heap.size) → g < b' ∨ (B' ≤ g ∧ g < w'.heap.size)) : LieP b' B' w' cs x :=
 FrN.kept stay_nd h hk hS (fun _ h => h.elim) (fun _ h => h)
theorem LieP.lies {b B : Nat} {w : World} {cs : List Value} {x : Nd} (h : LieP b B w cs x) (hb : b ≤ w.heap.size) : LieN w cs x :=
 FrN.mono stay_nd h (fun g hg => by rcases hg with h | h <;> omega) (fun _ h => h)
theorem LieB.p {b : Nat} {w : World} {cs : List Value} {x : Nd} (h : LieB b w cs x) (B : Nat) : LieP b B w cs x := FrN.mono stay_nd h (fun g hg => .inl hg) (fun _ h => h)
theorem RowT.p {b : Nat} {w : World} {v : Value} {f : NdF} (h : RowT b w v f) (B : Nat) : RowP b B w v f := FrV.mono stay_nd h (fun g hg => .inl hg) (fun _ h => h)
def PTreP (b : Nat) (x : Nd) (u : Value) (w : World) (r : Ending) (w' : World) : Prop := ∃ cs, r = .returned (.tuple #[.agg cs.toArray, u]) ∧ LieP b w.heap.size w' cs x ∧ Below w.heap.size w w'
def PTreP1 (b : Nat) (x : Nd) (w : World) (r : Ending) (w' : World) : Prop := ∃ cs, r = .returned (.agg cs.toArray) ∧ LieP b w.heap.size w' cs x ∧ Below w.heap.size w w'
theorem PTreP.r {x : Nd} {u : Value} {w : World} {r : Ending} {w' : World} (h : PTreP w.heap.size x u w r w') : RTreP x u w r w' := by
 obtain ⟨cs, h1, h2, h3⟩ := h; exact ⟨cs, h1, h2.lies h3.size, h3⟩
theorem PTreP1.r {x : Nd} {w : World} {r : Ending} {w' : World} (h : PTreP1 w.heap.size x w r w') : RTreP1 x w r w' := by
 obtain ⟨cs, h1, h2, h3⟩ := h; exact ⟨cs, h1, h2.lies h3.size, h3⟩
theorem PTreP.flat {b : Nat} {a : NdD} {f : NdF} {u : Value} {w : World} {r : Ending} {w' : World} (h : PTreP b (a, f) u w r w') : ∃ A c, r = .returned (.tuple #[.agg (ndC a (.slice A f.len c)).toArray, u]) ∧ LieP b w.heap.size w' (ndC a (.slice A f.len c)) (a, f) ∧ Below w.heap.size w w' := by
 obtain ⟨cs, rfl, h2, h3⟩ := h
 obtain ⟨A, c, rfl, _⟩ := h2.shape
 exact ⟨A, c, rfl, h2, h3⟩
theorem PTreP1.flat {b : Nat} {a : NdD} {f : NdF} {w : World} {r : Ending} {w' : World} (h : PTreP1 b (a, f) w r w') : ∃ A c, r = .returned (.agg (ndC a (.slice A f.len c)).toArray) ∧ LieP b w.heap.size w' (ndC a (.slice A f.len c)) (a, f) ∧ Below w.heap.size w w' := by
 obtain ⟨cs, rfl, h2, h3⟩ := h
 obtain ⟨A, c, rfl, _⟩ := h2.shape
 exact ⟨A, c, rfl, h2, h3⟩
def Ans9 (v : Value) (w : World) (r : Ending) (w' : World) : Prop := r = .returned v ∧ Below w.heap.size w w'
theorem TreP.r {x : Nd} {u : Value} {w : World} {r : Ending} {w' : World} (h : TreP x u w r w') : RTreP x u w r w' := by
 obtain ⟨cs, h1, h2, h3⟩ := h; exact ⟨cs, h1, h2.lies, h3⟩
theorem TreP1.r {x : Nd} {w : World} {r : Ending} {w' : World} (h : TreP1 x w r w') : RTreP1 x w r w' := by
 obtain ⟨cs, h1, h2, h3⟩ := h; exact ⟨cs, h1, h2.lies, h3⟩
def Few9 (x : Nd) : Prop := x.2.size ≤ 1000000
def SameTC (W0 : World) : Prop := ∀ (x y : Nd) (cs ds : List Value) (w : World), LieN w cs x → LieN w ds y → Few9 x → Few9 y → Below W0.heap.size W0 w →
 Calls Try.prog 49 #[.agg cs.toArray, .agg ds.toArray] w (Ans9 (.bool (decide (x = y))) w)
def GetTC (W0 : World) : Prop := ∀ (x : Nd) (l : List Stp) (cs : List Value) (v : Value) (w : World), LieN w cs x → WayV w.heap.size w v l → Few9 x → l.length ≤ 1000000 → Below W0.heap.size W0 w →
 Calls Try.prog 25 #[.agg cs.toArray, v] w (TreP (GetX x l).1 (.bool (GetX x l).2) w)
def SetTC (W0 : World) : Prop := ∀ (x y : Nd) (l : List Stp) (cs ds : List Value) (v : Value) (w : World), LieN w cs x → LieN w ds y → WayV w.heap.size w v l → Few9 x → Few9 y → rgtX x = true → l.length ≤ 1000000 → Below W0.heap.size W0 w →
 Calls Try.prog 39 #[.agg cs.toArray, v, .agg ds.toArray] w (TreP (SetX x l y).1 (.int .i64 ((SetX x l y).2 : Int)) w)
def CutTC (W0 : World) : Prop := ∀ (x : Nd) (l : List Stp) (cs : List Value) (v : Value) (w : World), LieN w cs x → WayV w.heap.size w v l → Few9 x → rgtX x = true → l.length ≤ 1000000 → Below W0.heap.size W0 w →
 Calls Try.prog 41 #[.agg cs.toArray, v] w (TreP (CutX x l).1 (.int .i64 ((CutX x l).2 : Int)) w)
abbrev cN (a : NdD) (v : Value) : Array Value := #[.string (txt a.name), .string (txt a.key), .int .i64 a.kind, .int .u64 (a.num : Int), .string (txt a.text), v]
section
variable {α : Type} {D : RdOf α} {e : TypeId} {K p : Nat} {w w' : World} {base : Nat} {S S' N N' : Nat → Prop} {v : Value} {f g : Fr α}
theorem FrAt.take (n : Nat) : ∀ {f : Fr α} {b o : Nat}, FrAt D K p w S N f b o → FrAt D K p w S N (Fr.take n f) b o := by
 induction n with
 | zero => intro f b o h; cases f <;> trivial
 | succ n ih =>
  intro f b o h
  cases f with
  | nil => trivial
  | cons a k r => exact ⟨h.1, ih h.2⟩
theorem FrV.front {A : Option Addr} {L c n : Nat} (hn : n ≤ f.len) (h : FrV D K p w S N (.slice A L c) f) : FrV D K p w S N (.slice A n c) (Fr.take n f) := by
 obtain ⟨A', c', e, h1, h2⟩ := h
 injection e with e1 e2 e3
 subst e1 e2 e3
 have hl := Fr.len_take n f hn
 refine ⟨A, c, by rw [hl], by omega, fun h0 => ?_⟩
 obtain ⟨b, o, h3, h4, h5⟩ := h2 (by omega)
 exact ⟨b, o, h3, h4, h5.take n⟩
theorem FrV.back {b o L c n : Nat} (hn : n ≤ f.len) (h : FrV D K p w S N (.slice (some ⟨b, o, none⟩) L c) f) : FrV D K p w S N (.slice (some ⟨b, o + n * K, none⟩) (f.len - n) (c - n)) (Fr.drop n f) := by
 obtain ⟨A', c', e, h1, h2⟩ := h
 injection e with e1 e2 e3
 subst e2 e3
 have hl := Fr.len_drop n f
 refine ⟨_, _, by rw [hl], by omega, fun h0 => ?_⟩
 obtain ⟨b', o', h3, h4, h5⟩ := h2 (by omega)
 rw [← e1] at h3
 injection h3 with h3
 injection h3 with e4 e5 _
 subst e4 e5
 exact ⟨b, _, rfl, h4, h5.drop n⟩
theorem FrV.none_ (A : Option Addr) (c : Nat) : FrV D K p w S N (.slice A 0 c) (.nil : Fr α) := ⟨A, c, rfl, Nat.zero_le _, fun h => absurd h (by simp [Fr.len])⟩
def AppGs (D : RdOf α) (e : TypeId) (K p : Nat) (base : Nat) (S N : Nat → Prop) (w : World) (v : Value) (f : Fr α) (v' : Value) (w' : World) : Prop :=
 OwnG D e K p w' base S N v' f ∧ w.grownBy w' v.ownBlock ∧ (v'.ownBlock = v.ownBlock ∨ v'.ownBlock = some w.heap.size)
theorem AppGs.below {v' : Value} {g : Fr α} (h : AppGs D e K p base S N w v g v' w') (hown : OwnG D e K p w base S N v f) (hb : base ≤ w.heap.size) : Below base w w' :=
 (Below.refl _ _).grown h.2.1 hb fun b e => (hown.lt b e).1
theorem run_append_gs {P : Program} (hD : StayD D) (hO : OneD D) {ts : TypeId} {z : Value} {bytes : Nat} (hu : P.underlying ts = some (.slice e))
  (hinfo : (P.info? e).map (fun i => (i.zero, i.size, i.bytes)) = some (some z, K, bytes)) (hz : z.cells.size = K) (hk : 0 < K) (w : World) (v : Value) (hown : OwnG D e K p w base S N v f) (u : Value) (hs : FrV D K p w S N u g)
  (hb : (f.len + g.len) * bytes ≤ 140737488355328) (hlen : f.len + g.len ≤ 140737488355328) (hbase : base ≤ w.heap.size) :
  ∃ v' w', (Builtin.append_ #[ts, ts] ts #[v, u]).run P w = .ok v' w' ∧ AppGs D e K p base S N w v (f.app g) v' w' := by
 obtain ⟨hS, hN, xs, h1, h2⟩ := hown
 have hown : OwnG D e K p w base S N v f := ⟨hS, hN, xs, h1, h2⟩
 obtain ⟨i, hi, hz0, hz1, hz2⟩ := info_parts hinfo
 obtain ⟨A, c, rfl, hlc, hsrc⟩ := hs
 rcases A with _ | ad
 ·have hl : g = .nil := by
   cases g with
   | nil => rfl
   | cons a k r =>
    obtain ⟨_, _, he, _⟩ := hsrc (by simp [Fr.len])
    cases he
  subst hl
  refine ⟨v, w, ?_, by rw [Fr.app_nil]; exact hown, World.grownBy.refl w _, .inl rfl⟩
  rcases h1.2 with ⟨rfl, _⟩ | ⟨b, cap, cur, rfl, _, _, hnc, _⟩
  ·simp [Builtin.append_, run_underlying hu, sizeOf, typeInfo, hi, Builtin.lenOf, Builtin.firstCells, Fr.len]
  ·simp [Builtin.append_, run_underlying hu, sizeOf, typeInfo, hi, Builtin.lenOf, Builtin.firstCells, hnc, storeCells, Fr.len]
 ·obtain ⟨ys, hy, hc⟩ : ∃ ys, rowG D K p w S N ys g ∧ ∀ j x, ys[j]? = some x → w.cell? (ad.add j) = some x := by
   by_cases h0 : 0 < g.len
   ·obtain ⟨b, o, he, _, hat⟩ := hsrc h0
    injection he with he
    subst he
    obtain ⟨ys, h3, h4⟩ := hat.row
    refine ⟨ys, h3, fun j x hj => ?_⟩
    have e1 : (⟨b, o, none⟩ : Addr).add j = ⟨b, o + j, none⟩ := by unfold Addr.add; split <;> simp_all
    rw [e1]
    exact h4 j x hj
   ·cases g with
    | nil => exact ⟨[], rfl, fun j x hj => by simp at hj⟩
    | cons => simp [Fr.len] at h0
  obtain ⟨v', w', hrun, k1, k2, _, k3⟩ := run_append_own_at (P := P) (w := w) base ts ts e i z K bytes hu hi hz0 hz1 hz2 hz hk v f.len xs h1 ad g.len c ys hy.len hc (hy.oneCell hO) (by unfold maxLen; omega) hb hbase
  exact ⟨v', w', hrun, hown.app hD h2 (by rw [Fr.len_app]; exact k1) k2 k3 hy, k2, k3⟩
theorem wp_append_gs {P : Program} (hD : StayD D) (hO : OneD D) {ts : TypeId} {z : Value} {bytes : Nat} (hu : P.underlying ts = some (.slice e))
  (hinfo : (P.info? e).map (fun i => (i.zero, i.size, i.bytes)) = some (some z, K, bytes)) (hz : z.cells.size = K) (hk : 0 < K) {o : Oper} {a : Act} {K' : Act → World → Prop} {Q : Exit → Act → World → Prop} (s x : Operand)
  (ho : o.op = .call { callee := .builtin .append, args := #[s, x], argTypes := #[ts, ts] }) (hty : o.type = ts)
  (hs : a.eval s = v) (hown : OwnG D e K p w base S N v f) {u : Value} (hx : a.eval x = u) (hs2 : FrV D K p w S N u g)
  (hb : (f.len + g.len) * bytes ≤ 140737488355328) (hlen : f.len + g.len ≤ 140737488355328) (hbase : base ≤ w.heap.size)
  (hK : ∀ v' w', AppGs D e K p base S N w v (f.app g) v' w' → K' (a.put o.dst v') w') : o.wp P a w K' Q := by
 obtain ⟨v', w', hrun, h2⟩ := run_append_gs hD hO hu hinfo hz hk w v hown u hs2 hb hlen hbase
 unfold Oper.wp execOp
 simp only [ho, hty, resolve, invoke, builtin, Sem.run_bind, Sem.run_pure, Result.andThen_ok, List.map_toArray, List.map_cons, List.map_nil, hs, hx, hrun]
 exact hK v' w' h2
theorem wpList_append_gs {P : Program} (hD : StayD D) (hO : OneD D) {ts : TypeId} {z : Value} {bytes : Nat} (hu : P.underlying ts = some (.slice e))
  (hinfo : (P.info? e).map (fun i => (i.zero, i.size, i.bytes)) = some (some z, K, bytes)) (hz : z.cells.size = K) (hk : 0 < K) {ops : Array Oper} {rest : List Oper} {o : Oper} {a : Act} {Q : Exit → Act → World → Prop} (hgd : o.guard = none) (s x : Operand)
  (ho : o.op = .call { callee := .builtin .append, args := #[s, x], argTypes := #[ts, ts] }) (hty : o.type = ts)
  (hs : a.eval s = v) (hown : OwnG D e K p w base S N v f) {u : Value} (hx : a.eval x = u) (hs2 : FrV D K p w S N u g)
  (hb : (f.len + g.len) * bytes ≤ 140737488355328) (hlen : f.len + g.len ≤ 140737488355328) (hbase : base ≤ w.heap.size)
  (hK : ∀ v' w', AppGs D e K p base S N w v (f.app g) v' w' → wpList P ops Q rest (a.put o.dst v') w') : wpList P ops Q (o :: rest) a w :=
 wpList_plain hgd fun _ hK' => wp_append_gs hD hO hu hinfo hz hk s x ho hty hs hown hx hs2 hb hlen hbase fun v' w' hp => hK' _ _ (hK v' w' hp)
end
section
open Go.ChangeShapes Go.WideShapes Go.Deep
theorem bulk_one9 {H : Type} (d : DataW H) : 1 ≤ Rows.uptoBulk d := by
 cases d with
 | lit l => cases l <;> simp [Rows.uptoBulk]
 | nil => simp [Rows.uptoBulk]
 | ptr d => simp [Rows.uptoBulk]
 | slice elems spare => simp [Rows.uptoBulk]
 | agg parts => simp [Rows.uptoBulk]
 | iface t d => simp [Rows.uptoBulk]
 | map entries => simp [Rows.uptoBulk]
 | held h => simp [Rows.uptoBulk]
theorem add_bare9 (b o j : Nat) : (⟨b, o, none⟩ : Addr).add j = ⟨b, o + j, none⟩ := by unfold Addr.add; split <;> simp_all
theorem cellsNode : Try.prog.cellsOf 27 = 6 := by kernel_rfl
theorem cellsVal : Try.prog.cellsOf 24 = 3 := by kernel_rfl
theorem cellsStr9 : Try.prog.cellsOf 9 = 1 := by kernel_rfl
theorem cellsInt9 : Try.prog.cellsOf 3 = 1 := by kernel_rfl
theorem cellsU64 : Try.prog.cellsOf 22 = 1 := by kernel_rfl
theorem cellsNds : Try.prog.cellsOf 25 = 1 := by kernel_rfl
theorem node_cells {H : Type} {enc : TypeId × Value → H} {W : World} {n : Nat} {cs : List Value} {x : DataW H × List MemPlace} (h : DataW.trod enc Try.prog W 0 (fun _ => true) true n 27 cs = some x) :
  ∃ (a : NdD) (c5 : Value) (n' : Nat) (y : DataW H × List MemPlace), n = n' + 1 ∧ cs = ndC a c5 ∧ DataW.trod enc Try.prog W 0 (fun _ => true) true n' 25 [c5] = some y ∧ Rows.uptoBulk y.1 + 4 ≤ Rows.uptoBulk x.1 := by
 obtain ⟨ys, k, hk, hy, hlen, hyl, hf⟩ := DataW.trod_struct Try.underlying27 h
 rw [cellsNode] at hlen
 have hyl' : ys.length = 4 := hyl
 match cs, hlen, ys, hyl', hy with
 | [v0, v1, v2, v3, v4, v5], _, [y0, y1, y2, y3], _, hy =>
  have f0 : DataW.trod enc Try.prog W 0 (fun _ => true) true k 9 (List.take (Try.prog.cellsOf 9) (List.drop 0 [v0, v1, v2, v3, v4, v5])) = some _ := (hf 0 _ rfl).trans rfl
  have f1 : DataW.trod enc Try.prog W 0 (fun _ => true) true k 9 (List.take (Try.prog.cellsOf 9) (List.drop 1 [v0, v1, v2, v3, v4, v5])) = some _ := (hf 1 _ rfl).trans rfl
  have f2 : DataW.trod enc Try.prog W 0 (fun _ => true) true k 24 (List.take (Try.prog.cellsOf 24) (List.drop 2 [v0, v1, v2, v3, v4, v5])) = some _ := (hf 2 _ rfl).trans rfl
  have f3 : DataW.trod enc Try.prog W 0 (fun _ => true) true k 25 (List.take (Try.prog.cellsOf 25) (List.drop 5 [v0, v1, v2, v3, v4, v5])) = some _ := (hf 3 _ rfl).trans rfl
  rw [cellsStr9] at f0 f1
  rw [cellsVal] at f2
  rw [cellsNds] at f3
  simp only [List.drop_zero, List.drop_succ_cons, List.take_succ_cons, List.take_zero] at f0 f1 f2 f3
  obtain ⟨s0, e0, _, _⟩ := DataW.trod_string Try.underlying9 f0
  obtain ⟨s1, e1, _, _⟩ := DataW.trod_string Try.underlying9 f1
  obtain ⟨zs, k', hk', hz, _, hzl, hg⟩ := DataW.trod_struct Try.underlying24 f2
  have hzl' : zs.length = 3 := hzl
  match zs, hzl', hz with
  | [z0, z1, z2], _, hz =>
   have g0 : DataW.trod enc Try.prog W 0 (fun _ => true) true k' 3 (List.take (Try.prog.cellsOf 3) (List.drop 0 [v2, v3, v4])) = some _ := (hg 0 _ rfl).trans rfl
   have g1 : DataW.trod enc Try.prog W 0 (fun _ => true) true k' 22 (List.take (Try.prog.cellsOf 22) (List.drop 1 [v2, v3, v4])) = some _ := (hg 1 _ rfl).trans rfl
   have g2 : DataW.trod enc Try.prog W 0 (fun _ => true) true k' 9 (List.take (Try.prog.cellsOf 9) (List.drop 2 [v2, v3, v4])) = some _ := (hg 2 _ rfl).trans rfl
   rw [cellsInt9] at g0
   rw [cellsU64] at g1
   rw [cellsStr9] at g2
   simp only [List.drop_zero, List.drop_succ_cons, List.take_succ_cons, List.take_zero] at g0 g1 g2
   obtain ⟨kd, e2, _, _⟩ := DataW.trod_int Try.underlying3 g0
   obtain ⟨nu, e3, _, hw⟩ := DataW.trod_int Try.underlying22 g1
   obtain ⟨s2, e4, _, _⟩ := DataW.trod_string Try.underlying9 g2
   have hb := bounds_u64 hw
   simp at e0 e1 e2 e3 e4
   subst e0 e1 e2 e3 e4
   refine ⟨⟨s0.data.toList, s1.data.toList, kd, nu.toNat, s2.data.toList⟩, v5, k, y3, hk, ?_, f3, ?_⟩
   ·show _ = [Value.string (txt s0.data.toList), Value.string (txt s1.data.toList), Value.int .i64 kd, Value.int .u64 (nu.toNat : Int), Value.string (txt s2.data.toList), v5]
    rw [show txt s0.data.toList = s0 from txt_ext (txt_data _), show txt s1.data.toList = s1 from txt_ext (txt_data _), show txt s2.data.toList = s2 from txt_ext (txt_data _), Int.toNat_of_nonneg (by omega)]
   ·have hx : x.1 = .agg [y0.1, y1.1, y2.1, y3.1] := congrArg Prod.fst hy
    rw [hx]
    have := bulk_one9 y0.1
    have := bulk_one9 y1.1
    have := bulk_one9 y2.1
    simp only [Rows.uptoBulk, Rows.uptoBulkAll]
    omega
theorem open_nodes {H : Type} {enc : TypeId × Value → H} {W : World} (N : Nat) :
  ∀ {fuel : Nat} {v : Value} {x : DataW H × List MemPlace}, fuel ≤ N → DataW.trod enc Try.prog W 0 (fun _ => true) true fuel 25 [v] = some x → ∃ f, RowT W.heap.size W v f ∧ 2 * f.size ≤ Rows.uptoBulk x.1 := by
 induction N with
 | zero =>
  intro fuel v x hN h
  obtain rfl : fuel = 0 := by omega
  simp [DataW.trod] at h
 | succ N ih =>
  intro fuel v x hN h
  rcases DataW.trod_slice Try.underlying25 h with ⟨hcs, rfl⟩ | ⟨a, len, cap, elems, rest, n, rfl, hcs, rfl, hb, hl, hm, hlen, hel, -, -⟩
  ·simp at hcs
   subst hcs
   exact ⟨.nil, FrV.empty _ _ _, Nat.zero_le _⟩
  ·simp at hcs
   subst hcs
   by_cases h0 : 0 < len
   ·have hcell0 : ∃ u, W.cell? a = some u := by
     have h1 := hel 0 h0
     rw [List.getElem?_eq_getElem (by omega)] at h1
     obtain ⟨cs', h2, _⟩ := Option.bind_eq_some_iff.1 h1
     rw [cellsNode] at h2
     obtain ⟨_, h3, h4⟩ := World.cells?_some h2
     have h5 := h4 0 (by omega)
     rw [List.getElem?_eq_getElem (by omega)] at h5
     exact ⟨_, by simpa [Addr.add] using h5⟩
    obtain ⟨u0, hu0⟩ := hcell0
    have hsp0 : a.spot = none := World.cell?_spot hu0
    have hlt : a.block < W.heap.size := World.block_lt_of_cell? W _ hu0
    obtain ⟨b, off, sp⟩ := a
    have hsp : sp = none := hsp0
    subst hsp
    have rows : ∀ m, m ≤ len → ∃ f : NdF, f.len = m ∧ FrAt NdT 6 5 W (fun g => g < W.heap.size) noB f b (off + (len - m) * 6) ∧ 2 * f.size ≤ Rows.uptoBulkAll ((elems.drop (len - m)).map (·.1)) := by
     intro m
     induction m with
     | zero => intro _; exact ⟨.nil, rfl, trivial, Nat.zero_le _⟩
     | succ m ihm =>
      intro hm'
      obtain ⟨r, hr1, hr2, hr3⟩ := ihm (by omega)
      obtain ⟨i, hi⟩ : ∃ i, i = len - (m + 1) := ⟨_, rfl⟩
      have hi1 : len - m = i + 1 := by omega
      have hil : i < len := by omega
      rw [hi1] at hr2 hr3
      rw [← hi]
      have h1 := hel i hil
      have hie : i < elems.length := by omega
      rw [List.getElem?_eq_getElem hie] at h1
      obtain ⟨cs', h2, h3⟩ := Option.bind_eq_some_iff.1 h1
      rw [cellsNode] at h2
      obtain ⟨_, hcl, hat⟩ := World.cells?_some h2
      have hcc : ∀ j, j < 6 → W.cell? ⟨b, off + i * 6 + j, none⟩ = cs'[j]? := fun j hj => by
       have h5 := hat j hj
       rw [add_bare9, add_bare9] at h5
       exact h5
      obtain ⟨nd, c5, n', y, hn', rfl, hy, hyb⟩ := node_cells h3
      obtain ⟨k, hk1, hk2⟩ := ih (by omega) hy
      have hdrop : (elems.drop i).map (·.1) = (elems[i]).1 :: (elems.drop (i + 1)).map (·.1) := by rw [List.drop_eq_getElem_cons hie]; rfl
      obtain ⟨A, c, rfl⟩ := FrV.shape hk1
      obtain ⟨A', c', e, hkc, hkr⟩ := hk1
      injection e with e1 e2 e3
      subst e1 e3
      refine ⟨.cons nd k r, by simp only [Fr.len, hr1], ⟨⟨ndC nd (.slice A k.len c), rfl, fun j u hu => ?_, ⟨_, rfl, rfl⟩, A, c, rfl, hkc, hkr⟩, ?_⟩, ?_⟩
      ·have hj : j < 6 := (List.getElem?_eq_some_iff.1 hu).1
       rw [hcc j hj, hu]
      ·have h9 : off + i * 6 + 6 = off + (i + 1) * 6 := by omega
       rw [h9]; exact hr2
      ·rw [hdrop]
       simp only [Fr.size, Rows.uptoBulkAll]
       omega
    obtain ⟨f, hf1, hf2, hf3⟩ := rows len (Nat.le_refl _)
    rw [Nat.sub_self, Nat.zero_mul, Nat.add_zero] at hf2
    rw [Nat.sub_self, List.drop_zero] at hf3
    refine ⟨f, ⟨_, cap, by rw [hf1], by omega, fun _ => ⟨b, off, rfl, hlt, hf2⟩⟩, ?_⟩
    simp only [Rows.uptoBulk]
    omega
   ·obtain rfl : len = 0 := by omega
    exact ⟨.nil, FrV.none_ _ _, Nat.zero_le _⟩
theorem open_node {H : Type} {enc : TypeId × Value → H} {W : World} {v : Value} {d : DataW H} {p : List MemPlace} (h : DataW.Trod enc Try.prog W 0 (fun _ => true) true 27 v d p) (hv : ∃ cs : Array Value, v = .agg cs) :
  ∃ (a : NdD) (f : NdF) (A : Option Addr) (c : Nat), v = .agg (ndC a (.slice A f.len c)).toArray ∧ LieN W (ndC a (.slice A f.len c)) (a, f) ∧ 2 * f.size ≤ Rows.uptoBulk d := by
 obtain ⟨fuel, hf⟩ := h
 obtain ⟨cs, rfl⟩ := hv
 have hf' : DataW.trod enc Try.prog W 0 (fun _ => true) true fuel 27 cs.toList = some (d, p) := hf
 obtain ⟨a, c5, n', y, _, he, hy, hb⟩ := node_cells hf'
 obtain ⟨f, h1, h2⟩ := open_nodes n' (Nat.le_refl _) hy
 obtain ⟨A, c, rfl⟩ := FrV.shape h1
 refine ⟨a, f, A, c, ?_, LieB.make h1, by simp only at hb; omega⟩
 rw [← he]
theorem cellsStep : Try.prog.cellsOf 47 = 2 := by kernel_rfl
theorem open_way {H : Type} {enc : TypeId × Value → H} {W : World} {fuel : Nat} {v : Value} {x : DataW H × List MemPlace} (h : DataW.trod enc Try.prog W 0 (fun _ => true) true fuel 35 [v] = some x) : ∃ l, WayV W.heap.size W v l ∧ l.length ≤ Rows.uptoBulk x.1 := by
 rcases DataW.trod_slice Try.underlying35 h with ⟨hcs, rfl⟩ | ⟨a, len, cap, elems, rest, n, rfl, hcs, rfl, hb, hl, hm, hlen, hel, -, -⟩
 ·simp at hcs
  subst hcs
  exact ⟨[], WayV.nil _ _ _ _, Nat.zero_le _⟩
 ·simp at hcs
  subst hcs
  have hbl : len ≤ Rows.uptoBulkAll (elems.map (·.1)) := by
   have hl2 : ∀ l : List (DataW H), l.length ≤ Rows.uptoBulkAll l := by
    intro l
    induction l with
    | nil => simp [Rows.uptoBulkAll]
    | cons x r ih => have := bulk_one9 x; simp only [Rows.uptoBulkAll, List.length_cons]; omega
   have := hl2 (elems.map (·.1))
   simp at this
   omega
  by_cases h0 : 0 < len
  ·have hcell0 : ∃ u, W.cell? a = some u := by
    have h1 := hel 0 h0
    rw [List.getElem?_eq_getElem (by omega)] at h1
    obtain ⟨cs', h2, _⟩ := Option.bind_eq_some_iff.1 h1
    rw [cellsStep] at h2
    obtain ⟨_, h3, h4⟩ := World.cells?_some h2
    have h5 := h4 0 (by omega)
    rw [List.getElem?_eq_getElem (by omega)] at h5
    exact ⟨_, by simpa [Addr.add] using h5⟩
   obtain ⟨u0, hu0⟩ := hcell0
   have hsp0 : a.spot = none := World.cell?_spot hu0
   have hlt : a.block < W.heap.size := World.block_lt_of_cell? W _ hu0
   obtain ⟨b, off, sp⟩ := a
   have hsp : sp = none := hsp0
   subst hsp
   have rows : ∀ m, m ≤ len → ∃ l : List Stp, l.length = m ∧ ∀ j s, l[j]? = some s → W.cell? ⟨b, off + (len - m + j) * 2, none⟩ = some (.string (txt s.1)) ∧ W.cell? ⟨b, off + (len - m + j) * 2 + 1, none⟩ = some (.string (txt s.2)) := by
    intro m
    induction m with
    | zero => intro _; exact ⟨[], rfl, fun j s h => by simp at h⟩
    | succ m ihm =>
     intro hm'
     obtain ⟨r, hr1, hr2⟩ := ihm (by omega)
     obtain ⟨i, hi⟩ : ∃ i, i = len - (m + 1) := ⟨_, rfl⟩
     have hi1 : len - m = i + 1 := by omega
     have hil : i < len := by omega
     rw [hi1] at hr2
     rw [← hi]
     have h1 := hel i hil
     have hie : i < elems.length := by omega
     rw [List.getElem?_eq_getElem hie] at h1
     obtain ⟨cs', h2, h3⟩ := Option.bind_eq_some_iff.1 h1
     rw [cellsStep] at h2
     obtain ⟨_, hcl, hat⟩ := World.cells?_some h2
     have hcc : ∀ j, j < 2 → W.cell? ⟨b, off + i * 2 + j, none⟩ = cs'[j]? := fun j hj => by
      have h5 := hat j hj
      rw [add_bare9, add_bare9] at h5
      exact h5
     obtain ⟨ys, k, hk, hy, hlen', hyl, hf⟩ := DataW.trod_struct Try.underlying47 h3
     have hyl' : ys.length = 2 := hyl
     match cs', hcl, ys, hyl' with
     | [v0, v1], _, [y0, y1], _ =>
      have f0 : DataW.trod enc Try.prog W 0 (fun _ => true) true k 9 (List.take (Try.prog.cellsOf 9) (List.drop 0 [v0, v1])) = some _ := (hf 0 _ rfl).trans rfl
      have f1 : DataW.trod enc Try.prog W 0 (fun _ => true) true k 9 (List.take (Try.prog.cellsOf 9) (List.drop 1 [v0, v1])) = some _ := (hf 1 _ rfl).trans rfl
      rw [cellsStr9] at f0 f1
      simp only [List.drop_zero, List.drop_succ_cons, List.take_succ_cons, List.take_zero] at f0 f1
      obtain ⟨s0, e0, _, _⟩ := DataW.trod_string Try.underlying9 f0
      obtain ⟨s1, e1, _, _⟩ := DataW.trod_string Try.underlying9 f1
      simp at e0 e1
      subst e0 e1
      refine ⟨(s0.data.toList, s1.data.toList) :: r, by simp [hr1], fun j s hj => ?_⟩
      cases j with
      | zero =>
       simp at hj
       subst hj
       have g0 := hcc 0 (by omega)
       have g1 := hcc 1 (by omega)
       simp only [Nat.add_zero, List.getElem?_cons_zero, List.getElem?_cons_succ] at g0 g1
       refine ⟨?_, ?_⟩
       ·rw [show i + 0 = i from rfl, g0, show txt s0.data.toList = s0 from txt_ext (txt_data _)]
       ·rw [show i + 0 = i from rfl, g1, show txt s1.data.toList = s1 from txt_ext (txt_data _)]
      | succ j =>
       have h9 := hr2 j s (by simpa using hj)
       rw [show i + 1 + j = i + (j + 1) by omega] at h9
       exact h9
   obtain ⟨l, hl1, hl2⟩ := rows len (Nat.le_refl _)
   rw [Nat.sub_self] at hl2
   subst hl1
   refine ⟨l, ⟨_, cap, rfl, by omega, fun _ => ⟨b, off, rfl, hlt, fun j s hs => ?_⟩⟩, ?_⟩
   ·have h9 := hl2 j s hs
    rw [Nat.zero_add] at h9
    exact h9
   ·simp only [Rows.uptoBulk]
    omega
  ·obtain rfl : len = 0 := by omega
   exact ⟨[], WayV.nil _ _ _ _, Nat.zero_le _⟩
end
structure EdD where
 kind : Int
 way : List Stp
 node : Nd
 old : Nd
theorem EdD.ext_ {a b : EdD} (h1 : a.kind = b.kind) (h2 : a.way = b.way) (h3 : a.node = b.node) (h4 : a.old = b.old) : a = b := by
 cases a; cases b; simp_all
instance : DecidableEq EdD := fun a b => decidable_of_iff (a.kind = b.kind ∧ a.way = b.way ∧ a.node = b.node ∧ a.old = b.old)
 ⟨fun ⟨h1, h2, h3, h4⟩ => EdD.ext_ h1 h2 h3 h4, fun h => by subst h; exact ⟨rfl, rfl, rfl, rfl⟩⟩
theorem held_more {P : Program} {md : Region.Mode} {ops : Array Oper} {Q : Exit → Act → World → Prop} {S S' : World → Prop} (h : ∀ w, S' w → S w) :
  ∀ (fuel : Nat) (listed : Array Bool) (a : Act) (w : World), wpAnyH P md ops Q S' fuel listed a w → wpAnyH P md ops Q S fuel listed a w
 | 0, _, _, _, hw => hw
 | fuel + 1, _, _, _, hw => ⟨hw.1, fun i hi => wpOp_mono (fun _ _ hq => ⟨h _ hq.1, held_more h fuel _ _ _ hq.2⟩) (hw.2 i hi)⟩
theorem tkH {P : Program} {ops : Array Oper} {Q : Exit → Act → World → Prop} {md : Region.Mode} {S : World → Prop} (i : Nat) {oi : Oper} {v : Value} {fuel : Nat} {listed : Array Bool} {a a' : Act} {w : World} (hS : S w) (h : wpAnyH P md ops Q S fuel (listed.setIfInBounds i true) a' w)
 (hi : ops[i]? = some oi := by (simp only [layG]; rfl)) (h1 : Region.noSelect ops = true := by kernel_rfl) (h2 : Region.free md ops listed i = true := by kernel_rfl) (h3 : (Region.ready md ops listed).contains i = true := by kernel_rfl)
 (hw : Region.wanted oi (yielded ops a.tmps) = true := by rfl) (hy : ∀ w, S w → (execOp a.eval oi).run P w = .ok (.value v) w := by (intro w hSw; (go_simp <;> with_reducible rfl)))
 (ha : a.put oi.dst v = a' := by (first | (simp only [Act.put, layS]; rfl) | rfl)) (hQ : ∀ c a w, Q (.panic c) (a.put oi.dst v) w → Q (.panic c) a w := by exact fun _ _ _ h => h) : wpAnyH P md ops Q S (fuel + 1) listed a w := by
 subst ha; exact wpAnyH_take hi h1 h2 h3 hQ (Or.inl ⟨hw, hy⟩) hS h
theorem tkHo {P : Program} {ops : Array Oper} {Q : Exit → Act → World → Prop} {md : Region.Mode} {S : World → Prop} (i : Nat) {oi : Oper} {fuel : Nat} {listed : Array Bool} {a a' : Act} {w : World} (hS : S w) (h : wpAnyH P md ops Q S fuel (listed.setIfInBounds i true) a' w)
 (hi : ops[i]? = some oi := by (simp only [layG]; rfl)) (h1 : Region.noSelect ops = true := by kernel_rfl) (h2 : Region.free md ops listed i = true := by kernel_rfl) (h3 : (Region.ready md ops listed).contains i = true := by kernel_rfl)
 (hw : Region.wanted oi (yielded ops a.tmps) = false := by rfl) (ha : a.put oi.dst undef = a' := by (first | (simp only [Act.put, layS]; rfl) | rfl)) (hQ : ∀ c a w, Q (.panic c) (a.put oi.dst undef) w → Q (.panic c) a w := by exact fun _ _ _ h => h) : wpAnyH P md ops Q S (fuel + 1) listed a w := by
 subst ha; exact wpAnyH_take hi h1 h2 h3 hQ (Or.inr ⟨hw, rfl⟩) hS h
theorem rdC {P : Program} {ops : Array Oper} {Q : Exit → Act → World → Prop} {md : Region.Mode} {S : World → Prop} {fuel : Nat} {listed : Array Bool} {a : Act} {w : World} {i : Nat} {o : Oper} {rs : List Nat} (h : ∀ K' : Act → World → Prop, Shut (∀ a w, S w → (S w → wpAnyH P md ops Q S fuel (listed.setIfInBounds i true) a w) → K' a w) → Oper.wp P o a w K' Q) (hs : AllReadyH P md ops Q S fuel listed a w rs)
 (ho : ops[i]? = some o := by (simp only [layG]; rfl)) (hw : Region.wanted o (yielded ops a.tmps) = true := by rfl) : AllReadyH P md ops Q S fuel listed a w (i :: rs) := .cons ho (fun K hK => by rw [if_pos hw]; exact h K hK) hs
theorem rdy {P : Program} {ops : Array Oper} {Q : Exit → Act → World → Prop} {md : Region.Mode} {S : World → Prop} {fuel : Nat} {listed : Array Bool} {a : Act} {w : World} (rs : List Nat) (h : AllReadyH P md ops Q S fuel listed a w rs) (hr : Region.ready md ops listed = rs := by kernel_rfl) (hne : rs ≠ [] := by simp) : wpAnyH P md ops Q S (fuel + 1) listed a w := wpAnyH_ready hr hne h
theorem rdy1 {P : Program} {ops : Array Oper} {Q : Exit → Act → World → Prop} {md : Region.Mode} {S : World → Prop} {fuel : Nat} {listed : Array Bool} {a : Act} {w : World} (i : Nat) {o : Oper} (h : ∀ K' : Act → World → Prop, Shut (∀ a w, S w → (S w → wpAnyH P md ops Q S fuel (listed.setIfInBounds i true) a w) → K' a w) → Oper.wp P o a w K' Q)
 (hr : Region.ready md ops listed = [i] := by kernel_rfl) (ho : ops[i]? = some o := by (simp only [layG]; rfl)) (hw : Region.wanted o (yielded ops a.tmps) = true := by rfl) : wpAnyH P md ops Q S (fuel + 1) listed a w := wpAnyH_ready hr (by simp) (rdC h .nil ho hw)
end Go.Proofs.Ythmobcaidhgeaaa
