/- TreMem Drawn WayMem DifMem SclNum SpcNum PthNum -/
import Derived.Test.YthdhchhpjoghlaaAM1
import Derived.Test.YthdhchhpjoghlaaRows
import Derived.Deep.RegionHeld3
import Derived.Test.YthdhchhpjoghlaaAM0
import Derived.Laws.OwnMore
import Derived.Lib.AppendZeros
set_option linter.unusedSimpArgs false
set_option linter.unusedVariables false
namespace Go.Proofs.Ythdhchhpjoghlaa
open Go.RowKit
abbrev ndC (a : NdD) (kv : Value) : List Value := [.string (txt a.name), .string (txt a.key), .int .i64 a.kind, .int .u64 (a.num : Int), .string (txt a.text), kv]
def NdT : RdOf NdD := fun _ _ cs a => ∃ kv, cs = ndC a kv ∧ kv.oneCell' = true
def NdA : RdOf NdD := fun w N cs a => NdT w N cs a ∧ ∀ b o n c, cs[5]? = some (.slice (some ⟨b, o, none⟩) n c) → o % 6 = 0
def noB : Nat → Prop := fun _ => False
theorem stay_nd : StayD NdT := fun _ _ _ _ _ _ _ _ h => h
theorem one_nd : OneD NdT := by
 intro w N cs a ⟨kv, h1, h4⟩ u hu
 subst h1
 simp only [List.mem_cons, List.not_mem_nil, or_false] at hu
 rcases hu with rfl | rfl | rfl | rfl | rfl | rfl <;> first | rfl | exact h4
def LieB (b : Nat) (w : World) (cs : List Value) (x : Nd) : Prop := FrN NdT 6 5 w (fun g => g < b) noB cs x.1 x.2
def RowT (b : Nat) (w : World) (v : Value) (f : NdF) : Prop := FrV NdT 6 5 w (fun g => g < b) noB v f
abbrev LieN (w : World) (cs : List Value) (x : Nd) : Prop := LieB w.heap.size w cs x
theorem LieB.shape {b : Nat} {w : World} {cs : List Value} {x : Nd} (h : LieB b w cs x) : ∃ A c, cs = ndC x.1 (.slice A x.2.len c) ∧ RowT b w (.slice A x.2.len c) x.2 := by
 obtain ⟨_, ⟨kv, rfl, _⟩, v, h5, h6⟩ := h
 obtain ⟨A, c, rfl⟩ := h6.shape
 simp at h5
 subst h5
 exact ⟨A, c, rfl, h6⟩
theorem LieB.make {b : Nat} {w : World} {a : NdD} {f : NdF} {v : Value} (h : RowT b w v f) : LieB b w (ndC a v) (a, f) := by
 refine ⟨rfl, ⟨v, rfl, ?_⟩, v, rfl, h⟩
 obtain ⟨A, c, rfl⟩ := h.shape
 rfl
theorem LieB.keep {b b' : Nat} {w w' : World} {cs : List Value} {x : Nd} (h : LieB b w cs x) (hk : ∀ g, g < b → w'.heap[g]? = w.heap[g]?) (hb : b ≤ b') : LieB b' w' cs x :=
 FrN.kept stay_nd h hk (fun g hg => Nat.lt_of_lt_of_le hg hb) (fun _ h => h.elim) (fun _ h => h)
theorem RowT.keep {b b' : Nat} {w w' : World} {v : Value} {f : NdF} (h : RowT b w v f) (hk : ∀ g, g < b → w'.heap[g]? = w.heap[g]?) (hb : b ≤ b') : RowT b' w' v f :=
 FrV.kept stay_nd h hk (fun g hg => Nat.lt_of_lt_of_le hg hb) (fun _ h => h.elim) (fun _ h => h)
theorem LieB.under {b b' B : Nat} {w w' : World} {cs : List Value} {x : Nd} (h : LieB b w cs x) (hB : Below B w w') (hb : b ≤ B) (hb' : b ≤ b') : LieB b' w' cs x := h.keep (fun g hg => hB.block g (Nat.lt_of_lt_of_le hg hb)) hb'
theorem RowT.under {b b' B : Nat} {w w' : World} {v : Value} {f : NdF} (h : RowT b w v f) (hB : Below B w w') (hb : b ≤ B) (hb' : b ≤ b') : RowT b' w' v f := h.keep (fun g hg => hB.block g (Nat.lt_of_lt_of_le hg hb)) hb'
theorem LieB.below {w w' : World} {cs : List Value} {x : Nd} (h : LieN w cs x) (hb : Below w.heap.size w w') : LieN w' cs x := h.under hb (Nat.le_refl _) hb.size
theorem RowT.below {w w' : World} {v : Value} {f : NdF} (h : RowT w.heap.size w v f) (hb : Below w.heap.size w w') : RowT w'.heap.size w' v f := h.under hb (Nat.le_refl _) hb.size
theorem LieB.zero (b : Nat) (w : World) : LieB b w (ndC zeroT (.slice none 0 0)) noN := LieB.make (FrV.empty _ _ _)
theorem RowT.at {b : Nat} {w : World} {A : Option Addr} {n c : Nat} {f : NdF} (h : RowT b w (.slice A n c) f) {i : Nat} {y : Nd} (hy : f.get? i = some y) :
  ∃ g o A' c', A = some ⟨g, o, none⟩ ∧ n = f.len ∧ n ≤ c ∧ g < b ∧ RowT b w (.slice A' y.2.len c') y.2 ∧ ∀ j u, (ndC y.1 (.slice A' y.2.len c'))[j]? = some u → w.cell? ⟨g, o + i * 6 + j, none⟩ = some u := by
 obtain ⟨a, k⟩ := y
 obtain ⟨g, o, c1, cs, e, h1, h2, h3, h4⟩ := FrV.at h hy
 injection e with e1 e2 e3
 subst e1 e2 e3
 obtain ⟨A', c', rfl, h6⟩ := LieB.shape (x := (a, k)) h3
 exact ⟨g, o, A', c', rfl, rfl, h1, h2, h6, h4⟩
theorem RowT.len {b : Nat} {w : World} {A : Option Addr} {n c : Nat} {f : NdF} (h : RowT b w (.slice A n c) f) : n = f.len ∧ n ≤ c := by
 obtain ⟨A', c', e, h1, _⟩ := h
 injection e with e1 e2 e3
 subst e2 e3
 exact ⟨rfl, h1⟩
def WayV (b : Nat) (w : World) (v : Value) (l : List Stp) : Prop := ∃ A c, v = .slice A l.length c ∧ l.length ≤ c ∧ (0 < l.length → ∃ g o, A = some ⟨g, o, none⟩ ∧ g < b ∧
 ∀ j s, l[j]? = some s → w.cell? ⟨g, o + j * 2, none⟩ = some (.string (txt s.1)) ∧ w.cell? ⟨g, o + j * 2 + 1, none⟩ = some (.string (txt s.2)))
theorem WayV.keep {b b' : Nat} {w w' : World} {v : Value} {l : List Stp} (h : WayV b w v l) (hk : ∀ g, g < b → w'.heap[g]? = w.heap[g]?) (hb : b ≤ b') : WayV b' w' v l := by
 obtain ⟨A, c, rfl, h1, h2⟩ := h
 refine ⟨A, c, rfl, h1, fun h0 => ?_⟩
 obtain ⟨g, o, rfl, h3, h4⟩ := h2 h0
 refine ⟨g, o, rfl, Nat.lt_of_lt_of_le h3 hb, fun j s hs => ?_⟩
 obtain ⟨h5, h6⟩ := h4 j s hs
 exact ⟨(World.cell?_of_block (w := w) (hk g h3)).trans h5, (World.cell?_of_block (w := w) (hk g h3)).trans h6⟩
theorem WayV.under {b b' B : Nat} {w w' : World} {v : Value} {l : List Stp} (h : WayV b w v l) (hB : Below B w w') (hb : b ≤ B) (hb' : b ≤ b') : WayV b' w' v l := h.keep (fun g hg => hB.block g (Nat.lt_of_lt_of_le hg hb)) hb'
theorem WayV.below {w w' : World} {v : Value} {l : List Stp} (h : WayV w.heap.size w v l) (hb : Below w.heap.size w w') : WayV w'.heap.size w' v l := h.under hb (Nat.le_refl _) hb.size
theorem WayV.shape {b : Nat} {w : World} {v : Value} {l : List Stp} (h : WayV b w v l) : ∃ A c, v = .slice A l.length c := by
 obtain ⟨A, c, h, _⟩ := h; exact ⟨A, c, h⟩
theorem WayV.at {b : Nat} {w : World} {A : Option Addr} {n c : Nat} {l : List Stp} (h : WayV b w (.slice A n c) l) {j : Nat} {s : Stp} (hs : l[j]? = some s) :
  ∃ g o, A = some ⟨g, o, none⟩ ∧ n = l.length ∧ n ≤ c ∧ g < b ∧ w.cell? ⟨g, o + j * 2, none⟩ = some (.string (txt s.1)) ∧ w.cell? ⟨g, o + j * 2 + 1, none⟩ = some (.string (txt s.2)) := by
 have hlt := (List.getElem?_eq_some_iff.1 hs).1
 obtain ⟨A', c', e, h1, h2⟩ := h
 injection e with e1 e2 e3
 subst e1 e2 e3
 obtain ⟨g, o, rfl, h3, h4⟩ := h2 (by omega)
 obtain ⟨h5, h6⟩ := h4 j s hs
 exact ⟨g, o, rfl, rfl, h1, h3, h5, h6⟩
theorem WayV.nil (b : Nat) (w : World) (A : Option Addr) (c : Nat) : WayV b w (.slice A 0 c) [] := ⟨A, c, rfl, Nat.zero_le _, fun h => absurd h (by simp)⟩
theorem WayV.front {b : Nat} {w : World} {A : Option Addr} {n c : Nat} {l : List Stp} (m : Nat) (hm : m ≤ l.length) (h : WayV b w (.slice A n c) l) : WayV b w (.slice A m c) (l.take m) := by
 obtain ⟨A', c', e, h1, h2⟩ := h
 injection e with e1 e2 e3
 subst e1 e2 e3
 have hl : (l.take m).length = m := by rw [List.length_take]; omega
 refine ⟨A, c, by rw [hl], by omega, fun h0 => ?_⟩
 obtain ⟨g, o, rfl, h3, h4⟩ := h2 (by omega)
 refine ⟨g, o, rfl, h3, fun j s hs => h4 j s ?_⟩
 rw [List.getElem?_take] at hs
 split at hs
 ·exact hs
 ·cases hs
def Fresh9 (base : Nat) (w : World) (g : Nat) : Prop := base ≤ g ∧ ∃ cs t, w.heap[g]? = some (.cells cs t (0, 0))
theorem Fresh9.lt {base : Nat} {w : World} {g : Nat} (h : Fresh9 base w g) : g < w.heap.size := by
 obtain ⟨_, cs, t, h⟩ := h
 exact (Array.getElem?_eq_some_iff.1 h).1
def NewT (base : Nat) (w : World) (cs : List Value) (x : Nd) : Prop := ∃ S, (∀ g, S g → Fresh9 base w g) ∧ FrN NdA 6 5 w S noB cs x.1 x.2
theorem FrAt.plain {w : World} {S N : Nat → Prop} : ∀ {f : NdF} {b o : Nat}, FrAt NdA 6 5 w S N f b o → FrAt NdT 6 5 w S N f b o := by
 intro f
 induction f with
 | nil => intro b o _; trivial
 | cons a k r ihk ihr =>
  intro b o ⟨⟨cs, h1, h2, h3, A, c, h4, h5, h6⟩, h7⟩
  refine ⟨⟨cs, h1, h2, h3.1, A, c, h4, h5, fun h0 => ?_⟩, ihr h7⟩
  obtain ⟨b', o', h8, h9, h10⟩ := h6 h0
  exact ⟨b', o', h8, h9, ihk h10⟩
theorem FrV.plain {w : World} {S N : Nat → Prop} {v : Value} {f : NdF} (h : FrV NdA 6 5 w S N v f) : FrV NdT 6 5 w S N v f := by
 obtain ⟨A, c, rfl, h1, h2⟩ := h
 refine ⟨A, c, rfl, h1, fun h0 => ?_⟩
 obtain ⟨b, o, h3, h4, h5⟩ := h2 h0
 exact ⟨b, o, h3, h4, h5.plain⟩
theorem NewT.lies {base : Nat} {w : World} {cs : List Value} {x : Nd} (h : NewT base w cs x) : LieN w cs x := by
 obtain ⟨S, h1, h2, h3, v, h4, h5⟩ := h
 exact FrN.mono stay_nd ⟨h2, h3.1, v, h4, h5.plain⟩ (fun g hg => (h1 g hg).lt) (fun _ h => h)
def TreP (x : Nd) (u : Value) (w : World) (r : Ending) (w' : World) : Prop := ∃ cs, r = .returned (.tuple #[.agg cs.toArray, u]) ∧ NewT w.heap.size w' cs x ∧ Below w.heap.size w w'
def TreP1 (x : Nd) (w : World) (r : Ending) (w' : World) : Prop := ∃ cs, r = .returned (.agg cs.toArray) ∧ NewT w.heap.size w' cs x ∧ Below w.heap.size w w'
def RTreP (x : Nd) (u : Value) (w : World) (r : Ending) (w' : World) : Prop := ∃ cs, r = .returned (.tuple #[.agg cs.toArray, u]) ∧ LieN w' cs x ∧ Below w.heap.size w w'
def RTreP1 (x : Nd) (w : World) (r : Ending) (w' : World) : Prop := ∃ cs, r = .returned (.agg cs.toArray) ∧ LieN w' cs x ∧ Below w.heap.size w w'
def LieP (b B : Nat) (w : World) (cs : List Value) (x : Nd) : Prop := FrN NdT 6 5 w (fun g => g < b ∨ (B ≤ g ∧ g < w.heap.size)) noB cs x.1 x.2
def RowP (b B : Nat) (w : World) (v : Value) (f : NdF) : Prop := FrV NdT 6 5 w (fun g => g < b ∨ (B ≤ g ∧ g < w.heap.size)) noB v f
theorem LieP.shape {b B : Nat} {w : World} {cs : List Value} {x : Nd} (h : LieP b B w cs x) : ∃ A c, cs = ndC x.1 (.slice A x.2.len c) ∧ RowP b B w (.slice A x.2.len c) x.2 := by
 obtain ⟨_, ⟨kv, rfl, _⟩, v, h5, h6⟩ := h
 obtain ⟨A, c, rfl⟩ := h6.shape
 simp at h5
 subst h5
 exact ⟨A, c, rfl, h6⟩
theorem LieP.make {b B : Nat} {w : World} {a : NdD} {f : NdF} {v : Value} (h : RowP b B w v f) : LieP b B w (ndC a v) (a, f) := by
 refine ⟨rfl, ⟨v, rfl, ?_⟩, v, rfl, h⟩
 obtain ⟨A, c, rfl⟩ := h.shape
 rfl
theorem LieP.keep {b B b' B' : Nat} {w w' : World} {cs : List Value} {x : Nd} (h : LieP b B w cs x) (hk : ∀ g, g < b ∨ (B ≤ g ∧ g < w.heap.size) → w'.heap[g]? = w.heap[g]?) (hS : ∀ g, g < b ∨ (B ≤ g ∧ g < w.heap.size) → g < b' ∨ (B' ≤ g ∧ g < w'.heap.size)) : LieP b' B' w' cs x :=
 FrN.kept stay_nd h hk hS (fun _ h => h.elim) (fun _ h => h)
theorem LieP.lies {b B : Nat} {w : World} {cs : List Value} {x : Nd} (h : LieP b B w cs x) (hb : b ≤ w.heap.size) : LieN w cs x :=
 FrN.mono stay_nd h (fun g hg => by rcases hg with h | h <;> omega) (fun _ h => h)
theorem LieB.p {b : Nat} {w : World} {cs : List Value} {x : Nd} (h : LieB b w cs x) (B : Nat) : LieP b B w cs x := FrN.mono stay_nd h (fun g hg => .inl hg) (fun _ h => h)
theorem RowT.p {b : Nat} {w : World} {v : Value} {f : NdF} (h : RowT b w v f) (B : Nat) : RowP b B w v f := FrV.mono stay_nd h (fun g hg => .inl hg) (fun _ h => h)
def PTreP (b : Nat) (x : Nd) (u : Value) (w : World) (r : Ending) (w' : World) : Prop := ∃ cs, r = .returned (.tuple #[.agg cs.toArray, u]) ∧ LieP b w.heap.size w' cs x ∧ Below w.heap.size w w'
def PTreP1 (b : Nat) (x : Nd) (w : World) (r : Ending) (w' : World) : Prop := ∃ cs, r = .returned (.agg cs.toArray) ∧ LieP b w.heap.size w' cs x ∧ Below w.heap.size w w'
theorem PTreP.r {x : Nd} {u : Value} {w : World} {r : Ending} {w' : World} (h : PTreP w.heap.size x u w r w') : RTreP x u w r w' := by
 obtain ⟨cs, h1, h2, h3⟩ := h; exact ⟨cs, h1, h2.lies h3.size, h3⟩
theorem PTreP1.r {x : Nd} {w : World} {r : Ending} {w' : World} (h : PTreP1 w.heap.size x w r w') : RTreP1 x w r w' := by
 obtain ⟨cs, h1, h2, h3⟩ := h; exact ⟨cs, h1, h2.lies h3.size, h3⟩
def Ans9 (v : Value) (w : World) (r : Ending) (w' : World) : Prop := r = .returned v ∧ Below w.heap.size w w'
theorem TreP.r {x : Nd} {u : Value} {w : World} {r : Ending} {w' : World} (h : TreP x u w r w') : RTreP x u w r w' := by
 obtain ⟨cs, h1, h2, h3⟩ := h; exact ⟨cs, h1, h2.lies, h3⟩
theorem TreP1.r {x : Nd} {w : World} {r : Ending} {w' : World} (h : TreP1 x w r w') : RTreP1 x w r w' := by
 obtain ⟨cs, h1, h2, h3⟩ := h; exact ⟨cs, h1, h2.lies, h3⟩
def Few9 (x : Nd) : Prop := x.2.size ≤ 1000000
def LessTC (W0 : World) : Prop := ∀ (x y : Nd) (cs ds : List Value) (w : World), LieN w cs x → LieN w ds y → Below W0.heap.size W0 w →
 Calls Try.prog 43 #[.agg cs.toArray, .agg ds.toArray] w (Ans9 (.bool (lessX x.1 y.1)) w)
def SameTC (W0 : World) : Prop := ∀ (x y : Nd) (cs ds : List Value) (w : World), LieN w cs x → LieN w ds y → Few9 x → Few9 y → Below W0.heap.size W0 w →
 Calls Try.prog 28 #[.agg cs.toArray, .agg ds.toArray] w (Ans9 (.bool (decide (x = y))) w)
def GetTC (W0 : World) : Prop := ∀ (x : Nd) (l : List Stp) (cs : List Value) (v : Value) (w : World), LieN w cs x → WayV w.heap.size w v l → Few9 x → l.length ≤ 1000000 → Below W0.heap.size W0 w →
 Calls Try.prog 52 #[.agg cs.toArray, v] w (TreP (GetX x l).1 (.bool (GetX x l).2) w)
end Go.Proofs.Ythdhchhpjoghlaa
namespace Go.Proofs.Ythdhchhpjoghlaa
theorem held_more {P : Program} {md : Region.Mode} {ops : Array Oper} {Q : Exit → Act → World → Prop} {S S' : World → Prop} (h : ∀ w, S' w → S w) :
  ∀ (fuel : Nat) (listed : Array Bool) (a : Act) (w : World), wpAnyH P md ops Q S' fuel listed a w → wpAnyH P md ops Q S fuel listed a w
 | 0, _, _, _, hw => hw
 | fuel + 1, _, _, _, hw => ⟨hw.1, fun i hi => wpOp_mono (fun _ _ hq => ⟨h _ hq.1, held_more h fuel _ _ _ hq.2⟩) (hw.2 i hi)⟩
end Go.Proofs.Ythdhchhpjoghlaa
namespace Go.Proofs.Ythdhchhpjoghlaa
theorem tkH {P : Program} {ops : Array Oper} {Q : Exit → Act → World → Prop} {md : Region.Mode} {S : World → Prop} (i : Nat) {oi : Oper} {v : Value} {fuel : Nat} {listed : Array Bool} {a a' : Act} {w : World} (hS : S w) (h : wpAnyH P md ops Q S fuel (listed.setIfInBounds i true) a' w)
 (hi : ops[i]? = some oi := by (simp only [layG]; rfl)) (h1 : Region.noSelect ops = true := by kernel_rfl) (h2 : Region.free md ops listed i = true := by kernel_rfl) (h3 : (Region.ready md ops listed).contains i = true := by kernel_rfl)
 (hw : Region.wanted oi (yielded ops a.tmps) = true := by rfl) (hy : ∀ w, S w → (execOp a.eval oi).run P w = .ok (.value v) w := by (intro w hSw; (go_simp <;> with_reducible rfl)))
 (ha : a.put oi.dst v = a' := by (first | (simp only [Act.put, layS]; rfl) | rfl)) (hQ : ∀ c a w, Q (.panic c) (a.put oi.dst v) w → Q (.panic c) a w := by exact fun _ _ _ h => h) : wpAnyH P md ops Q S (fuel + 1) listed a w := by
 subst ha; exact wpAnyH_take hi h1 h2 h3 hQ (Or.inl ⟨hw, hy⟩) hS h
theorem tkHo {P : Program} {ops : Array Oper} {Q : Exit → Act → World → Prop} {md : Region.Mode} {S : World → Prop} (i : Nat) {oi : Oper} {fuel : Nat} {listed : Array Bool} {a a' : Act} {w : World} (hS : S w) (h : wpAnyH P md ops Q S fuel (listed.setIfInBounds i true) a' w)
 (hi : ops[i]? = some oi := by (simp only [layG]; rfl)) (h1 : Region.noSelect ops = true := by kernel_rfl) (h2 : Region.free md ops listed i = true := by kernel_rfl) (h3 : (Region.ready md ops listed).contains i = true := by kernel_rfl)
 (hw : Region.wanted oi (yielded ops a.tmps) = false := by rfl) (ha : a.put oi.dst undef = a' := by (first | (simp only [Act.put, layS]; rfl) | rfl)) (hQ : ∀ c a w, Q (.panic c) (a.put oi.dst undef) w → Q (.panic c) a w := by exact fun _ _ _ h => h) : wpAnyH P md ops Q S (fuel + 1) listed a w := by
 subst ha; exact wpAnyH_take hi h1 h2 h3 hQ (Or.inr ⟨hw, rfl⟩) hS h
end Go.Proofs.Ythdhchhpjoghlaa
namespace Go.Proofs.Ythdhchhpjoghlaa
open Go.RowKit
theorem Try.cellsSt : (Try.prog.info? 39).map (fun i => (i.zero, i.size, i.bytes)) = some (some (.agg #[.string ⟨#[]⟩, .string ⟨#[]⟩]), 2, 32) := by kernel_rfl
theorem szeroN : (Value.agg #[.string ⟨#[]⟩, .string ⟨#[]⟩]).cells.size = 2 := rfl
def stC : List Stp → List Value
 | [] => []
 | s :: l => .string (txt s.1) :: .string (txt s.2) :: stC l
theorem stC_len : ∀ l : List Stp, (stC l).length = l.length * 2
 | [] => rfl
 | s :: l => by simp only [stC, List.length_cons, stC_len l]; omega
theorem stC_one : ∀ (l : List Stp) (u : Value), u ∈ stC l → u.oneCell' = true
 | [], u, h => by cases h
 | s :: l, u, h => by
  simp only [stC, List.mem_cons] at h
  rcases h with rfl | rfl | h
  ·rfl
  ·rfl
  ·exact stC_one l u h
theorem stC_at : ∀ (l : List Stp) (j : Nat) (s : Stp), l[j]? = some s → (stC l)[j * 2]? = some (.string (txt s.1)) ∧ (stC l)[j * 2 + 1]? = some (.string (txt s.2))
 | [], j, s, h => by simp at h
 | t :: l, 0, s, h => by simp at h; subst h; exact ⟨rfl, rfl⟩
 | t :: l, j + 1, s, h => by
  have h1 := stC_at l j s (by simpa using h)
  rw [show (j + 1) * 2 = j * 2 + 1 + 1 by omega]
  simpa [stC] using h1
def OwnS (base : Nat) (w : World) (v : Value) (l : List Stp) : Prop := OwnK 39 2 w base v l.length (stC l)
section
variable {w w' : World} {base : Nat} {v : Value} {l : List Stp}
theorem OwnS.nil (w : World) (base : Nat) : OwnS base w (.slice none 0 0) [] := OwnK.nil _ _ _ _
theorem OwnS.below (h : OwnS base w v l) (hb : Below w.heap.size w w') : OwnS base w' v l := OwnK.below h hb
theorem OwnS.mono {b : Nat} (h : OwnS base w v l) (hb : b ≤ base) : OwnS b w v l := OwnK.mono h hb
theorem OwnS.lt (h : OwnS base w v l) : ∀ b, v.ownBlock = some b → base ≤ b ∧ b < w.heap.size := OwnK.lt h
theorem OwnS.shape (h : OwnS base w v l) : ∃ A c, v = .slice A l.length c := OwnK.shape h
theorem OwnS.way (h : OwnS base w v l) : WayV w.heap.size w v l := by
 obtain ⟨d, ⟨h0, A, c, rfl, h1, h2⟩, _⟩ := OwnK.row h
 refine ⟨A, c, rfl, h1, fun hp => ?_⟩
 obtain ⟨hlt, off, rfl, hc⟩ := h2 hp
 refine ⟨d, off, rfl, hlt, fun j s hs => ?_⟩
 obtain ⟨g1, g2⟩ := stC_at l j s hs
 exact ⟨hc _ _ g1, by have := hc _ _ g2; rwa [← Nat.add_assoc] at this⟩
end
theorem OwnS.one {w : World} (s : Stp) {base : Nat} (hb : base ≤ w.heap.size) : OwnS base (w.alloc (.cells #[.string (txt s.1), .string (txt s.2)] 39)) (.slice (some ⟨w.heap.size, 0, none⟩) 1 1) [s] :=
 ⟨rfl, .inr ⟨w.heap.size, 1, #[.string (txt s.1), .string (txt s.2)], rfl, hb, Blk.new w _ _, Nat.le_refl _, by unfold maxLen; omega, rfl, rfl⟩⟩
theorem OwnS.two {w : World} (s t : Stp) {base : Nat} (hb : base ≤ w.heap.size) : OwnS base (w.alloc (.cells #[.string (txt s.1), .string (txt s.2), .string (txt t.1), .string (txt t.2)] 39)) (.slice (some ⟨w.heap.size, 0, none⟩) 2 2) [s, t] :=
 ⟨rfl, .inr ⟨w.heap.size, 2, #[.string (txt s.1), .string (txt s.2), .string (txt t.1), .string (txt t.2)], rfl, hb, Blk.new w _ _, Nat.le_refl _, by unfold maxLen; omega, rfl, rfl⟩⟩
theorem app_none9 (w : World) (A : Option Addr) (c : Nat) : (Builtin.append_ #[33, 33] 33 #[.slice none 0 0, .slice A 0 c]).run Try.prog w = .ok (.slice none 0 0) w := by
 obtain ⟨i, hi, hz0, hz1, hz2⟩ := info_parts Try.cellsSt
 cases A with
 | none => simp [Builtin.append_, run_underlying Try.underlying33, sizeOf, typeInfo, hi, storeCells, Builtin.lenOf, Builtin.firstCells]
 | some ad =>
  have h := run_firstCells_some (P := Try.prog) w i.size 0 ad 0 c [] (by simp) (by simp)
  simp [Builtin.append_, run_underlying Try.underlying33, sizeOf, typeInfo, hi, storeCells, Builtin.lenOf, h]
theorem WayV.cells {b : Nat} {w : World} {A : Option Addr} {c : Nat} {l : List Stp} (h : WayV b w (.slice A l.length c) l) (h0 : 0 < l.length) : ∃ ad : Addr, A = some ad ∧ ∀ j u, (stC l)[j]? = some u → w.cell? (ad.add j) = some u := by
 obtain ⟨A', c', e, h1, h2⟩ := h
 injection e with e1 e2 e3
 subst e1 e3
 obtain ⟨g, o, rfl, hg, hc⟩ := h2 h0
 refine ⟨_, rfl, fun j u hu => ?_⟩
 have e1 : (⟨g, o, none⟩ : Addr).add j = ⟨g, o + j, none⟩ := by unfold Addr.add; split <;> simp_all
 rw [e1]
 have hj : j < (stC l).length := (List.getElem?_eq_some_iff.1 hu).1
 rw [stC_len] at hj
 obtain ⟨s, hs⟩ : ∃ s, l[j / 2]? = some s := ⟨_, List.getElem?_eq_getElem (by omega)⟩
 obtain ⟨g1, g2⟩ := stC_at l (j / 2) s hs
 obtain ⟨k1, k2⟩ := hc _ _ hs
 rcases Nat.mod_two_eq_zero_or_one j with h | h
 ·have hj2 : j / 2 * 2 = j := by omega
  rw [hj2] at g1 k1
  rw [hu] at g1
  rw [k1, g1]
 ·have hj2 : j / 2 * 2 + 1 = j := by omega
  rw [hj2] at g2
  rw [hu] at g2
  rw [show o + j = o + j / 2 * 2 + 1 by omega, k2, g2]
theorem app_way (w : World) (v : Value) (l : List Stp) (hv : WayV w.heap.size w v l) (hl : l.length ≤ 1000000) :
  ∃ v' w', (Builtin.append_ #[33, 33] 33 #[.slice none 0 0, v]).run Try.prog w = .ok v' w' ∧ OwnS w.heap.size w' v' l ∧ Below w.heap.size w w' := by
 obtain ⟨A, c, rfl⟩ := hv.shape
 by_cases h0 : 0 < l.length
 ·obtain ⟨ad, rfl, hc⟩ := hv.cells h0
  obtain ⟨i, hi, hz0, hz1, hz2⟩ := info_parts Try.cellsSt
  obtain ⟨v', w', hr, h2, h3, -, h5⟩ := run_append_own_at (P := Try.prog) w w.heap.size 33 33 39 i (.agg #[.string ⟨#[]⟩, .string ⟨#[]⟩]) 2 32 Try.underlying33 hi hz0 hz1 hz2 szeroN (by omega) (.slice none 0 0) 0 [] (OwnK.nil _ _ _ _) ad l.length c (stC l) (stC_len l) hc (stC_one l) (by unfold maxLen; omega) (by omega) (Nat.le_refl _)
  rw [Nat.zero_add] at h2
  exact ⟨v', w', hr, h2, ⟨h3.os, h3.tape, h3.output, h3.size, fun k hk => h3.block k hk (by simp [Value.ownBlock])⟩⟩
 ·have e : l = [] := List.eq_nil_of_length_eq_zero (by omega)
  subst e
  exact ⟨_, w, app_none9 w A c, OwnS.nil _ _, Below.refl _ _⟩
theorem stC_app (l m : List Stp) : stC (l ++ m) = stC l ++ stC m := by
 induction l with
 | nil => rfl
 | cons s l ih => simp [stC, ih]
end Go.Proofs.Ythdhchhpjoghlaa
namespace Go.Proofs.Ythdhchhpjoghlaa
open Go.RowKit
theorem Try.cellsEd : (Try.prog.info? 42).map (fun i => (i.zero, i.size, i.bytes)) = some (some (.agg #[.int .i64 0, .slice none 0 0, .string ⟨#[]⟩, .string ⟨#[]⟩, .int .i64 0, .int .u64 0, .string ⟨#[]⟩, .slice none 0 0, .string ⟨#[]⟩, .string ⟨#[]⟩, .int .i64 0, .int .u64 0, .string ⟨#[]⟩, .slice none 0 0]), 14, 208) := by kernel_rfl
theorem ezeroN : (Value.agg #[.int .i64 0, .slice none 0 0, .string ⟨#[]⟩, .string ⟨#[]⟩, .int .i64 0, .int .u64 0, .string ⟨#[]⟩, .slice none 0 0, .string ⟨#[]⟩, .string ⟨#[]⟩, .int .i64 0, .int .u64 0, .string ⟨#[]⟩, .slice none 0 0]).cells.size = 14 := rfl
def WayS (S : Nat → Prop) (w : World) (v : Value) (l : List Stp) : Prop := ∃ A c, v = .slice A l.length c ∧ l.length ≤ c ∧ (0 < l.length → ∃ g o, A = some ⟨g, o, none⟩ ∧ S g ∧
 ∀ j s, l[j]? = some s → w.cell? ⟨g, o + j * 2, none⟩ = some (.string (txt s.1)) ∧ w.cell? ⟨g, o + j * 2 + 1, none⟩ = some (.string (txt s.2)))
theorem WayS.keep {S S' : Nat → Prop} {w w' : World} {v : Value} {l : List Stp} (h : WayS S w v l) (hk : ∀ g, S g → w'.heap[g]? = w.heap[g]?) (hS : ∀ g, S g → S' g) : WayS S' w' v l := by
 obtain ⟨A, c, rfl, h1, h2⟩ := h
 refine ⟨A, c, rfl, h1, fun h0 => ?_⟩
 obtain ⟨g, o, rfl, h3, h4⟩ := h2 h0
 exact ⟨g, o, rfl, hS g h3, fun j s hs => ⟨(World.cell?_of_block (w := w) (a := ⟨g, o + j * 2, none⟩) (hk g h3)).trans (h4 j s hs).1, (World.cell?_of_block (w := w) (a := ⟨g, o + j * 2 + 1, none⟩) (hk g h3)).trans (h4 j s hs).2⟩⟩
theorem WayS.v {b : Nat} {w : World} {v : Value} {l : List Stp} (h : WayS (fun g => g < b) w v l) : WayV b w v l := h
theorem WayV.s {b : Nat} {w : World} {v : Value} {l : List Stp} (h : WayV b w v l) : WayS (fun g => g < b) w v l := h
theorem WayS.shape {S : Nat → Prop} {w : World} {v : Value} {l : List Stp} (h : WayS S w v l) : ∃ A c, v = .slice A l.length c := by
 obtain ⟨A, c, e, _⟩ := h; exact ⟨A, c, e⟩
theorem WayS.nil (S : Nat → Prop) (w : World) : WayS S w (.slice none 0 0) [] := ⟨none, 0, rfl, Nat.le_refl _, fun h => absurd h (by simp)⟩
abbrev RowS (S : Nat → Prop) (w : World) (v : Value) (f : NdF) : Prop := FrV NdT 6 5 w S noB v f
theorem RowS.keep {S S' : Nat → Prop} {w w' : World} {v : Value} {f : NdF} (h : RowS S w v f) (hk : ∀ g, S g → w'.heap[g]? = w.heap[g]?) (hS : ∀ g, S g → S' g) : RowS S' w' v f :=
 FrV.kept stay_nd h hk hS (fun _ h => h.elim) (fun _ h => h)
abbrev edC (k : Int) (wv : Value) (n : NdD) (nv : Value) (o : NdD) (ov : Value) : List Value := [.int .i64 k, wv, .string (txt n.name), .string (txt n.key), .int .i64 n.kind, .int .u64 (n.num : Int), .string (txt n.text), nv, .string (txt o.name), .string (txt o.key), .int .i64 o.kind, .int .u64 (o.num : Int), .string (txt o.text), ov]
def EdS (S : Nat → Prop) (w : World) (cs : List Value) (e : EdD) : Prop := ∃ wv nv ov, cs = edC e.kind wv e.node.1 nv e.old.1 ov ∧ WayS S w wv e.way ∧ RowS S w nv e.node.2 ∧ RowS S w ov e.old.2
theorem EdS.keep {S S' : Nat → Prop} {w w' : World} {cs : List Value} {e : EdD} (h : EdS S w cs e) (hk : ∀ g, S g → w'.heap[g]? = w.heap[g]?) (hS : ∀ g, S g → S' g) : EdS S' w' cs e := by
 obtain ⟨wv, nv, ov, rfl, h1, h2, h3⟩ := h
 exact ⟨wv, nv, ov, rfl, h1.keep hk hS, RowS.keep h2 hk hS, RowS.keep h3 hk hS⟩
theorem EdS.len {S : Nat → Prop} {w : World} {cs : List Value} {e : EdD} (h : EdS S w cs e) : cs.length = 14 := by
 obtain ⟨_, _, _, rfl, _⟩ := h; rfl
theorem EdS.one {S : Nat → Prop} {w : World} {cs : List Value} {e : EdD} (h : EdS S w cs e) : ∀ u ∈ cs, u.oneCell' = true := by
 obtain ⟨wv, nv, ov, rfl, h1, h2, h3⟩ := h
 obtain ⟨_, _, rfl⟩ := h1.shape
 obtain ⟨_, _, rfl⟩ := h2.shape
 obtain ⟨_, _, rfl⟩ := h3.shape
 intro u hu
 simp only [List.mem_cons, List.not_mem_nil, or_false] at hu
 rcases hu with rfl | rfl | rfl | rfl | rfl | rfl | rfl | rfl | rfl | rfl | rfl | rfl | rfl | rfl <;> rfl
theorem EdS.shape {S : Nat → Prop} {w : World} {cs : List Value} {e : EdD} (h : EdS S w cs e) : ∃ Aw cw An cn Ao co, cs = edC e.kind (.slice Aw e.way.length cw) e.node.1 (.slice An e.node.2.len cn) e.old.1 (.slice Ao e.old.2.len co) ∧ WayS S w (.slice Aw e.way.length cw) e.way ∧ RowS S w (.slice An e.node.2.len cn) e.node.2 ∧ RowS S w (.slice Ao e.old.2.len co) e.old.2 := by
 obtain ⟨wv, nv, ov, rfl, h1, h2, h3⟩ := h
 obtain ⟨Aw, cw, rfl⟩ := h1.shape
 obtain ⟨An, cn, rfl⟩ := h2.shape
 obtain ⟨Ao, co, rfl⟩ := h3.shape
 exact ⟨_, _, _, _, _, _, rfl, h1, h2, h3⟩
def rowE (S : Nat → Prop) (w : World) : List Value → List EdD → Prop
 | xs, [] => xs = []
 | xs, e :: l => ∃ cs ys, xs = cs ++ ys ∧ EdS S w cs e ∧ rowE S w ys l
theorem rowE.keep {S S' : Nat → Prop} {w w' : World} : ∀ {l : List EdD} {xs : List Value}, rowE S w xs l → (∀ g, S g → w'.heap[g]? = w.heap[g]?) → (∀ g, S g → S' g) → rowE S' w' xs l := by
 intro l
 induction l with
 | nil => intro xs h _ _; exact h
 | cons e l ih => intro xs ⟨cs, ys, h1, h2, h3⟩ hk hS; exact ⟨cs, ys, h1, h2.keep hk hS, ih h3 hk hS⟩
theorem rowE.len {S : Nat → Prop} {w : World} : ∀ {l : List EdD} {xs : List Value}, rowE S w xs l → xs.length = l.length * 14 := by
 intro l
 induction l with
 | nil => intro xs h; rw [show xs = [] from h]; rfl
 | cons e l ih => intro xs ⟨cs, ys, h1, h2, h3⟩; rw [h1, List.length_append, h2.len, ih h3, List.length_cons]; omega
theorem rowE.one {S : Nat → Prop} {w : World} : ∀ {l : List EdD} {xs : List Value}, rowE S w xs l → ∀ u ∈ xs, u.oneCell' = true := by
 intro l
 induction l with
 | nil => intro xs h u hu; rw [show xs = [] from h] at hu; cases hu
 | cons e l ih =>
  intro xs ⟨cs, ys, h1, h2, h3⟩ u hu
  rw [h1] at hu
  rcases List.mem_append.1 hu with hu | hu
  ·exact h2.one u hu
  ·exact ih h3 u hu
theorem rowE.app {S : Nat → Prop} {w : World} {m : List EdD} {ys : List Value} (h2 : rowE S w ys m) : ∀ {l : List EdD} {xs : List Value}, rowE S w xs l → rowE S w (xs ++ ys) (l ++ m) := by
 intro l
 induction l with
 | nil => intro xs h; rw [show xs = [] from h]; exact h2
 | cons e l ih => intro xs ⟨cs, zs, h1, h3, h4⟩; exact ⟨cs, zs ++ ys, by rw [h1, List.append_assoc], h3, ih h4⟩
theorem rowE.one_ {S : Nat → Prop} {w : World} {cs : List Value} {e : EdD} (h : EdS S w cs e) : rowE S w cs [e] := ⟨cs, [], by simp, h, rfl⟩
theorem rowE.at {S : Nat → Prop} {w : World} : ∀ {l : List EdD} {xs : List Value} {j : Nat} {e : EdD}, rowE S w xs l → l[j]? = some e → ∃ cs, EdS S w cs e ∧ ∀ i u, cs[i]? = some u → xs[j * 14 + i]? = some u := by
 intro l
 induction l with
 | nil => intro xs j e _ h; simp at h
 | cons d l ih =>
  intro xs j e ⟨cs, ys, h1, h2, h3⟩ h
  subst h1
  cases j with
  | zero =>
   simp at h
   subst h
   refine ⟨cs, h2, fun i u hu => ?_⟩
   rw [Nat.zero_mul, Nat.zero_add, List.getElem?_append_left (List.getElem?_eq_some_iff.1 hu).1]
   exact hu
  | succ j =>
   obtain ⟨zs, g1, g2⟩ := ih h3 (by simpa using h)
   refine ⟨zs, g1, fun i u hu => ?_⟩
   rw [List.getElem?_append_right (by rw [h2.len]; omega), h2.len, show (j + 1) * 14 + i - 14 = j * 14 + i by omega]
   exact g2 i u hu
def EdsV (S : Nat → Prop) (w : World) (v : Value) (l : List EdD) : Prop := ∃ A c, v = .slice A l.length c ∧ l.length ≤ c ∧ (0 < l.length → ∃ g o xs, A = some ⟨g, o, none⟩ ∧ S g ∧ rowE S w xs l ∧ ∀ j u, xs[j]? = some u → w.cell? ⟨g, o + j, none⟩ = some u)
theorem EdsV.keep {S S' : Nat → Prop} {w w' : World} {v : Value} {l : List EdD} (h : EdsV S w v l) (hk : ∀ g, S g → w'.heap[g]? = w.heap[g]?) (hS : ∀ g, S g → S' g) : EdsV S' w' v l := by
 obtain ⟨A, c, rfl, h1, h2⟩ := h
 refine ⟨A, c, rfl, h1, fun h0 => ?_⟩
 obtain ⟨g, o, xs, rfl, h3, h4, h5⟩ := h2 h0
 exact ⟨g, o, xs, rfl, hS g h3, h4.keep hk hS, fun j u hu => (World.cell?_of_block (w := w) (a := ⟨g, o + j, none⟩) (hk g h3)).trans (h5 j u hu)⟩
theorem EdsV.shape {S : Nat → Prop} {w : World} {v : Value} {l : List EdD} (h : EdsV S w v l) : ∃ A c, v = .slice A l.length c := by
 obtain ⟨A, c, e, _⟩ := h; exact ⟨A, c, e⟩
theorem EdsV.nil (S : Nat → Prop) (w : World) : EdsV S w (.slice none 0 0) [] := ⟨none, 0, rfl, Nat.le_refl _, fun h => absurd h (by simp)⟩
theorem EdsV.at {S : Nat → Prop} {w : World} {A : Option Addr} {n c : Nat} {l : List EdD} (h : EdsV S w (.slice A n c) l) {j : Nat} {e : EdD} (hj : l[j]? = some e) :
  ∃ g o Aw cw An cn Ao co, A = some ⟨g, o, none⟩ ∧ n = l.length ∧ n ≤ c ∧ S g ∧ WayS S w (.slice Aw e.way.length cw) e.way ∧ RowS S w (.slice An e.node.2.len cn) e.node.2 ∧ RowS S w (.slice Ao e.old.2.len co) e.old.2 ∧
   ∀ i u, (edC e.kind (.slice Aw e.way.length cw) e.node.1 (.slice An e.node.2.len cn) e.old.1 (.slice Ao e.old.2.len co))[i]? = some u → w.cell? ⟨g, o + j * 14 + i, none⟩ = some u := by
 obtain ⟨A', c', e', h1, h2⟩ := h
 injection e' with e1 e2 e3
 subst e1 e2 e3
 have hlt := (List.getElem?_eq_some_iff.1 hj).1
 obtain ⟨g, o, xs, rfl, h3, h4, h5⟩ := h2 (by omega)
 obtain ⟨cs, k1, k2⟩ := h4.at hj
 obtain ⟨Aw, cw, An, cn, Ao, co, rfl, k3, k4, k5⟩ := k1.shape
 refine ⟨g, o, Aw, cw, An, cn, Ao, co, rfl, rfl, h1, h3, k3, k4, k5, fun i u hu => ?_⟩
 rw [Nat.add_assoc]
 exact h5 _ _ (k2 i u hu)
def OwnE (base : Nat) (S : Nat → Prop) (w : World) (v : Value) (l : List EdD) : Prop := (∀ g, S g → g < w.heap.size ∧ some g ≠ v.ownBlock) ∧ ∃ xs, OwnK 42 14 w base v l.length xs ∧ rowE S w xs l
section
variable {base : Nat} {S S' : Nat → Prop} {w w' : World} {v v' : Value} {l m : List EdD}
theorem OwnE.nil (w : World) (base : Nat) (hS : ∀ g, S g → g < w.heap.size) : OwnE base S w (.slice none 0 0) [] := ⟨fun g h => ⟨hS g h, by intro h; cases h⟩, [], OwnK.nil _ _ _ _, rfl⟩
theorem OwnE.below (h : OwnE base S w v l) (hb : Below w.heap.size w w') : OwnE base S w' v l := by
 obtain ⟨hS, xs, h1, h2⟩ := h
 exact ⟨fun g hg => ⟨Nat.lt_of_lt_of_le (hS g hg).1 hb.size, (hS g hg).2⟩, xs, h1.below hb, h2.keep (fun g hg => hb.block g (hS g hg).1) (fun _ h => h)⟩
theorem OwnE.widen (h : OwnE base S w v l) (hS : ∀ g, S g → S' g) (hS2 : ∀ g, S' g → g < w.heap.size ∧ some g ≠ v.ownBlock) : OwnE base S' w v l := by
 obtain ⟨_, xs, h1, h2⟩ := h
 exact ⟨hS2, xs, h1, h2.keep (fun _ _ => rfl) hS⟩
theorem OwnE.lt (h : OwnE base S w v l) : ∀ k, v.ownBlock = some k → base ≤ k ∧ k < w.heap.size := by
 obtain ⟨_, xs, h1, _⟩ := h
 exact h1.lt
theorem OwnE.shape (h : OwnE base S w v l) : ∃ A c, v = .slice A l.length c := by
 obtain ⟨_, xs, h1, _⟩ := h
 exact h1.shape
theorem OwnE.eds (h : OwnE base S w v l) : EdsV (fun g => S g ∨ v.ownBlock = some g) w v l := by
 obtain ⟨hS, xs, h1, h2⟩ := h
 have h2' : rowE (fun g => S g ∨ v.ownBlock = some g) w xs l := h2.keep (fun _ _ => rfl) (fun g hg => .inl hg)
 have hh := h1
 rcases h1.2 with ⟨rfl, h0⟩ | ⟨g, cap, cur, rfl, hb, hg, hnc, hcm, hcs, ht⟩
 ·exact ⟨none, 0, by rw [h0], by omega, fun h => absurd h (by omega)⟩
 ·refine ⟨_, cap, rfl, hnc, fun h0 => ⟨g, 0, xs, rfl, .inr rfl, h2', fun j u hj => ?_⟩⟩
  have hjl : j < xs.length := (List.getElem?_eq_some_iff.1 hj).1
  have hxl : xs.length = l.length * 14 := h1.1
  rw [World.ownsRow.cellAt hh (0 + j) (by omega), Nat.zero_add, hj]
theorem OwnE.app {xs ys : List Value} (hown : OwnE base S w v l) (hxr : rowE S w xs l) (h1 : OwnK 42 14 w' base v' (l ++ m).length (xs ++ ys)) (h2 : w.grownBy w' v.ownBlock) (h3 : v'.ownBlock = v.ownBlock ∨ v'.ownBlock = some w.heap.size) (hy : rowE S w ys m) : OwnE base S w' v' (l ++ m) := by
 obtain ⟨hS, _⟩ := hown
 have sep : ∀ k, k < w.heap.size → some k ≠ v.ownBlock → some k ≠ v'.ownBlock := by
  intro k hk hne
  rcases h3 with h | h
  ·rw [h]; exact hne
  ·rw [h]; intro h'; injection h' with h'; omega
 exact ⟨fun k hk => ⟨Nat.lt_of_lt_of_le (hS k hk).1 h2.size, sep k (hS k hk).1 (hS k hk).2⟩, xs ++ ys, h1, (rowE.app hy hxr).keep (fun k hk => h2.block k (hS k hk).1 (hS k hk).2) (fun _ h => h)⟩
end
def AppE (base : Nat) (S : Nat → Prop) (w : World) (v : Value) (l : List EdD) (v' : Value) (w' : World) : Prop := OwnE base S w' v' l ∧ w.grownBy w' v.ownBlock ∧ ∃ A c, v' = .slice A l.length c
theorem AppE.below {base : Nat} {S : Nat → Prop} {w w' : World} {v v' : Value} {l m : List EdD} (h : AppE base S w v m v' w') (hown : OwnE base S w v l) (hb : base ≤ w.heap.size) : Below base w w' :=
 ⟨h.2.1.os, h.2.1.tape, h.2.1.output, h.2.1.size, fun i hi => h.2.1.block i (Nat.lt_of_lt_of_le hi hb) (fun e => by have := (hown.lt i e.symm).1; omega)⟩
theorem wp_append_e {w : World} {o : Oper} {a : Act} {K : Act → World → Prop} {Q : Exit → Act → World → Prop} (s x : Operand) (ho : o.op = .call { callee := .builtin .append, args := #[s, x], argTypes := #[31, 31] }) (hty : o.type = 31)
  {base : Nat} {S : Nat → Prop} {v : Value} {l : List EdD} (hs : a.eval s = v) (hown : OwnE base S w v l) {g : Nat} (hx : a.eval x = .slice (some ⟨g, 0, none⟩) 1 1) {ys : List Value} {e : EdD} (hblk : Blk w g 42 ys.toArray) (hy : EdS S w ys e)
  (hlen : l.length ≤ 100000000) (hbase : base ≤ w.heap.size) (hK : ∀ v' w', AppE base S w v (l ++ [e]) v' w' → K (a.put o.dst v') w') : o.wp Try.prog a w K Q := by
 have hown' := hown
 obtain ⟨hS, xs, h1, h2⟩ := hown'
 refine wp_append_k (P := Try.prog) Try.underlying31 Try.cellsEd ezeroN (by omega) s x ho hty base v l.length xs hs h1 g hx ys hblk hy.len hy.one (by omega) (by omega) hbase fun v' w' hap => ?_
 have hw : OwnE base S w' v' (l ++ [e]) := hown.app h2 (by rw [List.length_append]; exact hap.1) hap.2.1 hap.2.2.1 (rowE.one_ hy)
 exact hK v' w' ⟨hw, hap.2.1, hw.shape⟩
theorem run_none_own {P : Program} {w : World} (base : Nat) (t ty e : TypeId) (i : TypeInfo) (size : Nat) (ht : P.underlying t = some (.slice e)) (hi : P.info? e = some i)
  (v : Value) (n : Nat) (xs : List Value) (hown : w.ownsRow base e size v n xs) (c : Nat) : (Builtin.append_ #[t, t] ty #[v, .slice none 0 c]).run P w = .ok v w := by
 rcases hown.2 with ⟨rfl, rfl⟩ | ⟨g, cap, cur, rfl, _, _, hnc, _⟩
 ·simp [Builtin.append_, run_underlying ht, sizeOf, typeInfo, hi, Builtin.lenOf, Builtin.firstCells]
 ·simp [Builtin.append_, run_underlying ht, sizeOf, typeInfo, hi, Builtin.lenOf, Builtin.firstCells, hnc, storeCells]
theorem run_append_es {w : World} {base : Nat} {S : Nat → Prop} {v x : Value} {l m : List EdD} (hown : OwnE base S w v l) (hx : EdsV S w x m) (hlen : l.length + m.length ≤ 100000000) (hbase : base ≤ w.heap.size) :
  ∃ v' w', (Builtin.append_ #[31, 31] 31 #[v, x]).run Try.prog w = .ok v' w' ∧ AppE base S w v (l ++ m) v' w' := by
 have hown' := hown
 obtain ⟨hS, xs, h1, h2⟩ := hown'
 obtain ⟨A, c, rfl, g1, g2⟩ := hx
 obtain ⟨i, hi, hz0, hz1, hz2⟩ := info_parts Try.cellsEd
 by_cases h0 : 0 < m.length
 ·obtain ⟨g, o, ys, rfl, h3, h4, h5⟩ := g2 h0
  obtain ⟨v', w', hr, k1, k2, -, k3⟩ := run_append_own_at (P := Try.prog) (w := w) base 31 31 42 i _ 14 208 Try.underlying31 hi hz0 hz1 hz2 ezeroN (by omega) v l.length xs h1 ⟨g, o, none⟩ m.length c ys h4.len
   (fun j u hj => by
    have e1 : (⟨g, o, none⟩ : Addr).add j = ⟨g, o + j, none⟩ := by unfold Addr.add; split <;> simp_all
    rw [e1]; exact h5 j u hj) h4.one (by unfold maxLen; omega) (by omega) hbase
  have hw : OwnE base S w' v' (l ++ m) := hown.app h2 (by rw [List.length_append]; exact k1) k2 k3 h4
  exact ⟨v', w', hr, hw, k2, hw.shape⟩
 ·have e : m = [] := List.eq_nil_of_length_eq_zero (by omega)
  subst e
  rw [List.append_nil]
  have hr : (Builtin.append_ #[31, 31] 31 #[v, .slice A 0 c]).run Try.prog w = .ok v w ∨ ∃ v' w', (Builtin.append_ #[31, 31] 31 #[v, .slice A 0 c]).run Try.prog w = .ok v' w' ∧ AppE base S w v l v' w' := by
   cases A with
   | none => exact .inl (run_none_own base 31 31 42 i 14 Try.underlying31 hi v l.length xs h1 c)
   | some ad =>
    obtain ⟨v', w', hr, k1, k2, -, k3⟩ := run_append_own_at (P := Try.prog) (w := w) base 31 31 42 i _ 14 208 Try.underlying31 hi hz0 hz1 hz2 ezeroN (by omega) v l.length xs h1 ad 0 c [] rfl (fun j u hj => by simp at hj) (by simp) (by unfold maxLen; omega) (by omega) hbase
    have hw : OwnE base S w' v' (l ++ []) := hown.app h2 (by rw [List.append_nil]; rw [List.append_nil] at k1 ⊢; exact k1) k2 k3 (show rowE S w [] [] from rfl)
    rw [List.append_nil] at hw
    exact .inr ⟨v', w', hr, hw, k2, hw.shape⟩
  rcases hr with hr | hr
  ·exact ⟨v, w, hr, hown, ⟨rfl, rfl, rfl, Nat.le_refl _, fun _ _ _ => rfl⟩, hown.shape⟩
  ·exact hr
theorem wpList_append_e {w : World} {ops : Array Oper} {rest : List Oper} {o : Oper} {a : Act} {Q : Exit → Act → World → Prop} (hgd : o.guard = none) (s x : Operand) (ho : o.op = .call { callee := .builtin .append, args := #[s, x], argTypes := #[31, 31] }) (hty : o.type = 31)
  {base : Nat} {S : Nat → Prop} {v : Value} {l : List EdD} (hs : a.eval s = v) (hown : OwnE base S w v l) {g : Nat} (hx : a.eval x = .slice (some ⟨g, 0, none⟩) 1 1) {ys : List Value} {e : EdD} (hblk : Blk w g 42 ys.toArray) (hy : EdS S w ys e)
  (hlen : l.length ≤ 100000000) (hbase : base ≤ w.heap.size) (hK : ∀ v' w', AppE base S w v (l ++ [e]) v' w' → wpList Try.prog ops Q rest (a.put o.dst v') w') : wpList Try.prog ops Q (o :: rest) a w :=
 wpList_plain hgd fun _ hK' => wp_append_e s x ho hty hs hown hx hblk hy hlen hbase fun v' w' hp => hK' _ _ (hK v' w' hp)
end Go.Proofs.Ythdhchhpjoghlaa
namespace Go.Proofs.Ythdhchhpjoghlaa
def smB (c : UInt8) : Bool := decide (97 ≤ c.toNat) && decide (c.toNat ≤ 122)
def nmB (c : UInt8) : Bool := smB c || (decide (48 ≤ c.toNat) && decide (c.toNat ≤ 57)) || c == 45
def identX (s : List UInt8) : Bool := match s with
 | [] => false
 | c :: r => smB c && r.all nmB && decide (r.length + 1 ≤ 12)
theorem ident_len {s : List UInt8} (h : identX s = true) : 0 < s.length ∧ s.length ≤ 12 := by
 cases s with
 | nil => cases h
 | cons c r => simp [identX] at h; simp; omega
end Go.Proofs.Ythdhchhpjoghlaa
namespace Go.Proofs.Ythdhchhpjoghlaa
open Go.RowKit
structure SpD where
 name : List UInt8
 kind : Nat
 typ : Nat
 low : Nat
 high : Nat
 names : List (List UInt8)
 must : Bool
 most : Nat
theorem SpD.ext_ {a b : SpD} (h1 : a.name = b.name) (h2 : a.kind = b.kind) (h3 : a.typ = b.typ) (h4 : a.low = b.low) (h5 : a.high = b.high) (h6 : a.names = b.names) (h7 : a.must = b.must) (h8 : a.most = b.most) : a = b := by
 cases a; cases b; simp_all
instance : DecidableEq SpD := fun a b => decidable_of_iff (a.name = b.name ∧ a.kind = b.kind ∧ a.typ = b.typ ∧ a.low = b.low ∧ a.high = b.high ∧ a.names = b.names ∧ a.must = b.must ∧ a.most = b.most)
 ⟨fun ⟨h1, h2, h3, h4, h5, h6, h7, h8⟩ => SpD.ext_ h1 h2 h3 h4 h5 h6 h7 h8, fun h => by subst h; exact ⟨rfl, rfl, rfl, rfl, rfl, rfl, rfl, rfl⟩⟩
abbrev SpF := Fr SpD
abbrev Sp := SpD × SpF
end Go.Proofs.Ythdhchhpjoghlaa
namespace Go.Proofs.Ythdhchhpjoghlaa
open Go.RowKit
def okS (s : Stp) : Bool := identX s.1 && (identX s.2 || s.2.isEmpty)
def stepT (s : Stp) : List UInt8 := 47 :: (s.1 ++ (if identX s.2 = true then 91 :: (s.2 ++ [93]) else []))
def catT : List Stp → List UInt8
 | [] => []
 | s :: l => stepT s ++ catT l
theorem catT_app (l m : List Stp) : catT (l ++ m) = catT l ++ catT m := by
 induction l with
 | nil => rfl
 | cons s l ih => simp only [List.cons_append, catT, ih, List.append_assoc]
theorem catT_nil {l : List Stp} (h : catT l = []) : l = [] := by
 cases l with
 | nil => rfl
 | cons s l => simp [catT, stepT] at h
def showX (l : List Stp) : List UInt8 := if l.all okS = true then (if l = [] then [47] else if 6 < l.length then [] else catT l) else []
theorem nm47 : nmB 47 = false := by decide
def nextX (r : List UInt8) : Prop := r = [] ∨ r.head? = some 47
theorem nextX.nm {r : List UInt8} (h : nextX r) : ∀ c, r.head? = some c → nmB c = false := by
 intro c hc
 rcases h with rfl | h
 ·cases hc
 ·rw [h] at hc; injection hc with hc; subst hc; exact nm47
def underX (way front : List Stp) : Bool := decide (way.take front.length = front)
end Go.Proofs.Ythdhchhpjoghlaa
