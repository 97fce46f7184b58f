/- ForestB TreMem ForestC TreOpen SpcNum SclNum ValNum -/
import Derived.Test.YtodlhgflfcadmaaGreatUM1
import Derived.Deep.Fields
import Derived.SliceStrings
set_option linter.unusedSimpArgs false
set_option linter.unusedVariables false
set_option maxRecDepth 100000
set_option maxHeartbeats 8000000
namespace Go.Proofs.YtodlhgflfcadmaaGreat
open Go.RowKit
section
variable {α : Type} {D : RdOf α} {e : TypeId} {K p : Nat} {w w' : World} {base : Nat} {S S' N N' : Nat → Prop} {v : Value} {f : Fr α}
theorem FrV.lit {g c : Nat} {xs : List Value} (hS : S g) (hb : Blk w g e xs.toArray) (hr : rowG D K p w S N xs f) (hc : f.len ≤ c) : FrV D K p w S N (.slice (some ⟨g, 0, none⟩) f.len c) f :=
 ⟨_, c, rfl, hc, fun _ => ⟨g, 0, rfl, hS, hr.at (fun j u hj => by
  rw [Nat.zero_add, hb.cell]
  simpa using hj)⟩⟩
theorem OwnK.lit {k n g : Nat} {xs : List Value} (hb : Blk w g e xs.toArray) (hg : base ≤ g) (hl : xs.length = n * k) (hn : n ≤ maxLen) : OwnK e k w base (.slice (some ⟨g, 0, none⟩) n n) n xs :=
 ⟨hl, .inr ⟨g, n, xs.toArray, rfl, hg, hb, Nat.le_refl _, hn, by simpa using hl, by simp [← hl]⟩⟩
theorem OwnG.lit {g : Nat} {xs : List Value} (hb : Blk w g e xs.toArray) (hg : base ≤ g) (hn : f.len ≤ maxLen) (hr : rowG D K p w S N xs f) (hS : ∀ k, S k → k < w.heap.size ∧ k ≠ g) (hN : ∀ k, N k → k < w.heap.size ∧ k ≠ g) : OwnG D e K p w base S N (.slice (some ⟨g, 0, none⟩) f.len f.len) f :=
 ⟨fun k hk => ⟨(hS k hk).1, by intro h; injection h with h; exact (hS k hk).2 h⟩, fun k hk => ⟨(hN k hk).1, by intro h; injection h with h; exact (hN k hk).2 h⟩, xs, OwnK.lit hb hg hr.len hn, hr⟩
theorem OwnG.grown (hD : StayD D) {row : Option Nat} (h : OwnG D e K p w base S N v f) (hg : w.grownBy w' row) (hne : v.ownBlock = none ∨ v.ownBlock ≠ row) (hS : ∀ g, S g → some g ≠ row) (hN : ∀ g, N g → some g ≠ row) : OwnG D e K p w' base S N v f := by
 obtain ⟨h1, h2, xs, h3, h4⟩ := h
 exact ⟨fun g hg' => ⟨Nat.lt_of_lt_of_le (h1 g hg').1 hg.size, (h1 g hg').2⟩, fun g hg' => ⟨Nat.lt_of_lt_of_le (h2 g hg').1 hg.size, (h2 g hg').2⟩, xs, h3.grown hg hne,
  h4.kept hD (fun g hg' => hg.block g (h1 g hg').1 (hS g hg')) (fun _ h => h) (fun g hg' => hg.block g (h2 g hg').1 (hN g hg')) (fun _ h => h)⟩
def AppG (D : RdOf α) (e : TypeId) (K p : Nat) (base : Nat) (S N : Nat → Prop) (w : World) (v : Value) (f : Fr α) (v' : Value) (w' : World) : Prop :=
 OwnG D e K p w' base S N v' f ∧ w.grownBy w' v.ownBlock ∧ (v'.ownBlock = v.ownBlock ∨ v'.ownBlock = some w.heap.size) ∧ ∃ g c, v' = .slice (some ⟨g, 0, none⟩) f.len c
theorem AppG.below {v' : Value} {g : Fr α} (h : AppG D e K p base S N w v g v' w') (hown : OwnG D e K p w base S N v f) (hb : base ≤ w.heap.size) : Below base w w' :=
 (Below.refl _ _).grown h.2.1 hb fun b e => (hown.lt b e).1
theorem wpList_append_g {P : Program} (hD : StayD D) (hO : OneD D) {ts : TypeId} {z : Value} {bytes : Nat} (hu : P.underlying ts = some (.slice e))
  (hinfo : (P.info? e).map (fun i => (i.zero, i.size, i.bytes)) = some (some z, K, bytes)) (hz : z.cells.size = K) (hk : 0 < K) {ops : Array Oper} {rest : List Oper} {o : Oper} {a : Act} {Q : Exit → Act → World → Prop} (hgd : o.guard = none) (s x : Operand)
  (ho : o.op = .call { callee := .builtin .append, args := #[s, x], argTypes := #[ts, ts] }) (hty : o.type = ts)
  (hs : a.eval s = v) (hown : OwnG D e K p w base S N v f) {g : Nat} (hx : a.eval x = .slice (some ⟨g, 0, none⟩) 1 1)
  {ys : List Value} {d : α} {q : Fr α} (hblk : Blk w g e ys.toArray) (hy : FrN D K p w S N ys d q)
  (hb : (f.len + 1) * bytes ≤ 140737488355328) (hlen : f.len + 1 ≤ 140737488355328) (hbase : base ≤ w.heap.size)
  (hK : ∀ v' w', AppG D e K p base S N w v (f.app (.cons d q .nil)) v' w' → wpList P ops Q rest (a.put o.dst v') w') : wpList P ops Q (o :: rest) a w := by
 obtain ⟨hS, hN, xs, h1, h2⟩ := hown
 have hown : OwnG D e K p w base S N v f := ⟨hS, hN, xs, h1, h2⟩
 refine wpList_append_k hu hinfo hz hk hgd s x ho hty base v f.len xs hs h1 g hx ys hblk hy.1 (hO _ _ _ _ hy.2.1) hb hlen hbase fun v' w' hap => hK v' w' ?_
 obtain ⟨k1, k2, k3, gg, c, k4⟩ := hap
 have hl : (f.app (.cons d q .nil)).len = f.len + 1 := by rw [Fr.len_app]; rfl
 exact ⟨hown.app hD h2 (by rw [hl]; exact k1) k2 k3 (rowG.one hy), k2, k3, gg, c, by rw [hl]; exact k4⟩
end
abbrev ndC (a : NdD) (kv : Value) : List Value := [.string (txt a.name), .string (txt a.key), .int .i64 a.kind, .int .u64 (a.num : Int), .string (txt a.text), kv]
def NdT : RdOf NdD := fun _ _ cs a => ∃ kv, cs = ndC a kv ∧ kv.oneCell' = true
def NdA : RdOf NdD := fun w N cs a => NdT w N cs a ∧ ∀ b o n c, cs[5]? = some (.slice (some ⟨b, o, none⟩) n c) → o % 6 = 0
def noB : Nat → Prop := fun _ => False
theorem stay_nd : StayD NdT := fun _ _ _ _ _ _ _ _ h => h
theorem one_nd : OneD NdT := by
 intro w N cs a ⟨kv, h1, h4⟩ u hu
 subst h1
 simp only [List.mem_cons, List.not_mem_nil, or_false] at hu
 rcases hu with rfl | rfl | rfl | rfl | rfl | rfl <;> first | rfl | exact h4
def LieB (b : Nat) (w : World) (cs : List Value) (x : Nd) : Prop := FrN NdT 6 5 w (fun g => g < b) noB cs x.1 x.2
def RowT (b : Nat) (w : World) (v : Value) (f : NdF) : Prop := FrV NdT 6 5 w (fun g => g < b) noB v f
abbrev LieN (w : World) (cs : List Value) (x : Nd) : Prop := LieB w.heap.size w cs x
theorem LieB.shape {b : Nat} {w : World} {cs : List Value} {x : Nd} (h : LieB b w cs x) : ∃ A c, cs = ndC x.1 (.slice A x.2.len c) ∧ RowT b w (.slice A x.2.len c) x.2 := by
 obtain ⟨_, ⟨kv, rfl, _⟩, v, h5, h6⟩ := h
 obtain ⟨A, c, rfl⟩ := h6.shape
 simp at h5
 subst h5
 exact ⟨A, c, rfl, h6⟩
theorem LieB.make {b : Nat} {w : World} {a : NdD} {f : NdF} {v : Value} (h : RowT b w v f) : LieB b w (ndC a v) (a, f) := by
 refine ⟨rfl, ⟨v, rfl, ?_⟩, v, rfl, h⟩
 obtain ⟨A, c, rfl⟩ := h.shape
 rfl
theorem LieB.keep {b b' : Nat} {w w' : World} {cs : List Value} {x : Nd} (h : LieB b w cs x) (hk : ∀ g, g < b → w'.heap[g]? = w.heap[g]?) (hb : b ≤ b') : LieB b' w' cs x :=
 FrN.kept stay_nd h hk (fun g hg => Nat.lt_of_lt_of_le hg hb) (fun _ h => h.elim) (fun _ h => h)
theorem RowT.keep {b b' : Nat} {w w' : World} {v : Value} {f : NdF} (h : RowT b w v f) (hk : ∀ g, g < b → w'.heap[g]? = w.heap[g]?) (hb : b ≤ b') : RowT b' w' v f :=
 FrV.kept stay_nd h hk (fun g hg => Nat.lt_of_lt_of_le hg hb) (fun _ h => h.elim) (fun _ h => h)
theorem LieB.under {b b' B : Nat} {w w' : World} {cs : List Value} {x : Nd} (h : LieB b w cs x) (hB : Below B w w') (hb : b ≤ B) (hb' : b ≤ b') : LieB b' w' cs x := h.keep (fun g hg => hB.block g (Nat.lt_of_lt_of_le hg hb)) hb'
theorem RowT.under {b b' B : Nat} {w w' : World} {v : Value} {f : NdF} (h : RowT b w v f) (hB : Below B w w') (hb : b ≤ B) (hb' : b ≤ b') : RowT b' w' v f := h.keep (fun g hg => hB.block g (Nat.lt_of_lt_of_le hg hb)) hb'
theorem LieB.below {w w' : World} {cs : List Value} {x : Nd} (h : LieN w cs x) (hb : Below w.heap.size w w') : LieN w' cs x := h.under hb (Nat.le_refl _) hb.size
theorem RowT.below {w w' : World} {v : Value} {f : NdF} (h : RowT w.heap.size w v f) (hb : Below w.heap.size w w') : RowT w'.heap.size w' v f := h.under hb (Nat.le_refl _) hb.size
theorem LieB.zero (b : Nat) (w : World) : LieB b w (ndC zeroT (.slice none 0 0)) noN := LieB.make (FrV.empty _ _ _)
theorem RowT.at {b : Nat} {w : World} {A : Option Addr} {n c : Nat} {f : NdF} (h : RowT b w (.slice A n c) f) {i : Nat} {y : Nd} (hy : f.get? i = some y) :
  ∃ g o A' c', A = some ⟨g, o, none⟩ ∧ n = f.len ∧ n ≤ c ∧ g < b ∧ RowT b w (.slice A' y.2.len c') y.2 ∧ ∀ j u, (ndC y.1 (.slice A' y.2.len c'))[j]? = some u → w.cell? ⟨g, o + i * 6 + j, none⟩ = some u := by
 obtain ⟨a, k⟩ := y
 obtain ⟨g, o, c1, cs, e, h1, h2, h3, h4⟩ := FrV.at h hy
 injection e with e1 e2 e3
 subst e1 e2 e3
 obtain ⟨A', c', rfl, h6⟩ := LieB.shape (x := (a, k)) h3
 exact ⟨g, o, A', c', rfl, rfl, h1, h2, h6, h4⟩
theorem RowT.len {b : Nat} {w : World} {A : Option Addr} {n c : Nat} {f : NdF} (h : RowT b w (.slice A n c) f) : n = f.len ∧ n ≤ c := by
 obtain ⟨A', c', e, h1, _⟩ := h
 injection e with e1 e2 e3
 subst e2 e3
 exact ⟨rfl, h1⟩
def WayV (b : Nat) (w : World) (v : Value) (l : List Stp) : Prop := ∃ A c, v = .slice A l.length c ∧ l.length ≤ c ∧ (0 < l.length → ∃ g o, A = some ⟨g, o, none⟩ ∧ g < b ∧
 ∀ j s, l[j]? = some s → w.cell? ⟨g, o + j * 2, none⟩ = some (.string (txt s.1)) ∧ w.cell? ⟨g, o + j * 2 + 1, none⟩ = some (.string (txt s.2)))
theorem WayV.keep {b b' : Nat} {w w' : World} {v : Value} {l : List Stp} (h : WayV b w v l) (hk : ∀ g, g < b → w'.heap[g]? = w.heap[g]?) (hb : b ≤ b') : WayV b' w' v l := by
 obtain ⟨A, c, rfl, h1, h2⟩ := h
 refine ⟨A, c, rfl, h1, fun h0 => ?_⟩
 obtain ⟨g, o, rfl, h3, h4⟩ := h2 h0
 refine ⟨g, o, rfl, Nat.lt_of_lt_of_le h3 hb, fun j s hs => ?_⟩
 obtain ⟨h5, h6⟩ := h4 j s hs
 exact ⟨(World.cell?_of_block (w := w) (hk g h3)).trans h5, (World.cell?_of_block (w := w) (hk g h3)).trans h6⟩
theorem WayV.under {b b' B : Nat} {w w' : World} {v : Value} {l : List Stp} (h : WayV b w v l) (hB : Below B w w') (hb : b ≤ B) (hb' : b ≤ b') : WayV b' w' v l := h.keep (fun g hg => hB.block g (Nat.lt_of_lt_of_le hg hb)) hb'
theorem WayV.below {w w' : World} {v : Value} {l : List Stp} (h : WayV w.heap.size w v l) (hb : Below w.heap.size w w') : WayV w'.heap.size w' v l := h.under hb (Nat.le_refl _) hb.size
theorem WayV.shape {b : Nat} {w : World} {v : Value} {l : List Stp} (h : WayV b w v l) : ∃ A c, v = .slice A l.length c := by
 obtain ⟨A, c, h, _⟩ := h; exact ⟨A, c, h⟩
theorem WayV.at {b : Nat} {w : World} {A : Option Addr} {n c : Nat} {l : List Stp} (h : WayV b w (.slice A n c) l) {j : Nat} {s : Stp} (hs : l[j]? = some s) :
  ∃ g o, A = some ⟨g, o, none⟩ ∧ n = l.length ∧ n ≤ c ∧ g < b ∧ w.cell? ⟨g, o + j * 2, none⟩ = some (.string (txt s.1)) ∧ w.cell? ⟨g, o + j * 2 + 1, none⟩ = some (.string (txt s.2)) := by
 have hlt := (List.getElem?_eq_some_iff.1 hs).1
 obtain ⟨A', c', e, h1, h2⟩ := h
 injection e with e1 e2 e3
 subst e1 e2 e3
 obtain ⟨g, o, rfl, h3, h4⟩ := h2 (by omega)
 obtain ⟨h5, h6⟩ := h4 j s hs
 exact ⟨g, o, rfl, rfl, h1, h3, h5, h6⟩
theorem WayV.nil (b : Nat) (w : World) (A : Option Addr) (c : Nat) : WayV b w (.slice A 0 c) [] := ⟨A, c, rfl, Nat.zero_le _, fun h => absurd h (by simp)⟩
theorem WayV.tail {b : Nat} {w : World} {g o n c : Nat} {s : Stp} {l : List Stp} (h : WayV b w (.slice (some ⟨g, o, none⟩) n c) (s :: l)) : WayV b w (.slice (some ⟨g, o + 2, none⟩) l.length (c - 1)) l := by
 obtain ⟨A', c', e, h1, h2⟩ := h
 injection e with e1 e2 e3
 subst e2 e3
 obtain ⟨g', o', e4, h3, h4⟩ := h2 (by simp)
 rw [← e1] at e4
 injection e4 with e4
 injection e4 with e5 e6 e7
 subst e5 e6
 simp only [List.length_cons] at h1
 refine ⟨_, _, rfl, by omega, fun _ => ⟨g, o + 2, rfl, h3, fun j u hu => ?_⟩⟩
 have h5 := h4 (j + 1) u (by simpa using hu)
 rw [show o + (j + 1) * 2 = o + 2 + j * 2 by omega] at h5
 exact h5
theorem WayV.front {b : Nat} {w : World} {A : Option Addr} {n c : Nat} {l : List Stp} (m : Nat) (hm : m ≤ l.length) (h : WayV b w (.slice A n c) l) : WayV b w (.slice A m c) (l.take m) := by
 obtain ⟨A', c', e, h1, h2⟩ := h
 injection e with e1 e2 e3
 subst e1 e2 e3
 have hl : (l.take m).length = m := by rw [List.length_take]; omega
 refine ⟨A, c, by rw [hl], by omega, fun h0 => ?_⟩
 obtain ⟨g, o, rfl, h3, h4⟩ := h2 (by omega)
 refine ⟨g, o, rfl, h3, fun j s hs => h4 j s ?_⟩
 rw [List.getElem?_take] at hs
 split at hs
 ·exact hs
 ·cases hs
def Fresh9 (base : Nat) (w : World) (g : Nat) : Prop := base ≤ g ∧ ∃ cs t, w.heap[g]? = some (.cells cs t (0, 0))
theorem Fresh9.lt {base : Nat} {w : World} {g : Nat} (h : Fresh9 base w g) : g < w.heap.size := by
 obtain ⟨_, cs, t, h⟩ := h
 exact (Array.getElem?_eq_some_iff.1 h).1
def NewT (base : Nat) (w : World) (cs : List Value) (x : Nd) : Prop := ∃ S, (∀ g, S g → Fresh9 base w g) ∧ FrN NdA 6 5 w S noB cs x.1 x.2
theorem FrAt.plain {w : World} {S N : Nat → Prop} : ∀ {f : NdF} {b o : Nat}, FrAt NdA 6 5 w S N f b o → FrAt NdT 6 5 w S N f b o := by
 intro f
 induction f with
 | nil => intro b o _; trivial
 | cons a k r ihk ihr =>
  intro b o ⟨⟨cs, h1, h2, h3, A, c, h4, h5, h6⟩, h7⟩
  refine ⟨⟨cs, h1, h2, h3.1, A, c, h4, h5, fun h0 => ?_⟩, ihr h7⟩
  obtain ⟨b', o', h8, h9, h10⟩ := h6 h0
  exact ⟨b', o', h8, h9, ihk h10⟩
theorem FrV.plain {w : World} {S N : Nat → Prop} {v : Value} {f : NdF} (h : FrV NdA 6 5 w S N v f) : FrV NdT 6 5 w S N v f := by
 obtain ⟨A, c, rfl, h1, h2⟩ := h
 refine ⟨A, c, rfl, h1, fun h0 => ?_⟩
 obtain ⟨b, o, h3, h4, h5⟩ := h2 h0
 exact ⟨b, o, h3, h4, h5.plain⟩
theorem NewT.lies {base : Nat} {w : World} {cs : List Value} {x : Nd} (h : NewT base w cs x) : LieN w cs x := by
 obtain ⟨S, h1, h2, h3, v, h4, h5⟩ := h
 exact FrN.mono stay_nd ⟨h2, h3.1, v, h4, h5.plain⟩ (fun g hg => (h1 g hg).lt) (fun _ h => h)
def TreP (x : Nd) (u : Value) (w : World) (r : Ending) (w' : World) : Prop := ∃ cs, r = .returned (.tuple #[.agg cs.toArray, u]) ∧ NewT w.heap.size w' cs x ∧ Below w.heap.size w w'
def TreP1 (x : Nd) (w : World) (r : Ending) (w' : World) : Prop := ∃ cs, r = .returned (.agg cs.toArray) ∧ NewT w.heap.size w' cs x ∧ Below w.heap.size w w'
def RTreP (x : Nd) (u : Value) (w : World) (r : Ending) (w' : World) : Prop := ∃ cs, r = .returned (.tuple #[.agg cs.toArray, u]) ∧ LieN w' cs x ∧ Below w.heap.size w w'
def RTreP1 (x : Nd) (w : World) (r : Ending) (w' : World) : Prop := ∃ cs, r = .returned (.agg cs.toArray) ∧ LieN w' cs x ∧ Below w.heap.size w w'
def LieP (b B : Nat) (w : World) (cs : List Value) (x : Nd) : Prop := FrN NdT 6 5 w (fun g => g < b ∨ (B ≤ g ∧ g < w.heap.size)) noB cs x.1 x.2
def RowP (b B : Nat) (w : World) (v : Value) (f : NdF) : Prop := FrV NdT 6 5 w (fun g => g < b ∨ (B ≤ g ∧ g < w.heap.size)) noB v f
theorem LieP.shape {b B : Nat} {w : World} {cs : List Value} {x : Nd} (h : LieP b B w cs x) : ∃ A c, cs = ndC x.1 (.slice A x.2.len c) ∧ RowP b B w (.slice A x.2.len c) x.2 := by
 obtain ⟨_, ⟨kv, rfl, _⟩, v, h5, h6⟩ := h
 obtain ⟨A, c, rfl⟩ := h6.shape
 simp at h5
 subst h5
 exact ⟨A, c, rfl, h6⟩
theorem LieP.make {b B : Nat} {w : World} {a : NdD} {f : NdF} {v : Value} (h : RowP b B w v f) : LieP b B w (ndC a v) (a, f) := by
 refine ⟨rfl, ⟨v, rfl, ?_⟩, v, rfl, h⟩
 obtain ⟨A, c, rfl⟩ := h.shape
 rfl
theorem LieP.keep {b B b' B' : Nat} {w w' : World} {cs : List Value} {x : Nd} (h : LieP b B w cs x) (hk : ∀ g, g < b ∨ (B ≤ g ∧ g < w.heap.size) → w'.heap[g]? = w.heap[g]?) (hS : ∀ g, g < b ∨ (B ≤ g ∧ g < w.heap.size) → g < b' ∨ (B' ≤ g ∧ g < w'.heap.size)) : LieP b' B' w' cs x :=
 FrN.kept stay_nd h hk hS (fun _ h => h.elim) (fun _ h => h)
theorem LieP.lies {b B : Nat} {w : World} {cs : List Value} {x : Nd} (h : LieP b B w cs x) (hb : b ≤ w.heap.size) : LieN w cs x :=
 FrN.mono stay_nd h (fun g hg => by rcases hg with h | h <;> omega) (fun _ h => h)
theorem LieB.p {b : Nat} {w : World} {cs : List Value} {x : Nd} (h : LieB b w cs x) (B : Nat) : LieP b B w cs x := FrN.mono stay_nd h (fun g hg => .inl hg) (fun _ h => h)
theorem RowT.p {b : Nat} {w : World} {v : Value} {f : NdF} (h : RowT b w v f) (B : Nat) : RowP b B w v f := FrV.mono stay_nd h (fun g hg => .inl hg) (fun _ h => h)
def PTreP (b : Nat) (x : Nd) (u : Value) (w : World) (r : Ending) (w' : World) : Prop := ∃ cs, r = .returned (.tuple #[.agg cs.toArray, u]) ∧ LieP b w.heap.size w' cs x ∧ Below w.heap.size w w'
def PTreP1 (b : Nat) (x : Nd) (w : World) (r : Ending) (w' : World) : Prop := ∃ cs, r = .returned (.agg cs.toArray) ∧ LieP b w.heap.size w' cs x ∧ Below w.heap.size w w'
theorem PTreP.r {x : Nd} {u : Value} {w : World} {r : Ending} {w' : World} (h : PTreP w.heap.size x u w r w') : RTreP x u w r w' := by
 obtain ⟨cs, h1, h2, h3⟩ := h; exact ⟨cs, h1, h2.lies h3.size, h3⟩
theorem PTreP1.r {x : Nd} {w : World} {r : Ending} {w' : World} (h : PTreP1 w.heap.size x w r w') : RTreP1 x w r w' := by
 obtain ⟨cs, h1, h2, h3⟩ := h; exact ⟨cs, h1, h2.lies h3.size, h3⟩
theorem PTreP.flat {b : Nat} {a : NdD} {f : NdF} {u : Value} {w : World} {r : Ending} {w' : World} (h : PTreP b (a, f) u w r w') : ∃ A c, r = .returned (.tuple #[.agg (ndC a (.slice A f.len c)).toArray, u]) ∧ LieP b w.heap.size w' (ndC a (.slice A f.len c)) (a, f) ∧ Below w.heap.size w w' := by
 obtain ⟨cs, rfl, h2, h3⟩ := h
 obtain ⟨A, c, rfl, _⟩ := h2.shape
 exact ⟨A, c, rfl, h2, h3⟩
theorem PTreP1.flat {b : Nat} {a : NdD} {f : NdF} {w : World} {r : Ending} {w' : World} (h : PTreP1 b (a, f) w r w') : ∃ A c, r = .returned (.agg (ndC a (.slice A f.len c)).toArray) ∧ LieP b w.heap.size w' (ndC a (.slice A f.len c)) (a, f) ∧ Below w.heap.size w w' := by
 obtain ⟨cs, rfl, h2, h3⟩ := h
 obtain ⟨A, c, rfl, _⟩ := h2.shape
 exact ⟨A, c, rfl, h2, h3⟩
def Ans9 (v : Value) (w : World) (r : Ending) (w' : World) : Prop := r = .returned v ∧ Below w.heap.size w w'
theorem TreP.r {x : Nd} {u : Value} {w : World} {r : Ending} {w' : World} (h : TreP x u w r w') : RTreP x u w r w' := by
 obtain ⟨cs, h1, h2, h3⟩ := h; exact ⟨cs, h1, h2.lies, h3⟩
theorem TreP1.r {x : Nd} {w : World} {r : Ending} {w' : World} (h : TreP1 x w r w') : RTreP1 x w r w' := by
 obtain ⟨cs, h1, h2, h3⟩ := h; exact ⟨cs, h1, h2.lies, h3⟩
def Few9 (x : Nd) : Prop := x.2.size ≤ 1000000
abbrev cN (a : NdD) (v : Value) : Array Value := #[.string (txt a.name), .string (txt a.key), .int .i64 a.kind, .int .u64 (a.num : Int), .string (txt a.text), v]
section
variable {α : Type} {D : RdOf α} {e : TypeId} {K p : Nat} {w w' : World} {base : Nat} {S S' N N' : Nat → Prop} {v : Value} {f g : Fr α}
theorem FrAt.take (n : Nat) : ∀ {f : Fr α} {b o : Nat}, FrAt D K p w S N f b o → FrAt D K p w S N (Fr.take n f) b o := by
 induction n with
 | zero => intro f b o h; cases f <;> trivial
 | succ n ih =>
  intro f b o h
  cases f with
  | nil => trivial
  | cons a k r => exact ⟨h.1, ih h.2⟩
theorem FrV.front {A : Option Addr} {L c n : Nat} (hn : n ≤ f.len) (h : FrV D K p w S N (.slice A L c) f) : FrV D K p w S N (.slice A n c) (Fr.take n f) := by
 obtain ⟨A', c', e, h1, h2⟩ := h
 injection e with e1 e2 e3
 subst e1 e2 e3
 have hl := Fr.len_take n f hn
 refine ⟨A, c, by rw [hl], by omega, fun h0 => ?_⟩
 obtain ⟨b, o, h3, h4, h5⟩ := h2 (by omega)
 exact ⟨b, o, h3, h4, h5.take n⟩
theorem FrV.back {b o L c n : Nat} (hn : n ≤ f.len) (h : FrV D K p w S N (.slice (some ⟨b, o, none⟩) L c) f) : FrV D K p w S N (.slice (some ⟨b, o + n * K, none⟩) (f.len - n) (c - n)) (Fr.drop n f) := by
 obtain ⟨A', c', e, h1, h2⟩ := h
 injection e with e1 e2 e3
 subst e2 e3
 have hl := Fr.len_drop n f
 refine ⟨_, _, by rw [hl], by omega, fun h0 => ?_⟩
 obtain ⟨b', o', h3, h4, h5⟩ := h2 (by omega)
 rw [← e1] at h3
 injection h3 with h3
 injection h3 with e4 e5 _
 subst e4 e5
 exact ⟨b, _, rfl, h4, h5.drop n⟩
theorem FrV.none_ (A : Option Addr) (c : Nat) : FrV D K p w S N (.slice A 0 c) (.nil : Fr α) := ⟨A, c, rfl, Nat.zero_le _, fun h => absurd h (by simp [Fr.len])⟩
def AppGs (D : RdOf α) (e : TypeId) (K p : Nat) (base : Nat) (S N : Nat → Prop) (w : World) (v : Value) (f : Fr α) (v' : Value) (w' : World) : Prop :=
 OwnG D e K p w' base S N v' f ∧ w.grownBy w' v.ownBlock ∧ (v'.ownBlock = v.ownBlock ∨ v'.ownBlock = some w.heap.size)
theorem AppGs.below {v' : Value} {g : Fr α} (h : AppGs D e K p base S N w v g v' w') (hown : OwnG D e K p w base S N v f) (hb : base ≤ w.heap.size) : Below base w w' :=
 (Below.refl _ _).grown h.2.1 hb fun b e => (hown.lt b e).1
theorem run_append_gs {P : Program} (hD : StayD D) (hO : OneD D) {ts : TypeId} {z : Value} {bytes : Nat} (hu : P.underlying ts = some (.slice e))
  (hinfo : (P.info? e).map (fun i => (i.zero, i.size, i.bytes)) = some (some z, K, bytes)) (hz : z.cells.size = K) (hk : 0 < K) (w : World) (v : Value) (hown : OwnG D e K p w base S N v f) (u : Value) (hs : FrV D K p w S N u g)
  (hb : (f.len + g.len) * bytes ≤ 140737488355328) (hlen : f.len + g.len ≤ 140737488355328) (hbase : base ≤ w.heap.size) :
  ∃ v' w', (Builtin.append_ #[ts, ts] ts #[v, u]).run P w = .ok v' w' ∧ AppGs D e K p base S N w v (f.app g) v' w' := by
 obtain ⟨hS, hN, xs, h1, h2⟩ := hown
 have hown : OwnG D e K p w base S N v f := ⟨hS, hN, xs, h1, h2⟩
 obtain ⟨i, hi, hz0, hz1, hz2⟩ := info_parts hinfo
 obtain ⟨A, c, rfl, hlc, hsrc⟩ := hs
 rcases A with _ | ad
 ·have hl : g = .nil := by
   cases g with
   | nil => rfl
   | cons a k r =>
    obtain ⟨_, _, he, _⟩ := hsrc (by simp [Fr.len])
    cases he
  subst hl
  refine ⟨v, w, ?_, by rw [Fr.app_nil]; exact hown, World.grownBy.refl w _, .inl rfl⟩
  rcases h1.2 with ⟨rfl, _⟩ | ⟨b, cap, cur, rfl, _, _, hnc, _⟩
  ·simp [Builtin.append_, run_underlying hu, sizeOf, typeInfo, hi, Builtin.lenOf, Builtin.firstCells, Fr.len]
  ·simp [Builtin.append_, run_underlying hu, sizeOf, typeInfo, hi, Builtin.lenOf, Builtin.firstCells, hnc, storeCells, Fr.len]
 ·obtain ⟨ys, hy, hc⟩ : ∃ ys, rowG D K p w S N ys g ∧ ∀ j x, ys[j]? = some x → w.cell? (ad.add j) = some x := by
   by_cases h0 : 0 < g.len
   ·obtain ⟨b, o, he, _, hat⟩ := hsrc h0
    injection he with he
    subst he
    obtain ⟨ys, h3, h4⟩ := hat.row
    refine ⟨ys, h3, fun j x hj => ?_⟩
    have e1 : (⟨b, o, none⟩ : Addr).add j = ⟨b, o + j, none⟩ := by unfold Addr.add; split <;> simp_all
    rw [e1]
    exact h4 j x hj
   ·cases g with
    | nil => exact ⟨[], rfl, fun j x hj => by simp at hj⟩
    | cons => simp [Fr.len] at h0
  obtain ⟨v', w', hrun, k1, k2, _, k3⟩ := run_append_own_at (P := P) (w := w) base ts ts e i z K bytes hu hi hz0 hz1 hz2 hz hk v f.len xs h1 ad g.len c ys hy.len hc (hy.oneCell hO) (by unfold maxLen; omega) hb hbase
  exact ⟨v', w', hrun, hown.app hD h2 (by rw [Fr.len_app]; exact k1) k2 k3 hy, k2, k3⟩
theorem wp_append_gs {P : Program} (hD : StayD D) (hO : OneD D) {ts : TypeId} {z : Value} {bytes : Nat} (hu : P.underlying ts = some (.slice e))
  (hinfo : (P.info? e).map (fun i => (i.zero, i.size, i.bytes)) = some (some z, K, bytes)) (hz : z.cells.size = K) (hk : 0 < K) {o : Oper} {a : Act} {K' : Act → World → Prop} {Q : Exit → Act → World → Prop} (s x : Operand)
  (ho : o.op = .call { callee := .builtin .append, args := #[s, x], argTypes := #[ts, ts] }) (hty : o.type = ts)
  (hs : a.eval s = v) (hown : OwnG D e K p w base S N v f) {u : Value} (hx : a.eval x = u) (hs2 : FrV D K p w S N u g)
  (hb : (f.len + g.len) * bytes ≤ 140737488355328) (hlen : f.len + g.len ≤ 140737488355328) (hbase : base ≤ w.heap.size)
  (hK : ∀ v' w', AppGs D e K p base S N w v (f.app g) v' w' → K' (a.put o.dst v') w') : o.wp P a w K' Q := by
 obtain ⟨v', w', hrun, h2⟩ := run_append_gs hD hO hu hinfo hz hk w v hown u hs2 hb hlen hbase
 unfold Oper.wp execOp
 simp only [ho, hty, resolve, invoke, builtin, Sem.run_bind, Sem.run_pure, Result.andThen_ok, List.map_toArray, List.map_cons, List.map_nil, hs, hx, hrun]
 exact hK v' w' h2
theorem wpList_append_gs {P : Program} (hD : StayD D) (hO : OneD D) {ts : TypeId} {z : Value} {bytes : Nat} (hu : P.underlying ts = some (.slice e))
  (hinfo : (P.info? e).map (fun i => (i.zero, i.size, i.bytes)) = some (some z, K, bytes)) (hz : z.cells.size = K) (hk : 0 < K) {ops : Array Oper} {rest : List Oper} {o : Oper} {a : Act} {Q : Exit → Act → World → Prop} (hgd : o.guard = none) (s x : Operand)
  (ho : o.op = .call { callee := .builtin .append, args := #[s, x], argTypes := #[ts, ts] }) (hty : o.type = ts)
  (hs : a.eval s = v) (hown : OwnG D e K p w base S N v f) {u : Value} (hx : a.eval x = u) (hs2 : FrV D K p w S N u g)
  (hb : (f.len + g.len) * bytes ≤ 140737488355328) (hlen : f.len + g.len ≤ 140737488355328) (hbase : base ≤ w.heap.size)
  (hK : ∀ v' w', AppGs D e K p base S N w v (f.app g) v' w' → wpList P ops Q rest (a.put o.dst v') w') : wpList P ops Q (o :: rest) a w :=
 wpList_plain hgd fun _ hK' => wp_append_gs hD hO hu hinfo hz hk s x ho hty hs hown hx hs2 hb hlen hbase fun v' w' hp => hK' _ _ (hK v' w' hp)
end
section
open Go.ChangeShapes Go.WideShapes Go.Deep
theorem bulk_one9 {H : Type} (d : DataW H) : 1 ≤ Rows.uptoBulk d := by
 cases d with
 | lit l => cases l <;> simp [Rows.uptoBulk]
 | nil => simp [Rows.uptoBulk]
 | ptr d => simp [Rows.uptoBulk]
 | slice elems spare => simp [Rows.uptoBulk]
 | agg parts => simp [Rows.uptoBulk]
 | iface t d => simp [Rows.uptoBulk]
 | map entries => simp [Rows.uptoBulk]
 | held h => simp [Rows.uptoBulk]
theorem add_bare9 (b o j : Nat) : (⟨b, o, none⟩ : Addr).add j = ⟨b, o + j, none⟩ := by unfold Addr.add; split <;> simp_all
theorem cellsNode : Tryz.prog.cellsOf 27 = 6 := by kernel_rfl
theorem cellsVal : Tryz.prog.cellsOf 24 = 3 := by kernel_rfl
theorem cellsStr9 : Tryz.prog.cellsOf 9 = 1 := by kernel_rfl
theorem cellsInt9 : Tryz.prog.cellsOf 3 = 1 := by kernel_rfl
theorem cellsU64 : Tryz.prog.cellsOf 22 = 1 := by kernel_rfl
theorem cellsNds : Tryz.prog.cellsOf 25 = 1 := by kernel_rfl
end
structure SpD where
 name : List UInt8
 kind : Nat
 typ : Nat
 low : Nat
 high : Nat
 names : List (List UInt8)
 must : Bool
 most : Nat
theorem SpD.ext_ {a b : SpD} (h1 : a.name = b.name) (h2 : a.kind = b.kind) (h3 : a.typ = b.typ) (h4 : a.low = b.low) (h5 : a.high = b.high) (h6 : a.names = b.names) (h7 : a.must = b.must) (h8 : a.most = b.most) : a = b := by
 cases a; cases b; simp_all
instance : DecidableEq SpD := fun a b => decidable_of_iff (a.name = b.name ∧ a.kind = b.kind ∧ a.typ = b.typ ∧ a.low = b.low ∧ a.high = b.high ∧ a.names = b.names ∧ a.must = b.must ∧ a.most = b.most)
 ⟨fun ⟨h1, h2, h3, h4, h5, h6, h7, h8⟩ => SpD.ext_ h1 h2 h3 h4 h5 h6 h7 h8, fun h => by subst h; exact ⟨rfl, rfl, rfl, rfl, rfl, rfl, rfl, rfl⟩⟩
abbrev SpF := Fr SpD
abbrev Sp := SpD × SpF
def nQuantum : List UInt8 := [113, 117, 97, 110, 116, 117, 109]
def nRate : List UInt8 := [114, 97, 116, 101]
def nBurst : List UInt8 := [98, 117, 114, 115, 116]
def nLimit : List UInt8 := [108, 105, 109, 105, 116]
def nDepth : List UInt8 := [100, 101, 112, 116, 104]
def nShaped : List UInt8 := [115, 104, 97, 112, 101, 100]
def nLow : List UInt8 := [108, 111, 119]
def nHigh : List UInt8 := [104, 105, 103, 104]
def nClass : List UInt8 := [99, 108, 97, 115, 115]
def nUp : List UInt8 := [117, 112]
def nRule : List UInt8 := [114, 117, 108, 101]
def nDefault : List UInt8 := [100, 101, 102, 97, 117, 108, 116]
def nKind : List UInt8 := [107, 105, 110, 100]
def nSystem : List UInt8 := [115, 121, 115, 116, 101, 109]
def nPort : List UInt8 := [112, 111, 114, 116]
def nWait : List UInt8 := [119, 97, 105, 116]
def nEdge : List UInt8 := [101, 100, 103, 101]
def nCore : List UInt8 := [99, 111, 114, 101]
def nLab : List UInt8 := [108, 97, 98]
def numD (n : List UInt8) (t lo hi : Nat) : SpD := ⟨n, 1, t, lo, hi, [], true, 0⟩
def leafD (n : List UInt8) (t : Nat) (must : Bool) : SpD := ⟨n, 1, t, 0, 0, [], must, 0⟩
def listD (n : List UInt8) (most : Nat) : SpD := ⟨n, 3, 0, 0, 0, [], false, most⟩
def kindD : SpD := ⟨nKind, 1, 4, 0, 0, [nEdge, nCore, nLab], false, 0⟩
def waitD : SpD := ⟨nWait, 1, 1, 1, 1000, [], false, 0⟩
def rootD : SpD := ⟨[], 2, 0, 0, 0, [], false, 0⟩
def zeroD : SpD := ⟨[], 0, 0, 0, 0, [], false, 0⟩
def frOf : List Sp → SpF
 | [] => .nil
 | x :: l => .cons x.1 x.2 (frOf l)
def classL (v : Nat) : List Sp :=
 [(numD nQuantum 1 1500 100000, .nil), (numD nRate 2 0 1000000, .nil), (numD nBurst 1 1500 1000000, .nil)] ++ [(numD (if v < 3 then nLimit else nDepth) 1 1 64, .nil)] ++ (if 1 < v then [(leafD nShaped 3 true, .nil)] else [])
def ruleL : List Sp := [(numD nLow 1 0 65535, .nil), (numD nHigh 1 0 65535, .nil), (leafD nClass 6 true, .nil)]
def portL (v : Nat) : List Sp :=
 [(leafD nUp 3 false, .nil), (listD nClass 8, frOf (classL v)), (listD nRule 16, frOf ruleL), (leafD nDefault 6 true, .nil)] ++ (if 1 < v then [(kindD, .nil)] else [])
def rootL (v : Nat) : List Sp := [(leafD nSystem 5 false, .nil), (listD nPort 4, frOf (portL v))] ++ (if 2 < v then [(waitD, .nil)] else [])
def rootF (v : Nat) : SpF := frOf (rootL v)
def rootX (v : Int) : Sp × Nat := if v < 1 ∨ 3 < v then ((zeroD, .nil), 28) else ((rootD, rootF v.toNat), 0)
def findX (n : List UInt8) : SpF → Option Nat
 | .nil => none
 | .cons a _ r => if a.name = n then some 0 else (findX n r).map (· + 1)
def findI (n : List UInt8) (f : SpF) : Int := match findX n f with
 | none => -1
 | some i => (i : Int)
def tagX (f : SpF) (i : Int) : Nat := if i < 0 then 0 else match f.get? i.toNat with
 | none => 0
 | some x => 2 * i.toNat + 2 + (if x.1.kind = 1 then 0 else 1)
theorem find_some {n : List UInt8} : ∀ {f : SpF} {i : Nat}, findX n f = some i → ∃ x, f.get? i = some x ∧ x.1.name = n ∧ ∀ j y, j < i → f.get? j = some y → y.1.name ≠ n := by
 intro f
 induction f with
 | nil => intro i h; cases h
 | cons a k r _ ih =>
  intro i h
  unfold findX at h
  by_cases e : a.name = n
  ·rw [if_pos e] at h
   injection h with h
   subst h
   exact ⟨(a, k), rfl, e, fun j y hj => by omega⟩
  ·rw [if_neg e] at h
   cases hr : findX n r with
   | none => rw [hr] at h; cases h
   | some m =>
    rw [hr] at h
    have h : m + 1 = i := by injection h
    subst h
    obtain ⟨x, h1, h2, h3⟩ := ih hr
    refine ⟨x, h1, h2, fun j y hj hy => ?_⟩
    cases j with
    | zero => injection hy with hy; subst hy; exact e
    | succ j => exact h3 j y (by omega) hy
theorem find_none {n : List UInt8} : ∀ {f : SpF}, findX n f = none → ∀ j y, f.get? j = some y → y.1.name ≠ n := by
 intro f
 induction f with
 | nil => intro _ j y h; cases h
 | cons a k r _ ih =>
  intro h j y hy
  unfold findX at h
  by_cases e : a.name = n
  ·rw [if_pos e] at h; cases h
  ·rw [if_neg e] at h
   cases hr : findX n r with
   | some m => rw [hr] at h; cases h
   | none =>
    cases j with
    | zero => injection hy with hy; subst hy; exact e
    | succ j => exact ih hr j y hy
theorem find_is {n : List UInt8} {f : SpF} {i : Nat} {x : Sp} (h1 : f.get? i = some x) (h2 : x.1.name = n) (h3 : ∀ j y, j < i → f.get? j = some y → y.1.name ≠ n) : findX n f = some i := by
 cases h : findX n f with
 | none => exact absurd h2 (find_none h i x h1)
 | some m =>
  obtain ⟨y, g1, g2, g3⟩ := find_some h
  rcases Nat.lt_trichotomy i m with hl | rfl | hl
  ·exact absurd h2 (g3 i x hl h1)
  ·rfl
  ·exact absurd g2 (h3 m y hl g1)
theorem find_no {n : List UInt8} {f : SpF} (h : ∀ j y, f.get? j = some y → y.1.name ≠ n) : findX n f = none := by
 cases hf : findX n f with
 | none => rfl
 | some m =>
  obtain ⟨y, g1, g2, _⟩ := find_some hf
  exact absurd g2 (h m y g1)
theorem tag_in {f : SpF} {i : Nat} {x : Sp} (h : f.get? i = some x) : tagX f (i : Int) = 2 * i + 2 + (if x.1.kind = 1 then 0 else 1) := by
 unfold tagX
 rw [if_neg (by omega), Int.toNat_natCast, h]
theorem tag_low (f : SpF) {i : Int} (h : i < 0) : tagX f i = 0 := by unfold tagX; rw [if_pos h]
theorem tag_high (f : SpF) {i : Int} (h : (f.len : Int) ≤ i) : tagX f i = 0 := by
 unfold tagX
 rw [if_neg (by omega), Fr.get_none (by omega)]
abbrev cS (n : ByteArray) (k t l h : Int) (N : Value) (m : Bool) (o : Int) (K : Value) : Array Value := #[.string n, .int .i64 k, .int .i64 t, .int .u64 l, .int .u64 h, N, .bool m, .int .i64 o, K]
abbrev cT (nm : List UInt8) (kd ty lo hi : Nat) (ns : List (List UInt8)) (mu : Bool) (mo : Nat) (B : Option Addr) (m : Nat) (A : Option Addr) (kn c : Nat) : Array Value := cS (txt nm) kd ty lo hi (.slice B ns.length m) mu mo (.slice A kn c)
def stepW (x : Nat) (c : UInt8) : Nat := (10 * x + c.toNat + 18446744073709551568) % 18446744073709551616
def w20 (s : List UInt8) : Nat := (s.take 20).foldl stepW 0
def smB (c : UInt8) : Bool := decide (97 ≤ c.toNat) && decide (c.toNat ≤ 122)
def nmB (c : UInt8) : Bool := smB c || (decide (48 ≤ c.toNat) && decide (c.toNat ≤ 57)) || c == 45
def identX (s : List UInt8) : Bool := match s with
 | [] => false
 | c :: r => smB c && r.all nmB && decide (r.length + 1 ≤ 12)
theorem sm_nm {c : UInt8} (h : smB c = true) : nmB c = true := by unfold nmB; rw [h]; rfl
theorem ident_len {s : List UInt8} (h : identX s = true) : 0 < s.length ∧ s.length ≤ 12 := by
 cases s with
 | nil => cases h
 | cons c r => simp [identX] at h; simp; omega
theorem ident_no {c : UInt8} (h : smB c = false) (s : List UInt8) : identX (c :: s) = false := by simp [identX, h]
structure Vl where
 kind : Int
 num : Nat
 text : List UInt8
theorem Vl.ext_ {a b : Vl} (h1 : a.kind = b.kind) (h2 : a.num = b.num) (h3 : a.text = b.text) : a = b := by cases a; cases b; simp_all
instance : DecidableEq Vl := fun a b => decidable_of_iff (a.kind = b.kind ∧ a.num = b.num ∧ a.text = b.text) ⟨fun ⟨h1, h2, h3⟩ => Vl.ext_ h1 h2 h3, fun h => by subst h; exact ⟨rfl, rfl, rfl⟩⟩
def whichX : List (List UInt8) → List UInt8 → Option Nat
 | [], _ => none
 | x :: l, s => if x = s then some 0 else (whichX l s).map (· + 1)
def whichI (l : List (List UInt8)) (s : List UInt8) : Int := match whichX l s with
 | none => -1
 | some i => (i : Int)
theorem which_some {l : List (List UInt8)} {s : List UInt8} : ∀ {i : Nat}, whichX l s = some i → l[i]? = some s ∧ ∀ j y, j < i → l[j]? = some y → y ≠ s := by
 induction l with
 | nil => intro i h; cases h
 | cons x l ih =>
  intro i h
  unfold whichX at h
  by_cases e : x = s
  ·rw [if_pos e] at h
   injection h with h
   subst h e
   exact ⟨rfl, fun j y hj => by omega⟩
  ·rw [if_neg e] at h
   cases hr : whichX l s with
   | none => rw [hr] at h; cases h
   | some m =>
    rw [hr] at h
    have h : m + 1 = i := by injection h
    subst h
    obtain ⟨h1, h2⟩ := ih hr
    refine ⟨h1, fun j y hj hy => ?_⟩
    cases j with
    | zero => injection hy with hy; subst hy; exact e
    | succ j => exact h2 j y (by omega) hy
theorem which_none {l : List (List UInt8)} {s : List UInt8} (h : whichX l s = none) : ∀ (j : Nat) (y : List UInt8), l[j]? = some y → y ≠ s := by
 induction l with
 | nil => intro j y hy; simp at hy
 | cons x l ih =>
  intro j y hy
  unfold whichX at h
  by_cases e : x = s
  ·rw [if_pos e] at h; cases h
  ·rw [if_neg e] at h
   cases hr : whichX l s with
   | some m => rw [hr] at h; cases h
   | none =>
    cases j with
    | zero => injection hy with hy; subst hy; exact e
    | succ j => exact ih hr j y hy
theorem which_is {l : List (List UInt8)} {s : List UInt8} {i : Nat} (h1 : l[i]? = some s) (h2 : ∀ (j : Nat) (y : List UInt8), j < i → l[j]? = some y → y ≠ s) : whichX l s = some i := by
 cases h : whichX l s with
 | none => exact absurd rfl (which_none h i s h1)
 | some m =>
  obtain ⟨g1, g2⟩ := which_some h
  rcases Nat.lt_trichotomy i m with hl | rfl | hl
  ·exact absurd rfl (g2 i s hl h1)
  ·rfl
  ·exact absurd rfl (h2 m s hl g1)
theorem which_no {l : List (List UInt8)} {s : List UInt8} (h : ∀ (j : Nat) (y : List UInt8), l[j]? = some y → y ≠ s) : whichX l s = none := by
 cases hw : whichX l s with
 | none => rfl
 | some m => exact absurd rfl (h m s (which_some hw).1)
def rightX (a : SpD) (v : Vl) : Bool := decide (a.kind = 1) && decide (v.kind = (a.typ : Int)) && (
 if a.typ = 1 ∨ a.typ = 2 then decide (a.low ≤ v.num) && decide (v.num ≤ a.high) && decide (v.text = [])
 else if a.typ = 3 then decide (v.num < 2) && decide (v.text = [])
 else if a.typ = 4 then (whichX a.names v.text).isSome && decide (v.num = 0)
 else if a.typ = 5 ∨ a.typ = 6 then identX v.text && decide (v.num = 0)
 else false)
def leastB (x : Nat) : List UInt8 := bigB x (lenB 8 x)
def dataX (a : SpD) (v : Vl) : List UInt8 := if rightX a v = false then [] else if a.typ = 1 ∨ a.typ = 2 then leastB v.num else if a.typ = 3 then [UInt8.ofNat v.num] else if a.typ = 4 then [UInt8.ofNat ((whichX a.names v.text).getD 0)] else v.text
theorem right_leaf {a : SpD} {v : Vl} (h : rightX a v = true) : a.kind = 1 ∧ v.kind = (a.typ : Int) := by
 unfold rightX at h
 simp only [Bool.and_eq_true, decide_eq_true_eq] at h
 exact h.1
theorem right_cases {a : SpD} {v : Vl} (h : rightX a v = true) :
  ((a.typ = 1 ∨ a.typ = 2) ∧ a.low ≤ v.num ∧ v.num ≤ a.high ∧ v.text = []) ∨ (a.typ = 3 ∧ v.num < 2 ∧ v.text = []) ∨ (a.typ = 4 ∧ (∃ i, whichX a.names v.text = some i) ∧ v.num = 0) ∨ ((a.typ = 5 ∨ a.typ = 6) ∧ identX v.text = true ∧ v.num = 0) := by
 unfold rightX at h
 simp only [Bool.and_eq_true, decide_eq_true_eq] at h
 obtain ⟨_, h⟩ := h
 split at h
 ·rename_i ht
  simp only [Bool.and_eq_true, decide_eq_true_eq] at h
  exact .inl ⟨ht, h.1.1, h.1.2, h.2⟩
 split at h
 ·rename_i ht
  simp only [Bool.and_eq_true, decide_eq_true_eq] at h
  exact .inr (.inl ⟨ht, h.1, h.2⟩)
 split at h
 ·rename_i ht
  simp only [Bool.and_eq_true, decide_eq_true_eq, Option.isSome_iff_exists] at h
  exact .inr (.inr (.inl ⟨ht, h.1, h.2⟩))
 split at h
 ·rename_i ht
  simp only [Bool.and_eq_true, decide_eq_true_eq] at h
  exact .inr (.inr (.inr ⟨ht, h.1, h.2⟩))
 ·cases h
end Go.Proofs.YtodlhgflfcadmaaGreat
