/- DifOpen TrvMem TrvA -/
import Derived.Test.YthmobcaidhgeaaaAM14
import Derived.BigQuiet
import Derived.Sort.Grow
import Derived.Lib.Slices
import Derived.Lib.Walk
set_option linter.unusedSimpArgs false
set_option linter.unusedVariables false
set_option maxRecDepth 100000
set_option maxHeartbeats 8000000
namespace Go.Proofs.Ythmobcaidhgeaaa
open Go.RowKit
section
open Go.ChangeShapes Go.WideShapes Go.Deep
theorem cellsEdit : Try.prog.cellsOf 37 = 14 := by kernel_rfl
theorem cellsWay16 : Try.prog.cellsOf 35 = 1 := by kernel_rfl
theorem edit_cells {H : Type} {enc : TypeId × Value → H} {W : World} {n : Nat} {cs : List Value} {x : DataW H × List MemPlace} (h : DataW.trod enc Try.prog W 0 (fun _ => true) true n 37 cs = some x) :
  ∃ e : EdD, EdS (fun g => g < W.heap.size) W cs e ∧ 2 * e.node.2.size + 1 ≤ Rows.uptoBulk x.1 ∧ 2 * e.old.2.size + 1 ≤ Rows.uptoBulk x.1 ∧ 8 ≤ Rows.uptoBulk x.1 := by
 obtain ⟨ys, k, hk, hy, hlen, hyl, hf⟩ := DataW.trod_struct Try.underlying37 h
 rw [cellsEdit] at hlen
 have hyl' : ys.length = 4 := hyl
 match cs, hlen, ys, hyl', hy with
 | [v0, v1, v2, v3, v4, v5, v6, v7, v8, v9, v10, v11, v12, v13], _, [y0, y1, y2, y3], _, hy =>
  have f0 : DataW.trod enc Try.prog W 0 (fun _ => true) true k 3 (List.take (Try.prog.cellsOf 3) (List.drop 0 [v0, v1, v2, v3, v4, v5, v6, v7, v8, v9, v10, v11, v12, v13])) = some _ := (hf 0 _ rfl).trans rfl
  have f1 : DataW.trod enc Try.prog W 0 (fun _ => true) true k 35 (List.take (Try.prog.cellsOf 35) (List.drop 1 [v0, v1, v2, v3, v4, v5, v6, v7, v8, v9, v10, v11, v12, v13])) = some _ := (hf 1 _ rfl).trans rfl
  have f2 : DataW.trod enc Try.prog W 0 (fun _ => true) true k 27 (List.take (Try.prog.cellsOf 27) (List.drop 2 [v0, v1, v2, v3, v4, v5, v6, v7, v8, v9, v10, v11, v12, v13])) = some _ := (hf 2 _ rfl).trans rfl
  have f3 : DataW.trod enc Try.prog W 0 (fun _ => true) true k 27 (List.take (Try.prog.cellsOf 27) (List.drop 8 [v0, v1, v2, v3, v4, v5, v6, v7, v8, v9, v10, v11, v12, v13])) = some _ := (hf 3 _ rfl).trans rfl
  rw [cellsInt9] at f0
  rw [cellsWay16] at f1
  rw [cellsNode] at f2 f3
  simp only [List.drop_zero, List.drop_succ_cons, List.take_succ_cons, List.take_zero] at f0 f1 f2 f3
  obtain ⟨kd, e0, _, _⟩ := DataW.trod_int Try.underlying3 f0
  obtain ⟨l, hl, _⟩ := open_way f1
  obtain ⟨a, c5, n1, z1, _, ea, hz1, hb1⟩ := node_cells f2
  obtain ⟨b, d5, n2, z2, _, eb, hz2, hb2⟩ := node_cells f3
  obtain ⟨f, hf1, hf2⟩ := open_nodes n1 (Nat.le_refl _) hz1
  obtain ⟨g, hg1, hg2⟩ := open_nodes n2 (Nat.le_refl _) hz2
  simp at e0
  subst e0
  simp only [ndC, List.cons.injEq, and_true] at ea eb
  obtain ⟨rfl, rfl, rfl, rfl, rfl, rfl⟩ := ea
  obtain ⟨rfl, rfl, rfl, rfl, rfl, rfl⟩ := eb
  have hx : x.1 = .agg [y0.1, y1.1, y2.1, y3.1] := congrArg Prod.fst hy
  refine ⟨⟨kd, l, (a, f), (b, g)⟩, ⟨_, _, _, rfl, hl.s, hf1, hg1⟩, ?_, ?_, ?_⟩
  all_goals
   rw [hx]
   simp only [Rows.uptoBulk, Rows.uptoBulkAll]
   omega
theorem open_edits {H : Type} {enc : TypeId × Value → H} {W : World} {fuel : Nat} {v : Value} {x : DataW H × List MemPlace} (h : DataW.trod enc Try.prog W 0 (fun _ => true) true fuel 28 [v] = some x) :
  ∃ l, EdsV (fun g => g < W.heap.size) W v l ∧ 8 * l.length ≤ Rows.uptoBulk x.1 ∧ ∀ e ∈ l, 2 * e.node.2.size ≤ Rows.uptoBulk x.1 ∧ 2 * e.old.2.size ≤ Rows.uptoBulk x.1 := by
 rcases DataW.trod_slice Try.underlying28 h with ⟨hcs, rfl⟩ | ⟨a, len, cap, elems, rest, n, rfl, hcs, rfl, hb, hl, hm, hlen, hel, -, -⟩
 ·simp at hcs
  subst hcs
  exact ⟨[], EdsV.nil _ _, by simp, by simp⟩
 ·simp at hcs
  subst hcs
  by_cases h0 : 0 < len
  ·have hcell0 : ∃ u, W.cell? a = some u := by
    have h1 := hel 0 h0
    rw [List.getElem?_eq_getElem (by omega)] at h1
    obtain ⟨cs', h2, _⟩ := Option.bind_eq_some_iff.1 h1
    rw [cellsEdit] at h2
    obtain ⟨_, h3, h4⟩ := World.cells?_some h2
    have h5 := h4 0 (by omega)
    rw [List.getElem?_eq_getElem (by omega)] at h5
    exact ⟨_, by simpa [Addr.add] using h5⟩
   obtain ⟨u0, hu0⟩ := hcell0
   have hsp0 : a.spot = none := World.cell?_spot hu0
   have hlt : a.block < W.heap.size := World.block_lt_of_cell? W _ hu0
   obtain ⟨b, off, sp⟩ := a
   have hsp : sp = none := hsp0
   subst hsp
   have rows : ∀ m, m ≤ len → ∃ (l : List EdD) (xs : List Value), l.length = m ∧ rowE (fun g => g < W.heap.size) W xs l ∧ (∀ j u, xs[j]? = some u → W.cell? ⟨b, off + (len - m) * 14 + j, none⟩ = some u) ∧ 8 * l.length ≤ Rows.uptoBulkAll ((elems.drop (len - m)).map (·.1)) ∧ ∀ e ∈ l, 2 * e.node.2.size ≤ Rows.uptoBulkAll ((elems.drop (len - m)).map (·.1)) ∧ 2 * e.old.2.size ≤ Rows.uptoBulkAll ((elems.drop (len - m)).map (·.1)) := by
    intro m
    induction m with
    | zero => intro _; exact ⟨[], [], rfl, rfl, fun j u h => by simp at h, by simp, by simp⟩
    | succ m ihm =>
     intro hm'
     obtain ⟨r, xr, hr1, hr2, hr3, hr4, hr5⟩ := ihm (by omega)
     obtain ⟨i, hi⟩ : ∃ i, i = len - (m + 1) := ⟨_, rfl⟩
     have hi1 : len - m = i + 1 := by omega
     have hil : i < len := by omega
     rw [hi1] at hr3 hr4 hr5
     rw [← hi]
     have h1 := hel i hil
     have hie : i < elems.length := by omega
     rw [List.getElem?_eq_getElem hie] at h1
     obtain ⟨cs', h2, h3⟩ := Option.bind_eq_some_iff.1 h1
     rw [cellsEdit] at h2
     obtain ⟨_, hcl, hat⟩ := World.cells?_some h2
     have hcc : ∀ j, j < 14 → W.cell? ⟨b, off + i * 14 + j, none⟩ = cs'[j]? := fun j hj => by
      have h5 := hat j hj
      rw [add_bare9, add_bare9] at h5
      exact h5
     obtain ⟨e, he, hb1, hb2, hb3⟩ := edit_cells h3
     have hdrop : (elems.drop i).map (·.1) = (elems[i]).1 :: (elems.drop (i + 1)).map (·.1) := by rw [List.drop_eq_getElem_cons hie]; rfl
     refine ⟨e :: r, cs' ++ xr, by simp [hr1], ⟨cs', xr, rfl, he, hr2⟩, fun j u hj => ?_, ?_, fun y hy => ?_⟩
     ·by_cases hj14 : j < 14
      ·rw [List.getElem?_append_left (by rw [hcl]; exact hj14)] at hj
       rw [hcc j hj14, hj]
      ·rw [List.getElem?_append_right (by rw [hcl]; omega), hcl] at hj
       have h9 := hr3 _ u hj
       rw [show off + (i + 1) * 14 + (j - 14) = off + i * 14 + j by omega] at h9
       exact h9
     ·rw [hdrop]
      simp only [List.length_cons, Rows.uptoBulkAll]
      omega
     ·rw [hdrop]
      simp only [Rows.uptoBulkAll]
      rcases List.mem_cons.1 hy with rfl | hy
      ·omega
      ·have := hr5 y hy
       omega
   obtain ⟨l, xs, hl1, hl2, hl3, hl4, hl5⟩ := rows len (Nat.le_refl _)
   rw [Nat.sub_self, Nat.zero_mul, Nat.add_zero] at hl3
   rw [Nat.sub_self, List.drop_zero] at hl4 hl5
   subst hl1
   refine ⟨l, ⟨_, cap, rfl, by omega, fun _ => ⟨b, off, xs, rfl, hlt, hl2, hl3⟩⟩, ?_, fun e he => ?_⟩
   ·simp only [Rows.uptoBulk]
    omega
   ·have := hl5 e he
    simp only [Rows.uptoBulk]
    omega
  ·obtain rfl : len = 0 := by omega
   exact ⟨[], ⟨_, cap, rfl, by omega, fun h => absurd h (by simp)⟩, by simp, by simp⟩
end
structure After (w : World) where
 w' : World
 h : Below w.heap.size w w'
instance (w : World) : Inhabited (After w) := ⟨⟨w, Below.refl _ _⟩⟩
theorem After.cell {w : World} (p : After w) {b o : Nat} {v : Value} (hb : b < w.heap.size) (h : w.cell? ⟨b, o, none⟩ = some v) : p.w'.cell? ⟨b, o, none⟩ = some v := (p.h.cell (p := ⟨b, o, none⟩) hb).trans h
def Grw (v : Value) (w : World) (r : Ending) (w' : World) : Prop := r = .returned v ∧ ∃ q os, w' = Go.Sort.grow (w.drewN q) os
theorem below_grow {w : World} (q : Nat) (os : Array Obj) : Below w.heap.size w (Go.Sort.grow (w.drewN q) os) :=
 ⟨rfl, rfl, rfl, by rw [Go.Sort.size_grow]; exact Nat.le_add_right _ _, fun k hk => Go.Sort.heap_grow_old (w.drewN q) os hk⟩
theorem Grw.ans {v : Value} {w : World} {r : Ending} {w' : World} (h : Grw v w r w') : Ans9 v w r w' := by
 obtain ⟨h1, q, os, rfl⟩ := h
 exact ⟨h1, below_grow q os⟩
theorem Grw.alloc {w : World} (o : Obj) : w.alloc o = Go.Sort.grow (w.drewN 0) #[o] := Go.Sort.alloc_eq_grow w o
def set6o (w : World) (b o : Nat) (x0 x1 x2 x3 x4 x5 : Value) : World := (((((w.setCell ⟨b, o, none⟩ x0).setCell ⟨b, o + 1, none⟩ x1).setCell ⟨b, o + 2, none⟩ x2).setCell ⟨b, o + 3, none⟩ x3).setCell ⟨b, o + 4, none⟩ x4).setCell ⟨b, o + 5, none⟩ x5
theorem set6o_below {B : Nat} {w : World} {b o : Nat} {x0 x1 x2 x3 x4 x5 : Value} (h : B ≤ b) : Below B w (set6o w b o x0 x1 x2 x3 x4 x5) :=
 ((((((Below.refl B w).setCell (p := ⟨b, o, none⟩) h x0).setCell (p := ⟨b, o + 1, none⟩) h x1).setCell (p := ⟨b, o + 2, none⟩) h x2).setCell (p := ⟨b, o + 3, none⟩) h x3).setCell (p := ⟨b, o + 4, none⟩) h x4).setCell (p := ⟨b, o + 5, none⟩) h x5
theorem set6o_other {w : World} {b o g : Nat} {x0 x1 x2 x3 x4 x5 : Value} (h : g ≠ b) : (set6o w b o x0 x1 x2 x3 x4 x5).heap[g]? = w.heap[g]? := by
 unfold set6o
 rw [Below.heap_setCell _ _ _ _ h, Below.heap_setCell _ _ _ _ h, Below.heap_setCell _ _ _ _ h, Below.heap_setCell _ _ _ _ h, Below.heap_setCell _ _ _ _ h, Below.heap_setCell _ _ _ _ h]
theorem set6o_size {w : World} {b o : Nat} {x0 x1 x2 x3 x4 x5 : Value} : (set6o w b o x0 x1 x2 x3 x4 x5).heap.size = w.heap.size := by simp [set6o, World.setCell]
theorem set_mid6 (l k r : List Value) (j : Nat) (u : Value) (h : j < k.length) : (l ++ (k ++ r)).set (l.length + j) u = l ++ (k.set j u ++ r) := by
 rw [List.set_append_right _ _ (by omega), Nat.add_sub_cancel_left, List.set_append_left _ _ h]
theorem OwnK.set6o {w : World} {base b n c o : Nat} {xs1 xs2 : List Value} {y0 y1 y2 y3 y4 y5 : Value} (h : OwnK 27 6 w base (.slice (some ⟨b, 0, none⟩) n c) n (xs1 ++ ([y0, y1, y2, y3, y4, y5] ++ xs2))) (ho : xs1.length = o) (x0 x1 x2 x3 x4 x5 : Value) :
  OwnK 27 6 (set6o w b o x0 x1 x2 x3 x4 x5) base (.slice (some ⟨b, 0, none⟩) n c) n (xs1 ++ ([x0, x1, x2, x3, x4, x5] ++ xs2)) := by
 subst ho
 have a0 := (World.ownsRow.stored h (xs1.length + 0) x0).1
 rw [set_mid6 _ _ _ _ _ (by simp)] at a0
 have a1 := (World.ownsRow.stored a0 (xs1.length + 1) x1).1
 rw [set_mid6 _ _ _ _ _ (by simp)] at a1
 have a2 := (World.ownsRow.stored a1 (xs1.length + 2) x2).1
 rw [set_mid6 _ _ _ _ _ (by simp)] at a2
 have a3 := (World.ownsRow.stored a2 (xs1.length + 3) x3).1
 rw [set_mid6 _ _ _ _ _ (by simp)] at a3
 have a4 := (World.ownsRow.stored a3 (xs1.length + 4) x4).1
 rw [set_mid6 _ _ _ _ _ (by simp)] at a4
 have a5 := (World.ownsRow.stored a4 (xs1.length + 5) x5).1
 rw [set_mid6 _ _ _ _ _ (by simp)] at a5
 exact a5
def OwnT (w : World) (base : Nat) : NdF → List Value → List Nat → Prop
 | .nil, xs, F => xs = [] ∧ F = []
 | .cons a k r, xs, F => ∃ (ys zs : List Value) (F0 F2 : List Nat) (v : Value), xs = ndC a v ++ ys ∧ F = (v.ownBlock.toList ++ F0) ++ F2 ∧
   OwnK 27 6 w base v k.len zs ∧ OwnT w base k zs F0 ∧ OwnT w base r ys F2
def OwnU (w : World) (base : Nat) (v : Value) (k : NdF) (F : List Nat) : Prop := ∃ zs F0, F = v.ownBlock.toList ++ F0 ∧ OwnK 27 6 w base v k.len zs ∧ OwnT w base k zs F0
section
variable {w w' : World} {base base' : Nat} {f g : NdF} {xs ys : List Value} {F G : List Nat}
theorem OwnT.cons_iff {a : NdD} {k r : NdF} : OwnT w base (.cons a k r) xs F ↔ ∃ v ys F1 F2, xs = ndC a v ++ ys ∧ F = F1 ++ F2 ∧ OwnU w base v k F1 ∧ OwnT w base r ys F2 := by
 constructor
 ·intro ⟨ys, zs, F0, F2, v, h1, h2, h6, h7, h8⟩
  exact ⟨v, ys, _, F2, h1, h2, ⟨zs, F0, rfl, h6, h7⟩, h8⟩
 ·intro ⟨v, ys, F1, F2, h1, h2, ⟨zs, F0, h9, h6, h7⟩, h8⟩
  exact ⟨ys, zs, F0, F2, v, h1, by rw [h2, h9], h6, h7, h8⟩
theorem OwnK.keep {e : TypeId} {k n : Nat} {v : Value} (h : OwnK e k w base v n xs) (hk : ∀ g, v.ownBlock = some g → w'.heap[g]? = w.heap[g]?) : OwnK e k w' base v n xs := by
 refine ⟨h.1, ?_⟩
 rcases h.2 with ⟨rfl, h0⟩ | ⟨g, cap, cur, rfl, hb, hg, hrest⟩
 ·exact .inl ⟨rfl, h0⟩
 ·exact .inr ⟨g, cap, cur, rfl, hb, (hk g rfl).trans hg, hrest⟩
theorem OwnT.keep (hb : base' ≤ base) : ∀ {f : NdF} {xs : List Value} {F : List Nat}, (∀ g, g ∈ F → w'.heap[g]? = w.heap[g]?) → OwnT w base f xs F → OwnT w' base' f xs F := by
 intro f
 induction f with
 | nil => intro xs F _ h; exact h
 | cons a k r ihk ihr =>
  intro xs F hF ⟨ys, zs, F0, F2, v, h1, h2, h6, h7, h8⟩
  subst h2
  exact ⟨ys, zs, F0, F2, v, h1, rfl, (h6.keep (fun g hg => hF g (by simp [hg]))).mono hb, ihk (fun g hg => hF g (by simp [hg])) h7, ihr (fun g hg => hF g (by simp [hg])) h8⟩
theorem OwnU.keep {v : Value} {k : NdF} (h : OwnU w base v k F) (hF : ∀ g, g ∈ F → w'.heap[g]? = w.heap[g]?) (hb : base' ≤ base) : OwnU w' base' v k F := by
 obtain ⟨zs, F0, rfl, h1, h2⟩ := h
 exact ⟨zs, F0, rfl, (h1.keep (fun g hg => hF g (by simp [hg]))).mono hb, h2.keep hb (fun g hg => hF g (by simp [hg]))⟩
theorem OwnK.fresh {e : TypeId} {k n : Nat} {v : Value} (h : OwnK e k w base v n xs) {g : Nat} (hg : v.ownBlock = some g) : Fresh9 base w g := by
 rcases h.2 with ⟨rfl, h0⟩ | ⟨g', cap, cur, rfl, hb, hg', hrest⟩
 ·cases hg
 ·injection hg with hg
  subst hg
  exact ⟨hb, cur, _, hg'⟩
theorem OwnT.fresh : ∀ {f : NdF} {xs : List Value} {F : List Nat}, OwnT w base f xs F → ∀ g, g ∈ F → Fresh9 base w g := by
 intro f
 induction f with
 | nil => intro xs F h g hg; rw [h.2] at hg; cases hg
 | cons a k r ihk ihr =>
  intro xs F ⟨ys, zs, F0, F2, v, h1, h2, h6, h7, h8⟩ g hg
  subst h2
  simp only [List.mem_append, Option.mem_toList] at hg
  rcases hg with (hg | hg) | hg
  ·exact h6.fresh hg
  ·exact ihk h7 g hg
  ·exact ihr h8 g hg
theorem OwnU.fresh {v : Value} {k : NdF} (h : OwnU w base v k F) : ∀ g, g ∈ F → Fresh9 base w g := by
 obtain ⟨zs, F0, rfl, h1, h2⟩ := h
 intro g hg
 simp only [List.mem_append, Option.mem_toList] at hg
 rcases hg with hg | hg
 ·exact h1.fresh hg
 ·exact h2.fresh g hg
theorem OwnT.below (h : OwnT w base f xs F) (hb : Below w.heap.size w w') : OwnT w' base f xs F := h.keep (Nat.le_refl _) (fun g hg => hb.block g (h.fresh g hg).lt)
theorem OwnU.below {v : Value} {k : NdF} (h : OwnU w base v k F) (hb : Below w.heap.size w w') : OwnU w' base v k F := h.keep (fun g hg => hb.block g (h.fresh g hg).lt) (Nat.le_refl _)
theorem OwnK.frv {S : Nat → Prop} {v : Value} {k : NdF} (h : OwnK 27 6 w base v k.len xs) (hr : rowG NdA 6 5 w S noB xs k) (hS : ∀ g, v.ownBlock = some g → S g) : FrV NdA 6 5 w S noB v k := by
 have hh := h
 rcases h.2 with ⟨rfl, h0⟩ | ⟨g, cap, cur, rfl, hb, hg, hnc, hcm, hcs, ht⟩
 ·exact ⟨none, 0, by rw [h0], by omega, fun h => absurd h (by omega)⟩
 ·refine ⟨_, cap, rfl, hnc, fun h0 => ⟨g, 0, rfl, hS g rfl, hr.at (fun j u hj => ?_)⟩⟩
  have hjl : j < xs.length := (List.getElem?_eq_some_iff.1 hj).1
  have hxl : xs.length = k.len * 6 := h.1
  rw [World.ownsRow.cellAt hh (0 + j) (by omega), Nat.zero_add, hj]
theorem OwnK.aligned {n : Nat} {v : Value} (h : OwnK 27 6 w base v n xs) {a : NdD} : ∀ b o m c, (ndC a v)[5]? = some (.slice (some ⟨b, o, none⟩) m c) → o % 6 = 0 := by
 intro b o m c e
 have e2 : v = .slice (some ⟨b, o, none⟩) m c := by simpa using e
 rcases h.2 with ⟨rfl, h0⟩ | ⟨g, cap, cur, rfl, hrest⟩
 ·cases e2
 ·injection e2 with e2
  injection e2 with e2
  injection e2 with _ e3
  rw [← e3]
theorem OwnT.row {S : Nat → Prop} : ∀ {f : NdF} {xs : List Value} {F : List Nat}, (∀ g, g ∈ F → S g) → OwnT w base f xs F → rowG NdA 6 5 w S noB xs f := by
 intro f
 induction f with
 | nil => intro xs F _ h; exact h.1
 | cons a k r ihk ihr =>
  intro xs F hF ⟨ys, zs, F0, F2, v, h1, h2, h6, h7, h8⟩
  subst h2
  have hv : v.oneCell' = true := by obtain ⟨A, c, rfl⟩ := h6.shape; rfl
  exact ⟨ndC a v, ys, h1, ⟨rfl, ⟨⟨v, rfl, hv⟩, h6.aligned⟩, v, rfl, h6.frv (ihk (fun g hg => hF g (by simp [hg])) h7) (fun g hg => hF g (by simp [hg]))⟩, ihr (fun g hg => hF g (by simp [hg])) h8⟩
theorem OwnU.frv {v : Value} {k : NdF} (h : OwnU w base v k F) : FrV NdA 6 5 w (fun g => g ∈ F) noB v k := by
 obtain ⟨zs, F0, rfl, h1, h2⟩ := h
 exact h1.frv (h2.row (fun g hg => by simp [hg])) (fun g hg => by simp [hg])
theorem OwnU.shape {v : Value} {k : NdF} (h : OwnU w base v k F) : ∃ A c, v = .slice A k.len c := by
 obtain ⟨zs, F0, rfl, h1, h2⟩ := h
 exact h1.shape
theorem OwnU.new {v : Value} {a : NdD} {k : NdF} (h : OwnU w base v k F) : NewT base w (ndC a v) (a, k) := by
 refine ⟨fun g => g ∈ F, h.fresh, rfl, ⟨⟨v, rfl, ?_⟩, ?_⟩, v, rfl, h.frv⟩
 ·obtain ⟨A, c, rfl⟩ := h.shape; rfl
 ·obtain ⟨zs, F0, rfl, h1, h2⟩ := h
  exact h1.aligned
theorem OwnU.lies {v : Value} {a : NdD} {k : NdF} (h : OwnU w base v k F) : LieN w (ndC a v) (a, k) := (h.new (a := a)).lies
theorem OwnT.app (h2 : OwnT w base g ys G) : ∀ {f : NdF} {xs : List Value} {F : List Nat}, OwnT w base f xs F → OwnT w base (f.app g) (xs ++ ys) (F ++ G) := by
 intro f
 induction f with
 | nil => intro xs F h; rw [h.1, h.2]; exact h2
 | cons a k r ihk ihr =>
  intro xs F ⟨zs, us, F0, F2, v, h1, h2, h6, h7, h8⟩
  subst h1 h2
  exact ⟨zs ++ ys, us, F0, F2 ++ G, v, by simp, by simp, h6, h7, ihr h8⟩
theorem OwnT.one {a : NdD} {k : NdF} {v : Value} (h : OwnU w base v k F) : OwnT w base (.cons a k .nil) (ndC a v) F := OwnT.cons_iff.2 ⟨v, [], F, [], by simp, by simp, h, rfl, rfl⟩
theorem OwnT.split (n : Nat) : ∀ {f : NdF} {xs : List Value} {F : List Nat}, OwnT w base f xs F → ∃ xs1 xs2 F1 F2, xs = xs1 ++ xs2 ∧ F = F1 ++ F2 ∧ OwnT w base (Fr.take n f) xs1 F1 ∧ OwnT w base (Fr.drop n f) xs2 F2 := by
 induction n with
 | zero => intro f xs F h; exact ⟨[], xs, [], F, rfl, rfl, by cases f <;> exact ⟨rfl, rfl⟩, by cases f <;> exact h⟩
 | succ n ih =>
  intro f xs F h
  cases f with
  | nil => exact ⟨[], xs, [], F, rfl, rfl, ⟨rfl, rfl⟩, h⟩
  | cons a k r =>
   obtain ⟨v, ys, F1, F2, rfl, rfl, h1, h2⟩ := OwnT.cons_iff.1 h
   obtain ⟨ys1, ys2, G1, G2, rfl, rfl, h3, h4⟩ := ih h2
   exact ⟨ndC a v ++ ys1, ys2, F1 ++ G1, G2, by simp, by simp, OwnT.cons_iff.2 ⟨v, ys1, F1, G1, rfl, rfl, h1, h3⟩, h4⟩
theorem OwnT.len (h : OwnT w base f xs F) : xs.length = f.len * 6 := (h.row (S := fun g => g ∈ F) (fun _ h => h)).len
theorem OwnT.at (h : OwnT w base f xs F) {i : Nat} {a : NdD} {k : NdF} (hy : f.get? i = some (a, k)) : ∃ xs1 v xs2 F1 Fk F2, xs = xs1 ++ (ndC a v ++ xs2) ∧ F = F1 ++ (Fk ++ F2) ∧ xs1.length = i * 6 ∧ OwnT w base (Fr.take i f) xs1 F1 ∧ OwnU w base v k Fk ∧ OwnT w base (Fr.drop (i + 1) f) xs2 F2 := by
 obtain ⟨xs1, xs2, F1, F2, rfl, rfl, h1, h2⟩ := h.split i
 rw [(Fr.get_drop hy).1] at h2
 obtain ⟨v, ys, G1, G2, rfl, rfl, h3, h4⟩ := OwnT.cons_iff.1 h2
 exact ⟨xs1, v, ys, F1, G1, G2, rfl, rfl, by rw [h1.len, Fr.len_take _ _ (by have := Fr.get_lt hy; omega)], h1, h3, h4⟩
def updF (i : Nat) (y : Nd) (f : NdF) : NdF := (Fr.take i f).app (.cons y.1 y.2 (Fr.drop (i + 1) f))
theorem updF_len {i : Nat} {y : Nd} {f : NdF} (h : i < f.len) : (updF i y f).len = f.len := by
 unfold updF
 rw [Fr.len_app, Fr.len_take _ _ (by omega)]
 simp only [Fr.len, Fr.len_drop]
 omega
theorem OwnT.upd {i : Nat} {a : NdD} {k : NdF} {v : Value} {xs1 xs2 : List Value} {F1 F2 Fk : List Nat} (h1 : OwnT w base (Fr.take i f) xs1 F1) (h2 : OwnU w base v k Fk) (h3 : OwnT w base (Fr.drop (i + 1) f) xs2 F2) : OwnT w base (updF i (a, k) f) (xs1 ++ (ndC a v ++ xs2)) (F1 ++ (Fk ++ F2)) :=
 OwnT.app (OwnT.cons_iff.2 ⟨v, xs2, Fk, F2, rfl, rfl, h2, h3⟩) h1
end
def Keeps (base : Nat) (F : List Nat) (w w' : World) : Prop := Below base w w' ∧ ∀ g, g < w.heap.size → g ∉ F → w'.heap[g]? = w.heap[g]?
theorem Keeps.refl (base : Nat) (F : List Nat) (w : World) : Keeps base F w w := ⟨Below.refl _ _, fun _ _ _ => rfl⟩
theorem Keeps.trans {base : Nat} {F G : List Nat} {a b c : World} (h : Keeps base F a b) (k : Keeps base G b c) (hG : ∀ g, g ∈ G → g ∈ F ∨ a.heap.size ≤ g) : Keeps base F a c :=
 ⟨h.1.trans k.1, fun g hg hF => (k.2 g (Nat.lt_of_lt_of_le hg h.1.size) (fun hm => by rcases hG g hm with h' | h'; exact hF h'; omega)).trans (h.2 g hg hF)⟩
theorem bcmp_any (a b : ByteArray) (w : World) :
  Calls Try.prog 65 #[.string a, .string b] w fun e w' => e = .returned (.int .i64 (Lib.compareBytes a.data.toList b.data.toList)) ∧ w = w' := by
 go_enter Try.func65, Try.ntmps65
 go_wp2
 rw [run_callFunc_extern Try.func67 (by kernel_rfl) (by kernel_rfl) (by kernel_rfl) (e := Extern.BytealgCompare.compare) (by kernel_rfl), Lib.run_compareString]
 simp only [Result.andThen]
 rw [Oper.upon_value]
 go_wp2
 go_ret
 exact ⟨rfl, rfl⟩
theorem scmp_any (a b : ByteArray) (w : World) :
  Calls Try.prog 63 #[.string a, .string b] w fun e w' => e = .returned (.int .i64 (Lib.compareBytes a.data.toList b.data.toList)) ∧ w = w' := by
 go_enter Try.func63, Try.ntmps63
 go_wp2_with (go_at_call 65; refine (bcmp_any _ _ _).mono ?_; rintro e w' ⟨rfl, rfl⟩)
 go_ret
 exact ⟨rfl, rfl⟩
def cmpS (s t : Stp) : Int := if Lib.compareBytes s.1 t.1 ≠ 0 then Lib.compareBytes s.1 t.1 else Lib.compareBytes s.2 t.2
theorem cmpB_iff : ∀ (a b : List UInt8), (Lib.compareBytes a b < 0 ↔ ltY a b = true) ∧ (Lib.compareBytes a b = 0 ↔ a = b) := by
 intro a
 induction a with
 | nil =>
  intro b
  cases b with
  | nil => simp [Lib.compareBytes, ltB_irrefl]
  | cons y b => simp [Lib.compareBytes]; rfl
 | cons x a ih =>
  intro b
  cases b with
  | nil => simp [Lib.compareBytes, ltB_nil]
  | cons y b =>
   rw [ltB_cons]
   unfold Lib.compareBytes
   simp only [UInt8.lt_iff_toNat_lt]
   by_cases h1 : x.toNat < y.toNat
   ·rw [if_pos h1]
    have h2 : x ≠ y := fun e => by subst e; omega
    simp [h1, h2]
   ·rw [if_neg h1]
    by_cases h2 : y.toNat < x.toNat
    ·rw [if_pos h2]
     have h3 : x ≠ y := fun e => by subst e; omega
     simp [h1, h3]
    ·rw [if_neg h2]
     have h3 : x = y := UInt8.toNat_inj.1 (by omega)
     subst h3
     simp [ih b]
theorem cmpS_lt (s t : Stp) : cmpS s t < 0 ↔ lessS s t = true := by
 obtain ⟨h1, h2⟩ := cmpB_iff s.1 t.1
 obtain ⟨h3, h4⟩ := cmpB_iff s.2 t.2
 rw [lessS_iff]
 unfold cmpS
 split
 ·rename_i h
  rw [h1]
  have : s.1 ≠ t.1 := fun e => h (h2.2 e)
  simp [this]
 ·rename_i h
  have e : s.1 = t.1 := h2.1 (by simpa using h)
  rw [h3, e]
  simp [ltB_irrefl]
theorem cmpS_decide (s t : Stp) : decide (cmpS s t < 0) = lessS s t := by
 cases h : lessS s t with
 | true => exact decide_eq_true ((cmpS_lt s t).2 h)
 | false => exact decide_eq_false (fun e => by rw [cmpS_lt, h] at e; cases e)
theorem or_any (x y : Int) (g : Nat) (w : World) (hg : Blk w g 3 #[.int .i64 x, .int .i64 y]) :
  Calls Try.prog 62 #[.slice (some ⟨g, 0, none⟩) 2 2] w fun e w' => e = .returned (.int .i64 (if x ≠ 0 then x else y)) ∧ w = w' := by
 have q0 := (hg.cell 0).trans rfl
 have q1 := (hg.cell 1).trans rfl
 clear hg
 by_cases h : x = 0
 ·have e : (if x ≠ 0 then x else y) = y := by simp [h]
  have HE := hHd e
  clear e
  subst h
  by_cases h2 : y = 0
  ·subst h2
   go_enter Try.func62, Try.ntmps62
   go_wp2
   refine wp_loop_rounds 3 ?_
   rw [rounds_succ]
   go_wp2
   rw [rounds_succ]
   go_wp2
   rw [rounds_succ]
   go_wp2
   go_ret
   exact ⟨rfl, rfl⟩
  ·have b1 : (y == 0) = false := beq_eq_false_iff_ne.2 h2
   have b2 : (y != 0) = true := by simp [h2]
   go_enter Try.func62, Try.ntmps62
   go_wp2
   refine wp_loop_rounds 2 ?_
   rw [rounds_succ]
   go_wp2
   rw [rounds_succ]
   go_wp2
   go_ret
   first | exact ⟨rfl, rfl⟩ | exact ⟨by rw [HE.out], rfl⟩ | exact ⟨by rw [HE.out]; rfl, rfl⟩
 ·have e : (if x ≠ 0 then x else y) = x := by simp [h]
  have HE := hHd e
  have b1 : (x == 0) = false := beq_eq_false_iff_ne.2 h
  have b2 : (x != 0) = true := by simp [h]
  clear e
  go_enter Try.func62, Try.ntmps62
  go_wp2
  refine wp_loop_rounds 1 ?_
  rw [rounds_succ]
  go_wp2
  go_ret
  first | exact ⟨rfl, rfl⟩ | exact ⟨by rw [HE.out], rfl⟩ | exact ⟨by rw [HE.out]; rfl, rfl⟩
theorem Blk.newA {w : World} {g : Nat} (h : w.heap.size = g) (t : TypeId) (cs : Array Value) : Blk (w.alloc (.cells cs t)) g t cs := by subst h; exact Blk.new w t cs
theorem drew_is (w : World) : w.drew = w.drewN 1 := rfl
theorem drewN_grow (w : World) (os : Array Obj) (n : Nat) : (Go.Sort.grow w os).drewN n = Go.Sort.grow (w.drewN n) os := rfl
theorem order_any (a b : NdD) (u v : Value) (w : World) (hu : u.oneCell' = true) (hv : v.oneCell' = true) :
  Calls Try.prog 59 #[.agg (cN a u), .agg (cN b v)] w (Grw (.int .i64 (cmpS (stp a) (stp b))) w) := by
 have h1 : Blk ((w.alloc (.cells (cN a u) 27)).alloc (.cells (cN b v) 27)).drew w.heap.size 27 (cN a u) := (Blk.new w 27 (cN a u)).alloc _
 have h2 : Blk ((w.alloc (.cells (cN a u) 27)).alloc (.cells (cN b v) 27)).drew (w.heap.size + 1) 27 (cN b v) := Blk.newA (by simp) _ _
 have H1 := hHd (And.intro h1 h2)
 have c1 : Lib.compareBytes (txt a.name).data.toList (txt b.name).data.toList = Lib.compareBytes a.name b.name := by rfl
 have c2 : Lib.compareBytes (txt a.key).data.toList (txt b.key).data.toList = Lib.compareBytes a.key b.key := by rfl
 obtain ⟨x, hx⟩ : ∃ x, x = Lib.compareBytes a.name b.name := ⟨_, rfl⟩
 obtain ⟨y, hy⟩ : ∃ y, y = Lib.compareBytes a.key b.key := ⟨_, rfl⟩
 rw [← hx] at c1
 rw [← hy] at c2
 have HC1 := hHd c1
 have HC2 := hHd c2
 have HE : Hid ((if x ≠ 0 then x else y) = cmpS (stp a) (stp b)) := hHd (by rw [hx, hy]; rfl)
 have HN : Hid (Blk (((w.alloc (.cells (cN a u) 27)).alloc (.cells (cN b v) 27)).alloc (.cells #[.int .i64 x, .int .i64 y] 3)).drew (w.heap.size + 1 + 1) 3 #[.int .i64 x, .int .i64 y]) := hHd (show Blk (((w.alloc (.cells (cN a u) 27)).alloc (.cells (cN b v) 27)).alloc (.cells #[.int .i64 x, .int .i64 y] 3)) (w.heap.size + 1 + 1) 3 #[.int .i64 x, .int .i64 y] from Blk.newA (by simp) _ _)
 clear h1 h2 hx hy c1 c2
 go_enter Try.func59, Try.ntmps59
 go_wp2_with fail
 refine wp_region_noPanic ?_
 refine wp_region_held_drew (S := fun _ => True) (by kernel_rfl) trivial (fun hS => ?_)
 refine held_more (S' := fun w' => Blk w' w.heap.size 27 (cN a u) ∧ Blk w' (w.heap.size + 1) 27 (cN b v)) (fun _ _ => trivial) _ _ _ _ ?_
 replace hS := H1.out
 refine tkH 0 hS ?_
 refine tkH 1 hS ?_ (hy := fun w hSw => by obtain ⟨q0, q1, q2, q3, q4, q5⟩ := cl6 hSw.1; (go_simp <;> with_reducible rfl))
 refine tkH 2 hS ?_
 refine tkH 3 hS ?_ (hy := fun w hSw => by obtain ⟨q0, q1, q2, q3, q4, q5⟩ := cl6 hSw.2; (go_simp <;> with_reducible rfl))
 refine tkH 5 hS ?_
 refine tkH 6 hS ?_ (hy := fun w hSw => by obtain ⟨q0, q1, q2, q3, q4, q5⟩ := cl6 hSw.1; (go_simp <;> with_reducible rfl))
 refine tkH 7 hS ?_
 refine tkH 8 hS ?_ (hy := fun w hSw => by obtain ⟨q0, q1, q2, q3, q4, q5⟩ := cl6 hSw.2; (go_simp <;> with_reducible rfl))
 refine rdy1 4 fun K hK => ?_
 go_simp
 refine (scmp_any _ _ _).mono ?_
 rintro r w3 ⟨rfl, rfl⟩
 rw [HC1.out]
 go_wp2_with fail
 refine hK.out _ _ ?sr_0 (fun hS => ?_)
 case sr_0 => (exact H1.out)
 clear hK K
 (try simp only [Act.put, layS])
 refine rdy1 9 fun K hK => ?_
 go_simp
 refine (scmp_any _ _ _).mono ?_
 rintro r w3 ⟨rfl, rfl⟩
 rw [HC2.out]
 go_wp2_with fail
 refine hK.out _ _ ?sr_1 (fun hS => ?_)
 case sr_1 => (exact H1.out)
 clear hK K
 (try simp only [Act.put, layS])
 refine rdy1 10 fun K hK => ?_
 go_simp
 refine hK.out _ _ ?sr_2 (fun hS => ?_)
 case sr_2 => (exact ⟨H1.out.1.alloc _, H1.out.2.alloc _⟩)
 clear hK K
 (try simp only [Act.put, layS])
 refine rdy1 11 fun K hK => ?_
 go_simp
 refine (or_any x y (w.heap.size + 1 + 1) _ HN.out).mono ?_
 rintro r w3 ⟨rfl, rfl⟩
 rw [HE.out]
 go_wp2_with fail
 refine hK.out _ _ ?sr_3 (fun hS => ?_)
 case sr_3 => (exact ⟨H1.out.1.alloc _, H1.out.2.alloc _⟩)
 clear hK K
 (try simp only [Act.put, layS])
 refine tkH 12 hS ?_
 refine wpAnyH_done (by kernel_rfl) ?_ _
 refine NoPanic.normal ?_
 clear hS
 go_wp2
 go_ret
 exact ⟨rfl, 1, #[.cells (cN a u) 27, .cells (cN b v) 27, .cells #[.int .i64 x, .int .i64 y] 3], by simp [Go.Sort.alloc_eq_grow, Go.Sort.drew_grow, Go.Sort.grow_grow, drew_is, drewN_grow]⟩
theorem less_any (a b : NdD) (u v : Value) (w : World) (hu : u.oneCell' = true) (hv : v.oneCell' = true) :
  Calls Try.prog 54 #[.agg (cN a u), .agg (cN b v)] w (Ans9 (.bool (lessX a b)) w) := by
 have h1 : Blk ((w.alloc (.cells (cN a u) 27)).alloc (.cells (cN b v) 27)) w.heap.size 27 (cN a u) := (Blk.new w 27 (cN a u)).alloc _
 have h2 : Blk ((w.alloc (.cells (cN a u) 27)).alloc (.cells (cN b v) 27)) (w.heap.size + 1) 27 (cN b v) := Blk.newA (by simp) _ _
 have HB : Hid (Below w.heap.size w ((w.alloc (.cells (cN a u) 27)).alloc (.cells (cN b v) 27))) := hHd (bAl.alloc (by simp) _)
 have HO := hHd (fun W => order_any a b u v W hu hv)
 cases h : lessX a b with
 | true =>
  have hd : decide (cmpS (stp a) (stp b) < 0) = true := (cmpS_decide _ _).trans h
  have hd2 : cmpS (stp a) (stp b) < 0 := of_decide_eq_true hd
  generalize cmpS (stp a) (stp b) = z at HO hd hd2
  obtain ⟨q0, q1, q2, q3, q4, q5⟩ := cl6 h1
  obtain ⟨p0, p1, p2, p3, p4, p5⟩ := cl6 h2
  clear h1 h2 h
  go_enter Try.func54, Try.ntmps54
  go_wp2_with fail
  refine (HO.out _).mono ?_
  intro r w3 h3
  obtain ⟨rfl, hb3⟩ := h3.ans
  have HB3 := hHd (HB.out.trans (hb3.mono HB.out.size))
  clear hb3 h3
  go_wp2
  go_ret
  exact ⟨rfl, HB3.out⟩
 | false =>
  have hd : decide (cmpS (stp a) (stp b) < 0) = false := (cmpS_decide _ _).trans h
  have hd2 : ¬ cmpS (stp a) (stp b) < 0 := of_decide_eq_false hd
  generalize cmpS (stp a) (stp b) = z at HO hd hd2
  obtain ⟨q0, q1, q2, q3, q4, q5⟩ := cl6 h1
  obtain ⟨p0, p1, p2, p3, p4, p5⟩ := cl6 h2
  clear h1 h2 h
  go_enter Try.func54, Try.ntmps54
  go_wp2_with fail
  refine (HO.out _).mono ?_
  intro r w3 h3
  obtain ⟨rfl, hb3⟩ := h3.ans
  have HB3 := hHd (HB.out.trans (hb3.mono HB.out.size))
  clear hb3 h3
  go_wp2
  go_ret
  exact ⟨rfl, HB3.out⟩
theorem LieN.one {b : Nat} {w : World} {cs : List Value} {x : Nd} (h : LieB b w cs x) : ∃ v, cs = ndC x.1 v ∧ v.oneCell' = true := by
 obtain ⟨A, c, h, _⟩ := h.shape
 exact ⟨_, h, rfl⟩
theorem leafis_any (a : NdD) (u : Value) (w : World) :
  Calls Try.prog 47 #[.agg (cN a u)] w (Ans9 (.bool (decide (a.kind ≠ 0))) w) := by
 have h1 : Blk (w.alloc (.cells (cN a u) 27)) w.heap.size 27 (cN a u) := Blk.new w 27 (cN a u)
 have HB : Hid (Below w.heap.size w (w.alloc (.cells (cN a u) 27))) := hHd bAl
 clear h1
 by_cases h : a.kind = 0
 ·have e1 : (a.kind == 0) = true := beq_iff_eq.2 h
  have e2 : (a.kind != 0) = false := by simp [h]
  have HD : Hid (decide (a.kind ≠ 0) = false) := hHd (by simp [h])
  clear h
  go_enter Try.func47, Try.ntmps47
  go_wp2
  go_ret
  exact ⟨by rw [HD.out]; rfl, HB.out⟩
 ·have e1 : (a.kind == 0) = false := beq_eq_false_iff_ne.2 h
  have e2 : (a.kind != 0) = true := by simp [h]
  have HD : Hid (decide (a.kind ≠ 0) = true) := hHd (by simp [h])
  clear h
  go_enter Try.func47, Try.ntmps47
  go_wp2
  go_ret
  exact ⟨by rw [HD.out]; rfl, HB.out⟩
theorem stepof_any (a : NdD) (u : Value) (w : World) :
  Calls Try.prog 46 #[.agg (cN a u)] w (Ans9 (.agg #[.string (txt a.name), .string (txt a.key)]) w) := by
 have HZ : Hid (Blk ((w.alloc (.cells (cN a u) 27)).alloc (.cells #[.string (txt a.name), .string (txt a.key)] 47)) (w.heap.size + 1) 47 #[.string (txt a.name), .string (txt a.key)]) := hHd (Blk.newA (by simp) _ _)
 have HB : Hid (Below w.heap.size w ((w.alloc (.cells (cN a u) 27)).alloc (.cells #[.string (txt a.name), .string (txt a.key)] 47))) := hHd (bAl.alloc (by simp) _)
 go_enter Try.func46, Try.ntmps46
 go_wp2
 refine bodyPost_ret (results_cell_row rfl _ _ (w.heap.size + 1) 47 _ (0, 0) _ rfl HZ.out Try.underlying47 rfl (by kernel_rfl)) rfl ?_
 exact ⟨rfl, HB.out⟩
end Go.Proofs.Ythmobcaidhgeaaa
