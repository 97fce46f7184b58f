/- DifSpec EdtTrs TrvMem TrvA TrvD TrvE TrvG VadIns RngSeq RngHeld VadRefB -/
import Derived.Test.YtleidkpdpabkpaaGreatDoorBM20
import Derived.BigQuiet
import Derived.Sort.Grow
import Derived.Lib.Slices
import Derived.Lib.Walk
import Derived.Shelf.Abstract
import Derived.Lib.AppendZerosOnto
import Derived.Lib.Overlaps
import Derived.RangeFuncNested
import Derived.RangeFuncBound
import Derived.OrdersIn
set_option linter.unusedSimpArgs false
set_option linter.unusedVariables false
set_option maxRecDepth 100000
set_option maxHeartbeats 8000000
namespace Go.Proofs.YtleidkpdpabkpaaGreatDoor
open Go.RowKit
section
attribute [local go_sem] Oper.semAt_some
theorem ed_few (f g : NdF) (w : List Stp) : ∀ e ∈ edF f g w, e.way.length ≤ w.length + (f.size + g.size) ∧ e.node.2.size ≤ f.size + g.size ∧ e.old.2.size ≤ f.size + g.size := by
 refine ed_ind (P := fun f g w => ∀ e ∈ edF f g w, e.way.length ≤ w.length + (f.size + g.size) ∧ e.node.2.size ≤ f.size + g.size ∧ e.old.2.size ≤ f.size + g.size) (fun w e he => by rw [edF_nil] at he; cases he) (fun a k r w ih e he => ?_) (fun b q s w ih e he => ?_) (fun a k r b q s w h ih e he => ?_) (fun a k r b q s w h1 h2 ih e he => ?_) (fun a k r b q s w h1 h2 hs ihk ih e he => ?_) f g w
 ·rw [edF_del] at he
  rcases List.mem_cons.1 he with rfl | he
  ·simp [delE, noN, Fr.size]; omega
  ·have := ih e he; simp only [Fr.size] at this ⊢; omega
 ·rw [edF_new] at he
  rcases List.mem_cons.1 he with rfl | he
  ·simp [newE, noN, Fr.size]; omega
  ·have := ih e he; simp only [Fr.size] at this ⊢; omega
 ·rw [edF_lt h] at he
  rcases List.mem_cons.1 he with rfl | he
  ·simp [delE, noN, Fr.size]; omega
  ·have := ih e he; simp only [Fr.size] at this ⊢; omega
 ·rw [edF_gt h1 h2] at he
  rcases List.mem_cons.1 he with rfl | he
  ·simp [newE, noN, Fr.size]; omega
  ·have := ih e he; simp only [Fr.size] at this ⊢; omega
 ·rw [edF_eq h1 h2] at he
  rcases List.mem_append.1 he with he | he
  ·unfold edK at he
   split at he
   ·cases he
   ·split at he
    ·obtain rfl : e = _ := by simpa using he
     simp [Fr.size]; omega
    ·split at he
     ·have := ihk e he; simp only [Fr.size, List.length_append, List.length_cons, List.length_nil] at this ⊢; omega
     ·rcases List.mem_cons.1 he with rfl | he
      ·simp [delE, noN, Fr.size]; omega
      ·obtain rfl : e = _ := by simpa using he
       simp [newE, noN, Fr.size]; omega
  ·have := ih e he; simp only [Fr.size] at this ⊢; omega
theorem fewE_ed {f g : NdF} (h : f.size + g.size ≤ 1000000) : FewE (edF f g []) := by
 refine ⟨Nat.le_trans (ed_len f g []) h, fun e he => ?_⟩
 obtain ⟨h1, h2, h3⟩ := ed_few f g [] e he
 simp at h1
 exact ⟨by omega, by unfold Few9; omega, by unfold Few9; omega⟩
theorem RowS.bel {w : World} {a : NdD} {f : NdF} {A : Option Addr} {c : Nat} (h : LieN w (ndC a (.slice A f.len c)) (a, f)) : RowS (Bel w) w (.slice A f.len c) f := by
 obtain ⟨A', c', e, h2⟩ := LieB.shape h
 have e5 := congrArg (fun l => l[5]?) e
 simp [ndC] at e5
 obtain ⟨rfl, rfl⟩ := e5
 exact h2
theorem rEdits16_any (a b : NdD) (f g : NdF) (A B : Option Addr) (c d : Nat) (w : World) (hx : LieN w (ndC a (.slice A f.len c)) (a, f)) (hy : LieN w (ndC b (.slice B g.len d)) (b, g)) (hz : f.size + g.size ≤ 1000000) :
  Calls Tryz.prog 18 #[.agg (cN a (.slice A f.len c)), .agg (cN b (.slice B g.len d))] w (InvP (edF f g []) w) := by
 have hbw : Below w.heap.size w ((w.alloc (.cells (cN a (.slice A f.len c)) 42)).alloc (.cells (cN b (.slice B g.len d)) 42)) := bAl.alloc (by simp) _
 have hc := redits16_any (f.size + g.size + 1) f g (by omega) a b [] A B none c d 0 _ (Bel _) (fun _ h => h) (RowS.bel (hx.below hbw)) (RowS.bel (hy.below hbw)) (WayS.nil _ _) (by simp; omega)
 simp only [List.length_nil] at hc
 have HC := hHd hc
 have HW := hHd hbw
 clear hc hx hy hz hbw
 go_enter Tryz.func18, Tryz.ntmps18
 go_wp2_with fail
 refine HC.out.mono ?_
 rintro r w1 ⟨v, rfl, hv, hb⟩
 have HB1 := hHd hb.size
 have HB := hHd (HW.out.trans (hb.mono HW.out.size))
 have HV := hHd hv
 clear hv hb
 go_wp2
 go_ret
 exact ⟨_, rfl, HV.out.keep (fun _ _ => rfl) (fun g hg => hg.elim (fun h => Nat.lt_of_lt_of_le h HB1.out) (fun h => h.2)), HB.out⟩
end
def edW : List EdD → Nat
 | [] => 0
 | e :: l => e.node.2.size + e.old.2.size + 2 + edW l
theorem edW_app : ∀ l m : List EdD, edW (l ++ m) = edW l + edW m := by
 intro l m
 induction l with
 | nil => simp [edW]
 | cons e l ih => simp only [List.cons_append, edW, ih]; omega
theorem ed_wt (f g : NdF) (w : List Stp) : edW (edF f g w) ≤ 2 * (f.size + g.size) := by
 refine ed_ind (P := fun f g w => edW (edF f g w) ≤ 2 * (f.size + g.size)) (fun w => ?_) (fun a k r w ih => ?_) (fun b q s w ih => ?_) (fun a k r b q s w h ih => ?_) (fun a k r b q s w h1 h2 ih => ?_) (fun a k r b q s w h1 h2 hs ihk ih => ?_) f g w
 ·rw [edF_nil]; exact Nat.zero_le _
 ·rw [edF_del]
  have e1 : (delE (w ++ [stp a]) (a, k)).node.2.size = 0 := rfl
  have e2 : (delE (w ++ [stp a]) (a, k)).old.2.size = k.size := rfl
  simp only [edW, Fr.size] at *
  omega
 ·rw [edF_new]
  have e1 : (newE (w ++ [stp b]) (b, q)).node.2.size = q.size := rfl
  have e2 : (newE (w ++ [stp b]) (b, q)).old.2.size = 0 := rfl
  simp only [edW, Fr.size] at *
  omega
 ·rw [edF_lt h]
  have e1 : (delE (w ++ [stp a]) (a, k)).node.2.size = 0 := rfl
  have e2 : (delE (w ++ [stp a]) (a, k)).old.2.size = k.size := rfl
  simp only [edW, Fr.size] at *
  omega
 ·rw [edF_gt h1 h2]
  have e1 : (newE (w ++ [stp b]) (b, q)).node.2.size = q.size := rfl
  have e2 : (newE (w ++ [stp b]) (b, q)).old.2.size = 0 := rfl
  simp only [edW, Fr.size] at *
  omega
 ·rw [edF_eq h1 h2, edW_app]
  have hk : edW (edK (a, k) (b, q) (w ++ [stp a])) ≤ 2 * (k.size + q.size + 2) := by
   unfold edK
   split
   ·exact Nat.zero_le _
   ·split
    ·simp only [edW]; omega
    ·split
     ·exact Nat.le_trans ihk (by omega)
     ·have e1 : (delE (w ++ [stp a]) (a, k)).node.2.size = 0 := rfl
      have e2 : (delE (w ++ [stp a]) (a, k)).old.2.size = k.size := rfl
      have e3 : (newE (w ++ [stp a]) (b, q)).node.2.size = q.size := rfl
      have e4 : (newE (w ++ [stp a]) (b, q)).old.2.size = 0 := rfl
      show 0 + k.size + 2 + (q.size + 0 + 2 + 0) ≤ _
      omega
  simp only [Fr.size] at *
  omega
theorem okN_noN18 : OkN noN := ⟨⟨by decide, by decide, by decide, by decide, by decide, by decide⟩, trivial⟩
theorem ed_okn (f g : NdF) (w : List Stp) : OkF f → OkF g → ∀ e ∈ edF f g w, OkN e.node ∧ OkN e.old := by
 refine ed_ind (P := fun f g w => OkF f → OkF g → ∀ e ∈ edF f g w, OkN e.node ∧ OkN e.old) (fun w _ _ e he => ?_) (fun a k r w ih hf hg e he => ?_) (fun b q s w ih hf hg e he => ?_) (fun a k r b q s w h ih hf hg e he => ?_) (fun a k r b q s w h1 h2 ih hf hg e he => ?_) (fun a k r b q s w h1 h2 hs ihk ih hf hg e he => ?_) f g w
 ·rw [edF_nil] at he; cases he
 ·rw [edF_del] at he
  rcases List.mem_cons.1 he with rfl | he
  ·exact ⟨okN_noN18, hf.1, hf.2.1⟩
  ·exact ih hf.2.2 hg e he
 ·rw [edF_new] at he
  rcases List.mem_cons.1 he with rfl | he
  ·exact ⟨⟨hg.1, hg.2.1⟩, okN_noN18⟩
  ·exact ih hf hg.2.2 e he
 ·rw [edF_lt h] at he
  rcases List.mem_cons.1 he with rfl | he
  ·exact ⟨okN_noN18, hf.1, hf.2.1⟩
  ·exact ih hf.2.2 hg e he
 ·rw [edF_gt h1 h2] at he
  rcases List.mem_cons.1 he with rfl | he
  ·exact ⟨⟨hg.1, hg.2.1⟩, okN_noN18⟩
  ·exact ih hf hg.2.2 e he
 ·rw [edF_eq h1 h2] at he
  rcases List.mem_append.1 he with he | he
  ·unfold edK at he
   split at he
   ·cases he
   ·split at he
    ·rcases List.mem_cons.1 he with rfl | he
     ·exact ⟨⟨hg.1, hg.2.1⟩, hf.1, hf.2.1⟩
     ·cases he
    ·split at he
     ·exact ihk hf.2.1 hg.2.1 e he
     ·rcases List.mem_cons.1 he with rfl | he
      ·exact ⟨okN_noN18, hf.1, hf.2.1⟩
      ·rcases List.mem_cons.1 he with rfl | he
       ·exact ⟨⟨hg.1, hg.2.1⟩, okN_noN18⟩
       ·cases he
  ·exact ih hf.2.2 hg.2.2 e he
theorem node_wt18 {x : Nd} (h : OkN x) : (inI18 leastB x.1 (itmF18 leastB x.2)).sz ≤ 3145741 + 3145742 * x.2.size ∧ (inI18 leastB x.1 (itmF18 leastB x.2)).cnt ≤ 3 + 4 * x.2.size := by
 obtain ⟨h1, h2⟩ := itm_few18 x.2 h.2
 have h3 := inI_sz18 x.1 (itmF18 leastB x.2) h.1.num
 have h4 := inI_cnt18 x.1 (itmF18 leastB x.2)
 have n1 := h.1.name
 have n2 := h.1.key
 have n3 := h.1.text
 constructor <;> omega
theorem its_wt18 : ∀ l : List EdD, (∀ e ∈ l, OkN e.node ∧ OkN e.old) → (itsE18 leastB l).sz ≤ 3147000 * edW l ∧ (itsE18 leastB l).cnt ≤ 8 * edW l := by
 intro l
 induction l with
 | nil => intro _; exact ⟨Nat.le_refl _, Nat.le_refl _⟩
 | cons e l ih =>
  intro h
  obtain ⟨r1, r2⟩ := ih (fun x hx => h x (by simp [hx]))
  obtain ⟨e1, e2⟩ := h e (by simp)
  obtain ⟨p1, p2⟩ := node_wt18 e1
  obtain ⟨o1, o2⟩ := node_wt18 e2
  have hs := show_len18 e.way
  simp only [itsE18, itm18, Fo.sz, Fo.cnt, List.length_nil, edW]
  constructor
  ·split <;> split <;> simp only [Fo.sz, List.length_nil] <;> omega
  ·split <;> split <;> simp only [Fo.cnt] <;> omega
theorem ok_way18 {e : EdD} (h : okE18 e = true) : ∀ s ∈ e.way, s.1.length ≤ 12 ∧ s.2.length ≤ 12 := by
 have h1 : showX e.way ≠ [] := by
  unfold okE18 at h
  simp only [Bool.and_eq_true, decide_eq_true_eq] at h
  exact h.1.1.1.1.2
 have h2 : e.way.all okS = true := by
  by_cases h3 : e.way.all okS = true
  ·exact h3
  ·exact absurd (by unfold showX; rw [if_neg h3]) h1
 exact fun s hs => okS_len18 (List.all_eq_true.1 h2 s hs)
theorem okl_ed18 {u v : Int} {x y : Nd} (hx : MayX u x = true) (hy : MayX v y = true) (h1 : OkF x.2) (h2 : OkF y.2) (s1 : x.2.size ≤ 299) (s2 : y.2.size ≤ 299) : OkL18 (edF x.2 y.2 []) := by
 have hw := ed_wt x.2 y.2 []
 have hn := ed_okn x.2 y.2 [] h1 h2
 obtain ⟨g1, g2⟩ := its_wt18 _ hn
 obtain ⟨f1, f2⟩ := fewE_ed (f := x.2) (g := y.2) (by omega)
 have ho := may_edits hx hy
 refine ⟨f1, fun e he => ⟨(f2 e he).1, fun s hs => ?_, ?_, ?_, (hn e he).1, (hn e he).2⟩, by omega, by omega⟩
 ·have := ok_way18 (List.all_eq_true.1 ho e he) s hs; omega
 ·have := (f2 e he).2.1; unfold Few9 at this; omega
 ·have := (f2 e he).2.2; unfold Few9 at this; omega
structure After (w : World) where
 w' : World
 h : Below w.heap.size w w'
instance (w : World) : Inhabited (After w) := ⟨⟨w, Below.refl _ _⟩⟩
theorem After.cell {w : World} (p : After w) {b o : Nat} {v : Value} (hb : b < w.heap.size) (h : w.cell? ⟨b, o, none⟩ = some v) : p.w'.cell? ⟨b, o, none⟩ = some v := (p.h.cell (p := ⟨b, o, none⟩) hb).trans h
def Grw (v : Value) (w : World) (r : Ending) (w' : World) : Prop := r = .returned v ∧ ∃ q os, w' = Go.Sort.grow (w.drewN q) os
theorem Grw.alloc {w : World} (o : Obj) : w.alloc o = Go.Sort.grow (w.drewN 0) #[o] := Go.Sort.alloc_eq_grow w o
def OwnT (w : World) (base : Nat) : NdF → List Value → List Nat → Prop
 | .nil, xs, F => xs = [] ∧ F = []
 | .cons a k r, xs, F => ∃ (ys zs : List Value) (F0 F2 : List Nat) (v : Value), xs = ndC a v ++ ys ∧ F = (v.ownBlock.toList ++ F0) ++ F2 ∧
   OwnK 42 6 w base v k.len zs ∧ OwnT w base k zs F0 ∧ OwnT w base r ys F2
def OwnU (w : World) (base : Nat) (v : Value) (k : NdF) (F : List Nat) : Prop := ∃ zs F0, F = v.ownBlock.toList ++ F0 ∧ OwnK 42 6 w base v k.len zs ∧ OwnT w base k zs F0
section
variable {w w' : World} {base base' : Nat} {f g : NdF} {xs ys : List Value} {F G : List Nat}
theorem OwnT.cons_iff {a : NdD} {k r : NdF} : OwnT w base (.cons a k r) xs F ↔ ∃ v ys F1 F2, xs = ndC a v ++ ys ∧ F = F1 ++ F2 ∧ OwnU w base v k F1 ∧ OwnT w base r ys F2 := by
 constructor
 ·intro ⟨ys, zs, F0, F2, v, h1, h2, h6, h7, h8⟩
  exact ⟨v, ys, _, F2, h1, h2, ⟨zs, F0, rfl, h6, h7⟩, h8⟩
 ·intro ⟨v, ys, F1, F2, h1, h2, ⟨zs, F0, h9, h6, h7⟩, h8⟩
  exact ⟨ys, zs, F0, F2, v, h1, by rw [h2, h9], h6, h7, h8⟩
theorem OwnK.keep {e : TypeId} {k n : Nat} {v : Value} (h : OwnK e k w base v n xs) (hk : ∀ g, v.ownBlock = some g → w'.heap[g]? = w.heap[g]?) : OwnK e k w' base v n xs := by
 refine ⟨h.1, ?_⟩
 rcases h.2 with ⟨rfl, h0⟩ | ⟨g, cap, cur, rfl, hb, hg, hrest⟩
 ·exact .inl ⟨rfl, h0⟩
 ·exact .inr ⟨g, cap, cur, rfl, hb, (hk g rfl).trans hg, hrest⟩
theorem OwnT.keep (hb : base' ≤ base) : ∀ {f : NdF} {xs : List Value} {F : List Nat}, (∀ g, g ∈ F → w'.heap[g]? = w.heap[g]?) → OwnT w base f xs F → OwnT w' base' f xs F := by
 intro f
 induction f with
 | nil => intro xs F _ h; exact h
 | cons a k r ihk ihr =>
  intro xs F hF ⟨ys, zs, F0, F2, v, h1, h2, h6, h7, h8⟩
  subst h2
  exact ⟨ys, zs, F0, F2, v, h1, rfl, (h6.keep (fun g hg => hF g (by simp [hg]))).mono hb, ihk (fun g hg => hF g (by simp [hg])) h7, ihr (fun g hg => hF g (by simp [hg])) h8⟩
theorem OwnU.keep {v : Value} {k : NdF} (h : OwnU w base v k F) (hF : ∀ g, g ∈ F → w'.heap[g]? = w.heap[g]?) (hb : base' ≤ base) : OwnU w' base' v k F := by
 obtain ⟨zs, F0, rfl, h1, h2⟩ := h
 exact ⟨zs, F0, rfl, (h1.keep (fun g hg => hF g (by simp [hg]))).mono hb, h2.keep hb (fun g hg => hF g (by simp [hg]))⟩
theorem OwnK.fresh {e : TypeId} {k n : Nat} {v : Value} (h : OwnK e k w base v n xs) {g : Nat} (hg : v.ownBlock = some g) : Fresh9 base w g := by
 rcases h.2 with ⟨rfl, h0⟩ | ⟨g', cap, cur, rfl, hb, hg', hrest⟩
 ·cases hg
 ·injection hg with hg
  subst hg
  exact ⟨hb, cur, _, hg'⟩
theorem OwnT.fresh : ∀ {f : NdF} {xs : List Value} {F : List Nat}, OwnT w base f xs F → ∀ g, g ∈ F → Fresh9 base w g := by
 intro f
 induction f with
 | nil => intro xs F h g hg; rw [h.2] at hg; cases hg
 | cons a k r ihk ihr =>
  intro xs F ⟨ys, zs, F0, F2, v, h1, h2, h6, h7, h8⟩ g hg
  subst h2
  simp only [List.mem_append, Option.mem_toList] at hg
  rcases hg with (hg | hg) | hg
  ·exact h6.fresh hg
  ·exact ihk h7 g hg
  ·exact ihr h8 g hg
theorem OwnU.fresh {v : Value} {k : NdF} (h : OwnU w base v k F) : ∀ g, g ∈ F → Fresh9 base w g := by
 obtain ⟨zs, F0, rfl, h1, h2⟩ := h
 intro g hg
 simp only [List.mem_append, Option.mem_toList] at hg
 rcases hg with hg | hg
 ·exact h1.fresh hg
 ·exact h2.fresh g hg
theorem OwnT.below (h : OwnT w base f xs F) (hb : Below w.heap.size w w') : OwnT w' base f xs F := h.keep (Nat.le_refl _) (fun g hg => hb.block g (h.fresh g hg).lt)
theorem OwnU.below {v : Value} {k : NdF} (h : OwnU w base v k F) (hb : Below w.heap.size w w') : OwnU w' base v k F := h.keep (fun g hg => hb.block g (h.fresh g hg).lt) (Nat.le_refl _)
theorem OwnK.frv {S : Nat → Prop} {v : Value} {k : NdF} (h : OwnK 42 6 w base v k.len xs) (hr : rowG NdA 6 5 w S noB xs k) (hS : ∀ g, v.ownBlock = some g → S g) : FrV NdA 6 5 w S noB v k := by
 have hh := h
 rcases h.2 with ⟨rfl, h0⟩ | ⟨g, cap, cur, rfl, hb, hg, hnc, hcm, hcs, ht⟩
 ·exact ⟨none, 0, by rw [h0], by omega, fun h => absurd h (by omega)⟩
 ·refine ⟨_, cap, rfl, hnc, fun h0 => ⟨g, 0, rfl, hS g rfl, hr.at (fun j u hj => ?_)⟩⟩
  have hjl : j < xs.length := (List.getElem?_eq_some_iff.1 hj).1
  have hxl : xs.length = k.len * 6 := h.1
  rw [World.ownsRow.cellAt hh (0 + j) (by omega), Nat.zero_add, hj]
theorem OwnK.aligned {n : Nat} {v : Value} (h : OwnK 42 6 w base v n xs) {a : NdD} : ∀ b o m c, (ndC a v)[5]? = some (.slice (some ⟨b, o, none⟩) m c) → o % 6 = 0 := by
 intro b o m c e
 have e2 : v = .slice (some ⟨b, o, none⟩) m c := by simpa using e
 rcases h.2 with ⟨rfl, h0⟩ | ⟨g, cap, cur, rfl, hrest⟩
 ·cases e2
 ·injection e2 with e2
  injection e2 with e2
  injection e2 with _ e3
  rw [← e3]
theorem OwnT.row {S : Nat → Prop} : ∀ {f : NdF} {xs : List Value} {F : List Nat}, (∀ g, g ∈ F → S g) → OwnT w base f xs F → rowG NdA 6 5 w S noB xs f := by
 intro f
 induction f with
 | nil => intro xs F _ h; exact h.1
 | cons a k r ihk ihr =>
  intro xs F hF ⟨ys, zs, F0, F2, v, h1, h2, h6, h7, h8⟩
  subst h2
  have hv : v.oneCell' = true := by obtain ⟨A, c, rfl⟩ := h6.shape; rfl
  exact ⟨ndC a v, ys, h1, ⟨rfl, ⟨⟨v, rfl, hv⟩, h6.aligned⟩, v, rfl, h6.frv (ihk (fun g hg => hF g (by simp [hg])) h7) (fun g hg => hF g (by simp [hg]))⟩, ihr (fun g hg => hF g (by simp [hg])) h8⟩
theorem OwnU.frv {v : Value} {k : NdF} (h : OwnU w base v k F) : FrV NdA 6 5 w (fun g => g ∈ F) noB v k := by
 obtain ⟨zs, F0, rfl, h1, h2⟩ := h
 exact h1.frv (h2.row (fun g hg => by simp [hg])) (fun g hg => by simp [hg])
theorem OwnU.shape {v : Value} {k : NdF} (h : OwnU w base v k F) : ∃ A c, v = .slice A k.len c := by
 obtain ⟨zs, F0, rfl, h1, h2⟩ := h
 exact h1.shape
theorem OwnU.new {v : Value} {a : NdD} {k : NdF} (h : OwnU w base v k F) : NewT base w (ndC a v) (a, k) := by
 refine ⟨fun g => g ∈ F, h.fresh, rfl, ⟨⟨v, rfl, ?_⟩, ?_⟩, v, rfl, h.frv⟩
 ·obtain ⟨A, c, rfl⟩ := h.shape; rfl
 ·obtain ⟨zs, F0, rfl, h1, h2⟩ := h
  exact h1.aligned
theorem OwnU.lies {v : Value} {a : NdD} {k : NdF} (h : OwnU w base v k F) : LieN w (ndC a v) (a, k) := (h.new (a := a)).lies
theorem OwnT.app (h2 : OwnT w base g ys G) : ∀ {f : NdF} {xs : List Value} {F : List Nat}, OwnT w base f xs F → OwnT w base (f.app g) (xs ++ ys) (F ++ G) := by
 intro f
 induction f with
 | nil => intro xs F h; rw [h.1, h.2]; exact h2
 | cons a k r ihk ihr =>
  intro xs F ⟨zs, us, F0, F2, v, h1, h2, h6, h7, h8⟩
  subst h1 h2
  exact ⟨zs ++ ys, us, F0, F2 ++ G, v, by simp, by simp, h6, h7, ihr h8⟩
theorem OwnT.one {a : NdD} {k : NdF} {v : Value} (h : OwnU w base v k F) : OwnT w base (.cons a k .nil) (ndC a v) F := OwnT.cons_iff.2 ⟨v, [], F, [], by simp, by simp, h, rfl, rfl⟩
theorem OwnT.split (n : Nat) : ∀ {f : NdF} {xs : List Value} {F : List Nat}, OwnT w base f xs F → ∃ xs1 xs2 F1 F2, xs = xs1 ++ xs2 ∧ F = F1 ++ F2 ∧ OwnT w base (Fr.take n f) xs1 F1 ∧ OwnT w base (Fr.drop n f) xs2 F2 := by
 induction n with
 | zero => intro f xs F h; exact ⟨[], xs, [], F, rfl, rfl, by cases f <;> exact ⟨rfl, rfl⟩, by cases f <;> exact h⟩
 | succ n ih =>
  intro f xs F h
  cases f with
  | nil => exact ⟨[], xs, [], F, rfl, rfl, ⟨rfl, rfl⟩, h⟩
  | cons a k r =>
   obtain ⟨v, ys, F1, F2, rfl, rfl, h1, h2⟩ := OwnT.cons_iff.1 h
   obtain ⟨ys1, ys2, G1, G2, rfl, rfl, h3, h4⟩ := ih h2
   exact ⟨ndC a v ++ ys1, ys2, F1 ++ G1, G2, by simp, by simp, OwnT.cons_iff.2 ⟨v, ys1, F1, G1, rfl, rfl, h1, h3⟩, h4⟩
theorem OwnT.len (h : OwnT w base f xs F) : xs.length = f.len * 6 := (h.row (S := fun g => g ∈ F) (fun _ h => h)).len
theorem OwnT.at (h : OwnT w base f xs F) {i : Nat} {a : NdD} {k : NdF} (hy : f.get? i = some (a, k)) : ∃ xs1 v xs2 F1 Fk F2, xs = xs1 ++ (ndC a v ++ xs2) ∧ F = F1 ++ (Fk ++ F2) ∧ xs1.length = i * 6 ∧ OwnT w base (Fr.take i f) xs1 F1 ∧ OwnU w base v k Fk ∧ OwnT w base (Fr.drop (i + 1) f) xs2 F2 := by
 obtain ⟨xs1, xs2, F1, F2, rfl, rfl, h1, h2⟩ := h.split i
 rw [(Fr.get_drop hy).1] at h2
 obtain ⟨v, ys, G1, G2, rfl, rfl, h3, h4⟩ := OwnT.cons_iff.1 h2
 exact ⟨xs1, v, ys, F1, G1, G2, rfl, rfl, by rw [h1.len, Fr.len_take _ _ (by have := Fr.get_lt hy; omega)], h1, h3, h4⟩
end
def Keeps (base : Nat) (F : List Nat) (w w' : World) : Prop := Below base w w' ∧ ∀ g, g < w.heap.size → g ∉ F → w'.heap[g]? = w.heap[g]?
theorem Keeps.refl (base : Nat) (F : List Nat) (w : World) : Keeps base F w w := ⟨Below.refl _ _, fun _ _ _ => rfl⟩
theorem Keeps.trans {base : Nat} {F G : List Nat} {a b c : World} (h : Keeps base F a b) (k : Keeps base G b c) (hG : ∀ g, g ∈ G → g ∈ F ∨ a.heap.size ≤ g) : Keeps base F a c :=
 ⟨h.1.trans k.1, fun g hg hF => (k.2 g (Nat.lt_of_lt_of_le hg h.1.size) (fun hm => by rcases hG g hm with h' | h'; exact hF h'; omega)).trans (h.2 g hg hF)⟩
theorem Blk.newA {w : World} {g : Nat} (h : w.heap.size = g) (t : TypeId) (cs : Array Value) : Blk (w.alloc (.cells cs t)) g t cs := by subst h; exact Blk.new w t cs
theorem LieN.one {b : Nat} {w : World} {cs : List Value} {x : Nd} (h : LieB b w cs x) : ∃ v, cs = ndC x.1 v ∧ v.oneCell' = true := by
 obtain ⟨A, c, h, _⟩ := h.shape
 exact ⟨_, h, rfl⟩
def NodeAt (w : World) (g o : Nat) (x : Nd) : Prop := g < w.heap.size ∧ ∃ A c, (∀ j u, (ndC x.1 (.slice A x.2.len c))[j]? = some u → w.cell? ⟨g, o + j, none⟩ = some u) ∧ RowT w.heap.size w (.slice A x.2.len c) x.2
theorem NodeAt.below {w w' : World} {g o : Nat} {x : Nd} (h : NodeAt w g o x) (hb : Below w.heap.size w w') : NodeAt w' g o x := by
 obtain ⟨h0, A, c, h1, h2⟩ := h
 exact ⟨Nat.lt_of_lt_of_le h0 hb.size, A, c, fun j u hu => (hb.cell (p := ⟨g, o + j, none⟩) h0).trans (h1 j u hu), h2.below hb⟩
def CopI (w : World) (M : Nat) (f : NdF) (v : Value) (j : Nat) (wr : World) : Prop := ∃ zs rest F, OwnK 42 6 wr w.heap.size v f.len (zs ++ rest) ∧ OwnT wr w.heap.size (Fr.take j f) zs F ∧ rowG NdT 6 5 w (fun g => g < w.heap.size) noB rest (Fr.drop j f) ∧ F.Nodup ∧ ∀ g, g ∈ F → M ≤ g
theorem CopI.keep {w wr wr' : World} {M j : Nat} {f : NdF} {v : Value} (h : CopI w M f v j wr) (hk : ∀ g, (v.ownBlock = some g ∨ M ≤ g) → g < wr.heap.size → wr'.heap[g]? = wr.heap[g]?) : CopI w M f v j wr' := by
 obtain ⟨zs, rest, F, h1, h2, h3, h4, h5⟩ := h
 exact ⟨zs, rest, F, h1.keep (fun g hg => hk g (.inl hg) (h1.lt g hg).2), h2.keep (Nat.le_refl _) (fun g hg => hk g (.inr (h5 g hg)) (h2.fresh g hg).lt), h3, h4, h5⟩
def InsP9 (base : Nat) (v : Value) (n : Nat) (xs : List Value) (w : World) (r : Ending) (w' : World) : Prop :=
 ∃ v', r = .returned v' ∧ OwnK 42 6 w' base v' (n + 1) xs ∧ w.grownBy w' v.ownBlock ∧ (v'.ownBlock = v.ownBlock ∨ ∃ g, v'.ownBlock = some g ∧ w.heap.size ≤ g)
theorem InsP9.app {base n : Nat} {v v' : Value} {xs : List Value} {w w' : World} (h : AppK 42 6 w base v (n + 1) xs v' w') : InsP9 base v n xs w (.returned v') w' :=
 ⟨v', rfl, h.1, h.2.1, by rcases h.2.2.1 with h | h; exact .inl h; exact .inr ⟨_, h, Nat.le_refl _⟩⟩
def InsPs (base : Nat) (v : Value) (n : Nat) (xs : List Value) (w : World) (r : Ending) (w' : World) : Prop :=
 ∃ v', r = .returned v' ∧ OwnK 52 2 w' base v' (n + 1) xs ∧ w.grownBy w' v.ownBlock ∧ (v'.ownBlock = v.ownBlock ∨ ∃ g, v'.ownBlock = some g ∧ w.heap.size ≤ g)
theorem InsPs.app {base n : Nat} {v v' : Value} {xs : List Value} {w w' : World} (h : AppK 52 2 w base v (n + 1) xs v' w') : InsPs base v n xs w (.returned v') w' :=
 ⟨v', rfl, h.1, h.2.1, by rcases h.2.2.1 with h | h; exact .inl h; exact .inr ⟨_, h, Nat.le_refl _⟩⟩
structure KeepN (N : Nat → Prop) (m : Nat) (A B : World) : Prop where
 os : B.os = A.os
 tape : B.tape = A.tape
 output : B.output = A.output
 size : A.heap.size ≤ B.heap.size
 block : ∀ k, k < A.heap.size → (N k ∨ m ≤ k) → B.heap[k]? = A.heap[k]?
section
variable {N N' : Nat → Prop} {m m' : Nat} {A B C : World}
theorem KeepN.refl (N : Nat → Prop) (m : Nat) (A : World) : KeepN N m A A := ⟨rfl, rfl, rfl, Nat.le_refl _, fun _ _ _ => rfl⟩
theorem KeepN.trans (h : KeepN N m A B) (k : KeepN N m B C) : KeepN N m A C :=
 ⟨k.os.trans h.os, k.tape.trans h.tape, k.output.trans h.output, Nat.le_trans h.size k.size, fun i hi hn => (k.block i (Nat.lt_of_lt_of_le hi h.size) hn).trans (h.block i hi hn)⟩
theorem KeepN.below (h : Below A.heap.size A B) : KeepN N m A B := ⟨h.os, h.tape, h.output, h.size, fun k hk _ => h.block k hk⟩
theorem KeepN.putObj (A : World) (l : Nat) (o : Obj) (h1 : ¬ N l) (h2 : l < m) : KeepN N m A (A.putObj l o) :=
 ⟨rfl, rfl, rfl, by simp, fun k _ hk => World.putObj_heap_other (by rintro rfl; rcases hk with hk | hk; exact h1 hk; omega)⟩
theorem KeepN.mono (h : KeepN N m A B) (hN : ∀ k, k < A.heap.size → (N' k ∨ m' ≤ k) → N k ∨ m ≤ k) : KeepN N' m' A B := ⟨h.os, h.tape, h.output, h.size, fun k hk hn => h.block k hk (hN k hk hn)⟩
theorem KeepN.from (h : KeepN N m A B) (hm : m ≤ m') : KeepsFrom m' A B := ⟨h.size, fun k o hk ho _ => (h.block k (Array.getElem?_eq_some_iff.1 ho).1 (.inr (Nat.le_trans hm hk))).trans ho⟩
end
def StB (B : Nat) (J : World → Prop) : Prop := ∀ A A', J A → Below B A A' → J A'
theorem StB.mono {B B' : Nat} {J : World → Prop} (h : StB B J) (hb : B ≤ B') : StB B' J := fun A A' hj hB => h A A' hj (hB.mono hb)
theorem StB.putObj {B : Nat} {J : World → Prop} (h : StB B J) {A : World} (l : Nat) (o : Obj) (hl : B ≤ l) (hj : J A) : J (A.putObj l o) :=
 h A _ hj ⟨rfl, rfl, rfl, by simp, fun k hk => World.putObj_heap_other (by omega)⟩
theorem StB.below {w : World} {B : Nat} : StB B (fun W => Below B w W) := fun _ _ h k => h.trans k
def StopY (B : Nat) (Jx : World → Prop) (W1 : World) (e : Ending) (W' : World) : Prop := e = .returned (.bool false) ∧ Jx W' ∧ KeepsFrom B W1 W'
def SeqOne (P : Program) (g : Nat) (lb : Array Value) (Enc : Nat → Array Value → World → Prop) (has : Bool) (w : World) : Prop :=
 ∀ (l : Nat) (Jx : World → Prop) (W : World), Below w.heap.size w W → OwnFrom W.heap.size (fun (_ : Unit) V => Jx V) →
  (∀ args W1, Below W.heap.size W W1 → Enc W.heap.size args W1 → ∀ m, YieldAt Fence.wide m P l args W1 (StopY W.heap.size Jx W1)) →
  Calls P g (#[.func (.yield l) #[] #[]] ++ lb) W fun e W' => (∃ v, e = .returned v) ∧ (if has = true then Jx W' else Below W.heap.size W W')
abbrev wideR (ro : Option Nat) : Fence := { Fence.wide with round := ro }
section
variable {ro : Option Nat} {n : Nat} {P : Program} {ops : Array Oper} {Q : Exit → Act → World → Prop} {S : World → Prop}
def HeldI (ro : Option Nat) (n : Nat) (P : Program) (ops : Array Oper) (Q : Exit → Act → World → Prop) (D : List Nat) : (World → Prop) → Nat → Array Bool → Act → World → Prop
 | _, 0, listed, a, w => Region.ready .any ops listed = [] ∧ Q .normal a w
 | S, fuel + 1, listed, a, w => (Region.ready .any ops listed = [] → Q .normal a w) ∧
   ∀ i ∈ Region.ready .any ops listed, wpOpIn (wideR ro) n P ops Q i (fun a' w' => if D.contains i = true then HeldI ro n P ops Q D (fun _ => True) fuel (listed.setIfInBounds i true) a' w' else S w' ∧ HeldI ro n P ops Q D S fuel (listed.setIfInBounds i true) a' w') a w
variable {D : List Nat}
def waitB (ops : Array Oper) (D : List Nat) (listed : Array Bool) (i : Nat) (X : List Nat) : Bool :=
 X.all (fun x => !(listed.getD x true)) && X.all (fun x => x == i || ((ops[x]?).map (fun o => o.after.any (fun e => Region.binds .any e && X.contains e.on))).getD false) && D.all (fun d => X.contains d || listed.getD d true)
structure WaitX (ops : Array Oper) (D : List Nat) (listed : Array Bool) (i : Nat) (X : List Nat) : Prop where
 not : ∀ x ∈ X, listed.getD x true = false
 dep : ∀ x ∈ X, x ≠ i → ∃ o, ops[x]? = some o ∧ ∃ e ∈ o.after, Region.binds .any e = true ∧ e.on ∈ X
 all : ∀ d ∈ D, d ∈ X ∨ listed.getD d true = true
theorem WaitX.of {listed : Array Bool} {i : Nat} {X : List Nat} (h : waitB ops D listed i X = true) : WaitX ops D listed i X := by
 unfold waitB at h
 simp only [Bool.and_eq_true, List.all_eq_true] at h
 obtain ⟨⟨h1, h2⟩, h3⟩ := h
 refine ⟨fun x hx => by simpa using h1 x hx, fun x hx hne => ?_, fun d hd => by simpa using h3 d hd⟩
 have h := h2 x hx
 simp only [Bool.or_eq_true, beq_iff_eq, hne, false_or] at h
 cases ho : ops[x]? with
 | none => rw [ho] at h; cases h
 | some o =>
  rw [ho] at h
  simp only [Option.map_some, Option.getD_some, Array.any_eq_true', Bool.and_eq_true, List.contains_iff_mem] at h
  obtain ⟨e, he, hb, hm⟩ := h
  exact ⟨o, rfl, e, he, hb, hm⟩
theorem WaitX.ready {listed : Array Bool} {i j : Nat} {X : List Nat} (h : WaitX ops D listed i X) (hj : j ∈ Region.ready .any ops listed) (hne : j ≠ i) : j ∉ X := by
 intro hx
 obtain ⟨o, ho, e, he, hb, hm⟩ := h.dep j hx hne
 obtain ⟨_, o', ho', hall⟩ := mem_ready.1 hj
 rw [ho] at ho'
 injection ho' with ho'
 subst ho'
 have h1 := hall e he hb
 have h0 := h.not e.on hm
 by_cases hl : e.on < listed.size
 ·rw [Array.getD_eq_getD_getElem?, Array.getElem?_eq_getElem hl] at h0 h1
  simp only [Option.getD_some] at h0 h1
  rw [h0] at h1
  cases h1
 ·rw [Array.getD_eq_getD_getElem?, Array.getElem?_eq_none (by omega)] at h1
  cases h1
theorem WaitX.step {listed : Array Bool} {i j : Nat} {X : List Nat} (h : WaitX ops D listed i X) (hj : j ∈ Region.ready .any ops listed) (hne : j ≠ i) : WaitX ops D (listed.setIfInBounds j true) i X := by
 have hx := h.ready hj hne
 refine ⟨fun x hm => ?_, h.dep, fun d hd => ?_⟩
 ·rw [getD_set_ne true (fun e => hx (by rw [e]; exact hm))]
  exact h.not x hm
 ·rcases h.all d hd with h1 | h1
  ·exact .inl h1
  ·refine .inr ?_
   rcases Decidable.em (j = d) with e | e
   ·subst e
    have h0 := (mem_ready.1 hj).1
    rw [h1] at h0
    cases h0
   ·rw [getD_set_ne true e]; exact h1
def ReadyI (ro : Option Nat) (n : Nat) (P : Program) (ops : Array Oper) (Q : Exit → Act → World → Prop) (D : List Nat) (S : World → Prop) (fuel : Nat) (listed : Array Bool) (a : Act) (w : World) (rs : List Nat) : Prop :=
 ∀ i ∈ rs, wpOpIn (wideR ro) n P ops Q i (fun a' w' => if D.contains i = true then HeldI ro n P ops Q D (fun _ => True) fuel (listed.setIfInBounds i true) a' w' else S w' ∧ HeldI ro n P ops Q D S fuel (listed.setIfInBounds i true) a' w') a w
theorem ReadyI.nil {fuel : Nat} {listed : Array Bool} {a : Act} {w : World} : ReadyI ro n P ops Q D S fuel listed a w [] := fun _ h => by cases h
theorem wpOpIn_at {i : Nat} {o : Oper} {a : Act} {w : World} {K : Act → World → Prop} (ho : ops[i]? = some o) (h : if Region.wanted o (yielded ops a.tmps) = true then Oper.wpIn (wideR ro) n P o a w K Q else K (a.put o.dst undef) w) : wpOpIn (wideR ro) n P ops Q i K a w := by
 unfold wpOpIn
 simp only [ho]
 split at h
 ·rename_i hw; simp only [hw, if_true]; exact h
 ·rename_i hw
  have hw : Region.wanted o (yielded ops a.tmps) = false := by simpa using hw
  simp only [hw, Bool.false_eq_true, if_false]
  exact ⟨fun f _ => trivial, h⟩
theorem ReadyI.cons {fuel : Nat} {listed : Array Bool} {a : Act} {w : World} {i : Nat} {o : Oper} {rs : List Nat} (ho : ops[i]? = some o) (hd : D.contains i = false)
  (h : ∀ K' : Act → World → Prop, Shut (∀ a w, S w → (S w → HeldI ro n P ops Q D S fuel (listed.setIfInBounds i true) a w) → K' a w) → if Region.wanted o (yielded ops a.tmps) = true then Oper.wpIn (wideR ro) n P o a w K' Q else K' (a.put o.dst undef) w)
  (hs : ReadyI ro n P ops Q D S fuel listed a w rs) : ReadyI ro n P ops Q D S fuel listed a w (i :: rs) := fun j hj => by
 rcases List.mem_cons.1 hj with rfl | hj
 ·exact wpOpIn_at ho (h _ (fun a w hS hW => by rw [if_neg (by rw [hd]; decide)]; exact ⟨hS, hW hS⟩))
 ·exact hs j hj
end
theorem get_one (x : Nd) (s : Stp) : GetX x [s] = match gtF s x.2 with | none => (noN, false) | some y => (y, true) := by
 unfold GetX
 simp only [getX]
 cases gtF s x.2 <;> rfl
theorem get_is (x : Nd) (s : Stp) : (GetX x [s]).2 = (gtF s x.2).isSome := by rw [get_one]; cases gtF s x.2 <;> rfl
theorem rnamed10_any (pa : NdD) (pf : NdF) (Ap : Option Addr) (cp : Nat) (a : NdD) (f : NdF) (A : Option Addr) (c : Nat) (nm : List UInt8) (w : World) (hp : RowT w.heap.size w (.slice Ap pf.len cp) pf) (hn : RowT w.heap.size w (.slice A f.len c) f) (hfp : pf.size ≤ 1000000) (hfn : f.size ≤ 1000000) :
  Calls Tryz.prog 98 #[.agg (cN pa (.slice Ap pf.len cp)), .agg (cN a (.slice A f.len c)), .string (txt nm)] w (Ans9 (.bool (namedB pf (gtF (nm, []) f))) w) := by
 have hx1 : Below w.heap.size w (w.alloc (.cells (cN pa (.slice Ap pf.len cp)) 42)) := bAl
 have hx2 : Below w.heap.size w ((w.alloc (.cells (cN pa (.slice Ap pf.len cp)) 42)).alloc (.cells (cN a (.slice A f.len c)) 42)) := hx1.alloc hx1.size _
 have hx3 : Below w.heap.size w (((w.alloc (.cells (cN pa (.slice Ap pf.len cp)) 42)).alloc (.cells (cN a (.slice A f.len c)) 42)).alloc (.cells #[.string (txt nm), .string ⟨#[]⟩] 52)) := hx2.alloc hx2.size _
 have hz2 : (((w.alloc (.cells (cN pa (.slice Ap pf.len cp)) 42)).alloc (.cells (cN a (.slice A f.len c)) 42))).heap.size = w.heap.size + 2 := by simp
 have hk1 : Blk (((w.alloc (.cells (cN pa (.slice Ap pf.len cp)) 42)).alloc (.cells (cN a (.slice A f.len c)) 42)).alloc (.cells #[.string (txt nm), .string ⟨#[]⟩] 52)) w.heap.size 42 (cN pa (.slice Ap pf.len cp)) := ((Blk.new w 42 (cN pa (.slice Ap pf.len cp))).alloc _).alloc _
 have hk2 : Blk (((w.alloc (.cells (cN pa (.slice Ap pf.len cp)) 42)).alloc (.cells (cN a (.slice A f.len c)) 42)).alloc (.cells #[.string (txt nm), .string ⟨#[]⟩] 52)) (w.heap.size + 1) 42 (cN a (.slice A f.len c)) := (Blk.newA (w := (w.alloc (.cells (cN pa (.slice Ap pf.len cp)) 42))) (by simp) _ _).alloc _
 have HG1 : Hid (Calls Tryz.prog 113 #[.agg (ndC a (.slice A f.len c)).toArray, .slice (some ⟨(((w.alloc (.cells (cN pa (.slice Ap pf.len cp)) 42)).alloc (.cells (cN a (.slice A f.len c)) 42))).heap.size, 0, none⟩) 1 1] (((w.alloc (.cells (cN pa (.slice Ap pf.len cp)) 42)).alloc (.cells (cN a (.slice A f.len c)) 42)).alloc (.cells #[.string (txt nm), .string ⟨#[]⟩] 52)) (RTreP (GetX (a, f) [(nm, [])]).1 (.bool (GetX (a, f) [(nm, [])]).2) (((w.alloc (.cells (cN pa (.slice Ap pf.len cp)) 42)).alloc (.cells (cN a (.slice A f.len c)) 42)).alloc (.cells #[.string (txt nm), .string ⟨#[]⟩] 52)))) :=
  hHd ((rget_any ((((w.alloc (.cells (cN pa (.slice Ap pf.len cp)) 42)).alloc (.cells (cN a (.slice A f.len c)) 42)).alloc (.cells #[.string (txt nm), .string ⟨#[]⟩] 52))).heap.size [(nm, [])] (a, f) _ _ (((w.alloc (.cells (cN pa (.slice Ap pf.len cp)) 42)).alloc (.cells (cN a (.slice A f.len c)) 42)).alloc (.cells #[.string (txt nm), .string ⟨#[]⟩] 52)) (Nat.le_refl _) (LieB.make (hn.under hx3 (Nat.le_refl _) hx3.size)) (OwnS.one (w := ((w.alloc (.cells (cN pa (.slice Ap pf.len cp)) 42)).alloc (.cells (cN a (.slice A f.len c)) 42))) (nm, []) (Nat.le_refl _)).way hfn).mono fun _ _ h => h.r)
 have HP := hHd (And.intro hp hfp)
 have HX3 := hHd hx3
 have HK := hHd (And.intro hk1 hk2)
 rw [hz2, get_one] at HG1
 obtain ⟨o, ho⟩ : ∃ o, o = gtF (nm, []) f := ⟨_, rfl⟩
 rw [← ho]
 rw [show gtF (nm, []) ((a, f) : Nd).2 = o from ho.symm] at HG1
 unfold ndC at HG1
 have HB2 : Hid (Blk ((w.alloc (.cells (cN pa (.slice Ap pf.len cp)) 42)).alloc (.cells (cN a (.slice A f.len c)) 42)) (w.heap.size + 1) 42 (cN a (.slice A f.len c))) := hHd (Blk.newA (w := (w.alloc (.cells (cN pa (.slice Ap pf.len cp)) 42))) (by simp) _ _)
 clear hp hn hfp hfn hx1 hx2 hx3 hk1 hk2 hz2 ho
 obtain ⟨q0, q1, q2, q3, q4, q5⟩ := cl6 HB2.out
 go_enter Tryz.func98, Tryz.ntmps98
 cases o with
 | none =>
  simp only at HG1
  go_wp2_with fail
  refine HG1.out.mono ?_
  rintro r w4 ⟨cs, rfl, hl, hb⟩
  obtain ⟨A4, c4, rfl, -⟩ := hl.shape
  have HB4 := hHd (HX3.out.trans (hb.mono HX3.out.size))
  clear hl hb q0 q1 q2 q3 q4 q5
  unfold ndC
  go_wp2
  go_ret
  exact ⟨rfl, HB4.out.alloc HB4.out.size _⟩
 | some y =>
  simp only at HG1
  obtain ⟨y, yk⟩ := y
  go_wp2_with fail
  refine HG1.out.mono ?_
  rintro r w4 ⟨cs, rfl, hl, hb⟩
  obtain ⟨A4, c4, rfl, -⟩ := hl.shape
  simp only at *
  have HB4 := hHd (HX3.out.trans (hb.mono HX3.out.size))
  have hP4 := HK.out.1.below hb HK.out.1.lt
  have hy1 : Below w4.heap.size w4 (w4.alloc (.cells (cN y (.slice A4 yk.len c4)) 42)) := bAl
  have hy2 : Below w4.heap.size w4 ((w4.alloc (.cells (cN y (.slice A4 yk.len c4)) 42)).alloc (.cells #[.string (txt nClass), .string (txt y.text)] 52)) := hy1.alloc hy1.size _
  have hy3 : Below w.heap.size w ((w4.alloc (.cells (cN y (.slice A4 yk.len c4)) 42)).alloc (.cells #[.string (txt nClass), .string (txt y.text)] 52)) := HB4.out.trans (hy2.mono HB4.out.size)
  have hz4 : ((w4.alloc (.cells (cN y (.slice A4 yk.len c4)) 42))).heap.size = w4.heap.size + 1 := by simp
  have HG2 : Hid (Calls Tryz.prog 113 #[.agg (ndC pa (.slice Ap pf.len cp)).toArray, .slice (some ⟨((w4.alloc (.cells (cN y (.slice A4 yk.len c4)) 42))).heap.size, 0, none⟩) 1 1] ((w4.alloc (.cells (cN y (.slice A4 yk.len c4)) 42)).alloc (.cells #[.string (txt nClass), .string (txt y.text)] 52)) (RTreP (GetX (pa, pf) [(nClass, y.text)]).1 (.bool (GetX (pa, pf) [(nClass, y.text)]).2) ((w4.alloc (.cells (cN y (.slice A4 yk.len c4)) 42)).alloc (.cells #[.string (txt nClass), .string (txt y.text)] 52)))) :=
   hHd ((rget_any (((w4.alloc (.cells (cN y (.slice A4 yk.len c4)) 42)).alloc (.cells #[.string (txt nClass), .string (txt y.text)] 52))).heap.size [(nClass, y.text)] (pa, pf) _ _ ((w4.alloc (.cells (cN y (.slice A4 yk.len c4)) 42)).alloc (.cells #[.string (txt nClass), .string (txt y.text)] 52)) (Nat.le_refl _) (LieB.make (HP.out.1.under hy3 (Nat.le_refl _) hy3.size)) (OwnS.one (w := (w4.alloc (.cells (cN y (.slice A4 yk.len c4)) 42))) (nClass, y.text) (Nat.le_refl _)).way HP.out.2).mono fun _ _ h => h.r)
  rw [hz4] at HG2
  have HP5 := hHd (hP4.below hy1 hP4.lt)
  have HY5 := hHd (Blk.new w4 42 (cN y (.slice A4 yk.len c4)))
  have HY3 := hHd hy3
  have HTH : Hid (namedB pf (some (y, yk)) = (gtF (nClass, y.text) pf).isSome) := hHd rfl
  obtain ⟨R, hz⟩ : ∃ R, R = GetX (pa, pf) [(nClass, y.text)] := ⟨_, rfl⟩
  have hbz := get_is (pa, pf) (nClass, y.text)
  rw [← hz] at HG2 hbz
  obtain ⟨⟨za, zk⟩, bz⟩ := R
  simp only at HG2 hbz
  rw [← hbz] at HTH
  clear hz hbz hl hb hP4 hy1 hy2 hy3 hz4 q0 q1 q2 q3 q4 q5
  obtain ⟨q0, q1, q2, q3, q4, q5⟩ := cl6 HP5.out
  obtain ⟨p0, p1, p2, p3, p4, p5⟩ := cl6 HY5.out
  unfold ndC at HG2 ⊢
  go_wp2_with fail
  refine HG2.out.mono ?_
  rintro r w5 ⟨cs, rfl, hl5, hb5⟩
  obtain ⟨A5, c5, rfl, -⟩ := hl5.shape
  have HB5 := hHd (HY3.out.trans (hb5.mono HY3.out.size))
  clear hl5 hb5 q0 q1 q2 q3 q4 q5 p0 p1 p2 p3 p4 p5
  unfold ndC
  go_wp2
  go_ret
  exact ⟨by rw [HTH.out]; rfl, HB5.out.alloc HB5.out.size _⟩
end Go.Proofs.YtleidkpdpabkpaaGreatDoor
