/- DfvF DfvI -/
import Derived.Test.YthdhchhpjoghlaaAM0
import Derived.Test.YthdhchhpjoghlaaAM9
import Derived.Test.YthdhchhpjoghlaaAM21
import Derived.Test.YthdhchhpjoghlaaAM22
import Derived.RangeFuncBox
import Derived.Shelf.Abstract
import Derived.Shelf.RegionOpen
import Derived.OwnWalkIn
import Derived.TacticsInMore
import Derived.LoopNIn
import Derived.LoopIn
import Derived.Outline
import Derived.Laws.EntriesVeiled
set_option linter.unusedSimpArgs false
set_option linter.unusedVariables false
namespace Go.Proofs.Ythdhchhpjoghlaa
open Go.RowKit
attribute [local go_sem] Oper.semAt_some
structure EltE where
 e : EdD
 cs : List Value
 i : Nat
def encE (x : EltE) : Array Value := #[.int .i64 (x.i : Int), .agg x.cs.toArray]
def KpE (m R : Nat) (A B : World) : Prop := B.os = A.os ∧ B.tape = A.tape ∧ B.output = A.output ∧ A.heap.size ≤ B.heap.size ∧ ∀ k, k < m → k < A.heap.size → k ≠ R → B.heap[k]? = A.heap[k]?
theorem KpE.refl (m R : Nat) (A : World) : KpE m R A A := ⟨rfl, rfl, rfl, Nat.le_refl _, fun _ _ _ _ => rfl⟩
theorem KpE.trans {m R : Nat} {A B C : World} (h : KpE m R A B) (k : KpE m R B C) : KpE m R A C :=
 ⟨k.1.trans h.1, k.2.1.trans h.2.1, k.2.2.1.trans h.2.2.1, Nat.le_trans h.2.2.2.1 k.2.2.2.1, fun i hi hs hn => (k.2.2.2.2 i hi (Nat.lt_of_lt_of_le hs h.2.2.2.1) hn).trans (h.2.2.2.2 i hi hs hn)⟩
theorem KpE.below {m R : Nat} {A B : World} (h : Below A.heap.size A B) : KpE m R A B := ⟨h.os, h.tape, h.output, h.size, fun k _ hs _ => h.block k hs⟩
theorem KpE.grown {m R : Nat} {A B : World} {row : Option Nat} (h : A.grownBy B row) (hr : ∀ k, row = some k → m ≤ k) : KpE m R A B :=
 ⟨h.os, h.tape, h.output, h.size, fun k hk hs _ => h.block k hs (fun e => by have := hr k e.symm; omega)⟩
theorem KpE.putObj {m R : Nat} (W : World) (l : Nat) (o : Obj) (h : m ≤ l) : KpE m R W (W.putObj l o) :=
 ⟨rfl, rfl, rfl, by simp, fun k hk _ _ => World.putObj_heap_other (by omega)⟩
theorem KpE.set {m R : Nat} (W : World) (v : Value) : KpE m R W (W.setCell ⟨R, 0, none⟩ v) :=
 ⟨rfl, rfl, rfl, by simp [World.setCell], fun k _ _ hn => Below.heap_setCell _ _ _ _ hn⟩
def GE (b : Nat) (l : List EdD) (x : EltE) (W : World) : Prop := l[x.i]? = some x.e ∧ EdS (fun g => g < b) W x.cs x.e ∧ b ≤ W.heap.size
def SE (l : List EdD) (xs : List EltE) (_ : World) : Prop := xs.map (·.e) = l.reverse
theorem gE_own {b B : Nat} (l : List EdD) (h : b ≤ B) : OwnFrom B (GE b l) := by
 intro x A C row ⟨h1, h2, h3⟩ hg hr
 exact ⟨h1, h2.keep (fun g hk => hg.block g (Nat.lt_of_lt_of_le hk h3) (fun e => by have := (hr g e.symm).1; have : g < b := hk; omega)) (fun _ h => h), Nat.le_trans h3 hg.size⟩
theorem back_any (A : Option Addr) (n c : Nat) (w : World) : Calls Try.prog 34 #[.slice A n c] w fun e w' => e = .returned (.func (.func 46) #[] #[.pointer (some ⟨w.heap.size, 0, none⟩)]) ∧ w' = w.alloc (.cells #[.slice A n c] 31) := by
 have hmf : ∀ (fn : Fn) (first cap : Array Value) (w : World), (Instr.makeFunc fn first cap).run Try.prog w = .ok (.func fn first cap) w := fun _ _ _ _ => rfl
 go_enter Try.func34, Try.ntmps34
 go_wp2
 go_ret
 exact ⟨rfl, rfl⟩
theorem rev_drop {l : List EdD} {i : Nat} {e : EdD} (h : l[i]? = some e) : (l.drop i).reverse = (l.drop (i + 1)).reverse ++ [e] := by
 have hj : i < l.length := (List.getElem?_eq_some_iff.1 h).1
 have hd : l.drop i = e :: l.drop (i + 1) := by
  rw [List.drop_eq_getElem_cons hj]
  rw [List.getElem?_eq_getElem hj] at h
  injection h with h
  rw [h]
 rw [hd, List.reverse_cons]
set_option maxRecDepth 100000 in
set_option maxHeartbeats 4000000 in
theorem back1_in (n : Nat) (h1 : 1 ≤ n) (L bx b m R : Nat) (l : List EdD) (A0 : Option Addr) (c : Nat) (J Jx : List EltE → World → Prop) (hbm : b ≤ m) (hbx : bx < m) (hbR : bx ≠ R) (hRb : b ≤ R)
  (hY : ∀ pre x W, J pre W → GE b l x W → pre.length < l.length → YieldAt Fence.wide (n - 1) Try.prog L (encE x) W fun e W' =>
   ((e = .returned (.bool true) ∧ J (pre ++ [x]) W') ∨ (e = .returned (.bool false) ∧ Jx (pre ++ [x]) W')) ∧ KpE m R W W')
  (W : World) (hm : m ≤ W.heap.size) (hB : Blk W bx 31 #[.slice A0 l.length c]) (hv : EdsV (fun g => g < b) W (.slice A0 l.length c) l) (hl : l.length ≤ 1000000) (h0 : J [] W) :
  CallsIn Fence.wide n Try.prog 46 #[.func (.yield L) #[] #[], .pointer (some ⟨bx, 0, none⟩)] W fun e W' => (∃ v, e = .returned v) ∧ ((∃ xs, SE l xs W' ∧ J xs W') ∨ (∃ pre, True ∧ Jx pre W')) := by
 have HV := Lib.hid hv
 have HBX := Lib.hid hB
 have HM := Lib.hid hm
 have HBM := Lib.hid hbm
 have HBXM := Lib.hid (And.intro hbx hbR)
 have HRB := Lib.hid hRb
 have HY := Lib.hid hY
 have H0 := Lib.hid h0
 have l0 : (l.length : Int) ≤ 1000000 := by omega
 have z0 : W.cell? ⟨bx, 0, none⟩ = some (.slice A0 l.length c) := (hB.cell 0).trans rfl
 clear hv hB hm hbm hbx hbR hRb hY h0
 refine callsIn_of_wp Try.func46 rfl trivial ?_ rfl
 simp only [Try.ntmps46, List.size_toArray, List.length_cons, List.length_nil, Nat.reduceAdd, Nat.reduceSub, Array.replicate_succ, Array.replicate_zero, List.push_toArray, List.append_toArray, List.nil_append, List.cons_append]
 gi_wp2
 gi_loopw [3] (fun i wr => ∃ (pre : List EltE) (j : Nat), j ≤ l.length ∧ i = .int .i64 ((j : Int) - 1) ∧ Hid (pre.map (·.e) = (l.drop j).reverse) ∧ Hid (KpE m R W wr) ∧ Hid (J pre wr)) (fun i _ => (intOf i + 1).toNat)
 case atStart => exact ⟨[], l.length, Nat.le_refl _, rfl, Lib.hid (by simp), Lib.hid (KpE.refl _ _ _), H0⟩
 case round =>
  obtain ⟨pre, j, hj, rfl, HP, HK, HJ⟩ := hrel
  by_cases h0 : 0 < j
  ·obtain ⟨i, rfl⟩ : ∃ i, j = i + 1 := ⟨j - 1, by omega⟩
   rw [show (((i + 1 : Nat) : Int) - 1) = (i : Int) by omega]
   have i1 : (0 : Int) ≤ (i : Int) := by omega
   have i2 : (i : Int) < (l.length : Int) := by omega
   have n0 : i < l.length := by omega
   obtain ⟨e, he⟩ : ∃ e, l[i]? = some e := ⟨_, List.getElem?_eq_getElem n0⟩
   have hkb : ∀ g, g < b → wr.heap[g]? = W.heap[g]? := fun g hg => HK.out.2.2.2.2 g (Nat.lt_of_lt_of_le hg HBM.out) (Nat.lt_of_lt_of_le hg (Nat.le_trans HBM.out HM.out)) (by have := HRB.out; omega)
   have hvr : EdsV (fun g => g < b) wr (.slice A0 l.length c) l := HV.out.keep hkb (fun _ h => h)
   obtain ⟨g, o, Aw, cw, An, cn, Ao, co, rfl, -, -, hgS, hw, hn, ho, hcl⟩ := hvr.at he
   have hbr : Blk wr bx 31 #[.slice (some ⟨g, o, none⟩) l.length c] := (HK.out.2.2.2.2 bx HBXM.out.1 (Nat.lt_of_lt_of_le HBXM.out.1 HM.out) HBXM.out.2).trans HBX.out
   have z1 : wr.cell? ⟨bx, 0, none⟩ = some (.slice (some ⟨g, o, none⟩) l.length c) := (hbr.cell 0).trans rfl
   have q0 : wr.cell? ⟨g, o + i * 14, none⟩ = _ := hcl 0 _ rfl
   have q1 : wr.cell? ⟨g, o + i * 14 + 1, none⟩ = _ := hcl 1 _ rfl
   have q2 : wr.cell? ⟨g, o + i * 14 + 2, none⟩ = _ := hcl 2 _ rfl
   have q3 : wr.cell? ⟨g, o + i * 14 + 3, none⟩ = _ := hcl 3 _ rfl
   have q4 : wr.cell? ⟨g, o + i * 14 + 4, none⟩ = _ := hcl 4 _ rfl
   have q5 : wr.cell? ⟨g, o + i * 14 + 5, none⟩ = _ := hcl 5 _ rfl
   have q6 : wr.cell? ⟨g, o + i * 14 + 6, none⟩ = _ := hcl 6 _ rfl
   have q7 : wr.cell? ⟨g, o + i * 14 + 7, none⟩ = _ := hcl 7 _ rfl
   have q8 : wr.cell? ⟨g, o + i * 14 + 8, none⟩ = _ := hcl 8 _ rfl
   have q9 : wr.cell? ⟨g, o + i * 14 + 9, none⟩ = _ := hcl 9 _ rfl
   have q10 : wr.cell? ⟨g, o + i * 14 + 10, none⟩ = _ := hcl 10 _ rfl
   have q11 : wr.cell? ⟨g, o + i * 14 + 11, none⟩ = _ := hcl 11 _ rfl
   have q12 : wr.cell? ⟨g, o + i * 14 + 12, none⟩ = _ := hcl 12 _ rfl
   have q13 : wr.cell? ⟨g, o + i * 14 + 13, none⟩ = _ := hcl 13 _ rfl
   have hG : GE b l ⟨e, edC e.kind (.slice Aw e.way.length cw) e.node.1 (.slice An e.node.2.len cn) e.old.1 (.slice Ao e.old.2.len co), i⟩ wr := ⟨he, ⟨_, _, _, rfl, hw, hn, ho⟩, Nat.le_trans (Nat.le_trans HBM.out HM.out) HK.out.2.2.2.1⟩
   have hlen : pre.length < l.length := by
    have h2 := congrArg List.length HP.out
    simp at h2
    omega
   have HP2 : Hid ((pre ++ [(⟨e, edC e.kind (.slice Aw e.way.length cw) e.node.1 (.slice An e.node.2.len cn) e.old.1 (.slice Ao e.old.2.len co), i⟩ : EltE)]).map (·.e) = (l.drop i).reverse) := Lib.hid (by rw [rev_drop he, List.map_append, HP.out]; rfl)
   obtain ⟨fn, tmps, assign, body, hy, hR⟩ := HY.out pre ⟨e, edC e.kind (.slice Aw e.way.length cw) e.node.1 (.slice An e.node.2.len cn) e.old.1 (.slice Ao e.old.2.len co), i⟩ wr HJ.out hG hlen
   simp only [encE] at hy
   have HR := Lib.hid hR
   clear he hkb hvr hgS hw hn ho hcl hbr hG hlen hR z0
   gi_wp2
   refine HR.out.mono ?_
   rintro e' W3 ⟨(⟨rfl, hJ3⟩ | ⟨rfl, hJx3⟩), hk3⟩
   ·have HJ3 := Lib.hid hJ3
    have HK3 := Lib.hid (HK.out.trans hk3)
    clear hJ3 hk3 q0 q1 q2 q3 q4 q5 q6 q7 q8 q9 q10 q11 q12 q13
    gi_wp2
    go_roundw
    case rel => exact ⟨_, i, by omega, rfl, HP2, HK3, HJ3⟩
    case measure => simp [intOf]
   ·have HJ3 := Lib.hid hJx3
    clear hJx3 hk3 q0 q1 q2 q3 q4 q5 q6 q7 q8 q9 q10 q11 q12 q13
    gi_wp2
    refine bodyPost_ret (results_none rfl _ _ _) rfl ?_
    exact ⟨⟨_, rfl⟩, .inr ⟨_, trivial, HJ3.out⟩⟩
  ·obtain rfl : j = 0 := by omega
   have HF : Hid (SE l pre wr) := Lib.hid (by unfold SE; rw [HP.out]; rfl)
   gi_wp2
   go_end0
   exact ⟨⟨_, rfl⟩, .inl ⟨pre, HF.out, HJ.out⟩⟩
theorem back_seq (n : Nat) (h1 : 1 ≤ n) (bx b m R : Nat) (l : List EdD) (A0 : Option Addr) (c : Nat) (hbm : b ≤ m) (hbx : bx < m) (hbR : bx ≠ R) (hRb : b ≤ R) (w : World) (hm : m ≤ w.heap.size) (hB : Blk w bx 31 #[.slice A0 l.length c]) (hv : EdsV (fun g => g < b) w (.slice A0 l.length c) l) (hl : l.length ≤ 1000000) :
  SeqM Fence.wide n Try.prog 46 #[.pointer (some ⟨bx, 0, none⟩)] encE (GE b l) (KpE m R) (SE l) (fun _ _ => True) l.length w := fun L J Jx W hW _ _ hY h0 =>
 back1_in n h1 L bx b m R l A0 c J Jx hbm hbx hbR hRb hY W (Nat.le_trans hm hW.size) (hB.below hW hB.lt) (hv.keep (fun g hg => hW.block g (Nat.lt_of_lt_of_le hg (Nat.le_trans hbm hm))) (fun _ h => h)) hl h0
def InvI (m R : Nat) (V0 : World) (pre : List EltE) (W : World) : Prop := ∃ v S, Blk W R 31 #[v] ∧ OwnE m S W v ((pre.map (·.e)).filterMap inv1) ∧ (∀ g, S g → Fresh9 m W g) ∧ KpE m R V0 W ∧ m ≤ W.heap.size
theorem own_cells {base : Nat} {S : Nat → Prop} {w : World} {v : Value} {l : List EdD} (h : OwnE base S w v l) {k : Nat} (hk : v.ownBlock = some k) : ∃ cs, w.heap[k]? = some (.cells cs 42 (0, 0)) := by
 obtain ⟨_, xs, h1, _⟩ := h
 rcases h1.2 with ⟨rfl, _⟩ | ⟨g, cap, cur, rfl, _, hg, _⟩
 ·cases hk
 ·injection hk with hk
  subst hk
  exact ⟨cur, hg⟩
theorem OwnE.stays {base : Nat} {S : Nat → Prop} {w w' : World} {v : Value} {l : List EdD} {row : Option Nat} (h : OwnE base S w v l) (hg : w.grownBy w' row) (hv : v.ownBlock = none ∨ v.ownBlock ≠ row) (hS : ∀ g, S g → some g ≠ row) : OwnE base S w' v l := by
 obtain ⟨h0, xs, h1, h2⟩ := h
 exact ⟨fun g hg' => ⟨Nat.lt_of_lt_of_le (h0 g hg').1 hg.size, (h0 g hg').2⟩, xs, World.ownsRow.kept h1 hg hv, h2.keep (fun g hg' => hg.block g (h0 g hg').1 (hS g hg')) (fun _ h => h)⟩
theorem invI_own {m R : Nat} (V0 : World) (hR : R < m) : OwnFrom m (InvI m R V0) := by
 rintro pre A B row ⟨v, S, h1, h2, h3, h4, h5⟩ hg hr
 have hc : ∀ g cs t, A.heap[g]? = some (.cells cs t (0, 0)) → some g ≠ row := fun g cs t h e => by
  obtain ⟨_, o, ho, hcc⟩ := hr g e.symm
  rw [h] at ho
  injection ho with ho
  subst ho
  cases hcc
 refine ⟨v, S, (hg.block R h1.lt (fun e => by have := (hr R e.symm).1; omega)).trans h1, h2.stays hg ?_ (fun g hS => by obtain ⟨_, cs, t, h⟩ := h3 g hS; exact hc g cs t h), fun g hS => (h3 g hS).keep (hg.block g (h3 g hS).lt (by obtain ⟨_, cs, t, h⟩ := h3 g hS; exact hc g cs t h)) (Nat.le_refl _), h4.trans (KpE.grown hg (fun k e => (hr k e).1)), Nat.le_trans h5 hg.size⟩
 cases hv : v.ownBlock with
 | none => exact .inl rfl
 | some k =>
  obtain ⟨cs, hk⟩ := own_cells h2 hv
  exact .inr (hc k cs _ hk)
theorem keeps_of_below {B : Nat} {A C : World} (h : Below A.heap.size A C) : KeepsFrom B A C := ⟨h.size, fun k o _ ho _ => (h.block k (Array.getElem?_eq_some_iff.1 ho).1).trans ho⟩
theorem inv_app {m R : Nat} {V0 V w5 w7 : World} {pre : List EltE} {x : EltE} {v v' : Value} {S : Nat → Prop} {L : List EdD} {e' : EdD} {cs : List Value}
  (hL : L = (pre.map (·.e)).filterMap inv1) (hR : Blk V R 31 #[v]) (hO : OwnE m S V v L) (hS : ∀ g, S g → Fresh9 m V g) (hK : KpE m R V0 V) (hRm : R < m) (hm : m ≤ V.heap.size) (hb : Below V.heap.size V w5) (hx : inv1 x.e = some e')
  (hap : AppE m (fun g => S g ∨ Fresh9 V.heap.size w5 g) (w5.alloc (.cells cs.toArray 42)) v (L ++ [e']) v' w7) :
  KeepsFrom m V (w7.setCell ⟨R, 0, none⟩ v') ∧ KpE m R V (w7.setCell ⟨R, 0, none⟩ v') ∧ InvI m R V0 (pre ++ [x]) (w7.setCell ⟨R, 0, none⟩ v') := by
 obtain ⟨h1, h2, A, c, rfl⟩ := hap
 have hal : Below w5.heap.size w5 (w5.alloc (.cells cs.toArray 42)) := (Below.refl _ _).alloc (Nat.le_refl _) _
 have hb6 : Below V.heap.size V (w5.alloc (.cells cs.toArray 42)) := hb.trans (hal.mono hb.size)
 have hO6 := hO.below hb6
 have hrow : ∀ k, v.ownBlock = some k → m ≤ k ∧ k < V.heap.size := fun k hk => hO.lt k hk
 have k7 : KeepsFrom m (w5.alloc (.cells cs.toArray 42)) w7 := ⟨h2.size, fun k o _ ho hc => (h2.block k (Array.getElem?_eq_some_iff.1 ho).1 (fun e => by
  obtain ⟨cs', hk⟩ := own_cells hO6 e.symm
  rw [ho] at hk
  injection hk with hk
  subst hk
  cases hc)).trans ho⟩
 have kK : KpE m R V w7 := (KpE.below hb6).trans (KpE.grown h2 (fun k e => (hrow k e).1))
 have hR7 : Blk w7 R 31 #[v] := (h2.block R (Nat.lt_of_lt_of_le hR.lt hb6.size) (fun e => by have := (hrow R e.symm).1; omega)).trans ((hb6.block R hR.lt).trans hR)
 have hne : ∀ g, (S g ∨ Fresh9 V.heap.size w5 g) → some g ≠ v.ownBlock := fun g hg e => by
  rcases hg with hg | hg
  ·exact (hO.1 g hg).2 e
  ·have := (hrow g e.symm).2; have := hg.1; omega
 have hF7 : ∀ g, (S g ∨ Fresh9 V.heap.size w5 g) → Fresh9 m w7 g := fun g hg => by
  have h6 : Fresh9 m (w5.alloc (.cells cs.toArray 42)) g := by
   rcases hg with hg | hg
   ·exact (hS g hg).keep (hb6.block g (hS g hg).lt) (Nat.le_refl _)
   ·exact hg.keep (hal.block g hg.lt) hm
  exact h6.keep (h2.block g h6.lt (hne g hg)) (Nat.le_refl _)
 have hgs : w7.grownBy (w7.setCell ⟨R, 0, none⟩ (.slice A (L ++ [e']).length c)) (some R) := ⟨rfl, rfl, rfl, by simp [World.setCell], fun k _ hk => Below.heap_setCell _ _ _ _ (fun e => hk (by rw [e]))⟩
 refine ⟨((keeps_of_below hb6).trans k7).trans ((KeepsOthers.setCell _ _ _).from _), kK.trans (KpE.set _ _), _, _, hR7.set_ 0 _, ?_, fun g hg => (hF7 g hg).keep (Below.heap_setCell _ _ _ _ (show g ≠ R by have := (hF7 g hg).1; omega)) (Nat.le_refl _), (hK.trans kK).trans (KpE.set _ _), Nat.le_trans hm (Nat.le_trans hb6.size (Nat.le_trans h2.size hgs.size))⟩
 rw [List.map_append, List.filterMap_append, ← hL, show List.filterMap inv1 (List.map (·.e) [x]) = [e'] by simp [hx]]
 refine h1.stays hgs ?_ (fun g hg e => by injection e with e; have := (hF7 g hg).1; omega)
 cases hv : (Value.slice A (L ++ [e']).length c).ownBlock with
 | none => exact .inl rfl
 | some k => exact .inr (fun e => by injection e with e; have := (h1.lt k hv).1; omega)
theorem inv_skip {m R : Nat} {V0 V : World} {pre : List EltE} {x : EltE} (hI : InvI m R V0 pre V) (hx : inv1 x.e = none) : KeepsFrom m V V ∧ KpE m R V V ∧ InvI m R V0 (pre ++ [x]) V := by
 refine ⟨⟨Nat.le_refl _, fun _ _ _ h _ => h⟩, KpE.refl _ _ _, ?_⟩
 obtain ⟨v, S, h1, h2, h3⟩ := hI
 refine ⟨v, S, h1, ?_, h3⟩
 rw [List.map_append, List.filterMap_append, show List.filterMap inv1 (List.map (·.e) [x]) = [] by simp [hx], List.append_nil]
 exact h2
theorem inv_own {m : Nat} {V w5 : World} {v : Value} {S : Nat → Prop} {L : List EdD} {e' : EdD} {cs : List Value} (hO : OwnE m S V v L) (hb : Below V.heap.size V w5) (hE : EdS (Fresh9 V.heap.size w5) w5 cs e') (hm : m ≤ V.heap.size) :
  OwnE m (fun g => S g ∨ Fresh9 V.heap.size w5 g) (w5.alloc (.cells cs.toArray 42)) v L ∧ EdS (fun g => S g ∨ Fresh9 V.heap.size w5 g) (w5.alloc (.cells cs.toArray 42)) cs e' ∧ Blk (w5.alloc (.cells cs.toArray 42)) w5.heap.size 42 cs.toArray ∧ m ≤ (w5.alloc (.cells cs.toArray 42)).heap.size := by
 have hal : Below w5.heap.size w5 (w5.alloc (.cells cs.toArray 42)) := (Below.refl _ _).alloc (Nat.le_refl _) _
 have hb6 : Below V.heap.size V (w5.alloc (.cells cs.toArray 42)) := hb.trans (hal.mono hb.size)
 refine ⟨(hO.below hb6).widen (fun g hg => .inl hg) (fun g hg => ?_), hE.keep (fun g hg => hal.block g hg.lt) (fun g hg => .inr hg), Blk.new _ _ _, Nat.le_trans hm hb6.size⟩
 rcases hg with hg | hg
 ·exact ⟨Nat.lt_of_lt_of_le (hO.1 g hg).1 hb6.size, (hO.1 g hg).2⟩
 ·exact ⟨Nat.lt_of_lt_of_le hg.lt hal.size, fun e => by have := (hO.lt g e.symm).2; have := hg.1; omega⟩
end Go.Proofs.Ythdhchhpjoghlaa
namespace Go.Proofs.Ythdhchhpjoghlaa
open Go.RowKit
attribute [local go_sem] Oper.semAt_some
theorem RowS.first {S : Nat → Prop} {w : World} {A : Option Addr} {n c : Nat} {a : NdD} {k r : NdF} (h : RowS S w (.slice A n c) (.cons a k r)) :
  ∃ g o A' c', A = some ⟨g, o, none⟩ ∧ S g ∧ n = r.len + 1 ∧ n ≤ c ∧ RowS S w (.slice A' k.len c') k ∧ ∀ j u, (ndC a (.slice A' k.len c'))[j]? = some u → w.cell? ⟨g, o + j, none⟩ = some u := by
 obtain ⟨g, o, A', c', rfl, h2, h3, h4⟩ := RowS.at h (i := 0) (y := (a, k)) rfl
 obtain ⟨A2, c2, e, h5, _⟩ := h
 injection e with e1 e2 e3
 refine ⟨g, o, A', c', rfl, h2, e2, by omega, h3, fun j u hu => ?_⟩
 have h6 := h4 j u hu
 rwa [Nat.zero_mul, Nat.add_zero] at h6
theorem RowS.rest {S : Nat → Prop} {w : World} {A : Option Addr} {n c : Nat} {a : NdD} {k r : NdF} (h : RowS S w (.slice A n c) (.cons a k r)) :
  RowS S w (.slice (if c = 1 then A else Option.map (fun x => x.add 6) A) (n - 1) (c - 1)) r := by
 obtain ⟨g, o, A', c', rfl, h2, hn, hc, h3, h4⟩ := RowS.first h
 by_cases h1 : c = 1
 ·have e : r.len = 0 := by omega
  have e2 : r = .nil := by cases r with
   | nil => rfl
   | cons => simp [Fr.len] at e
  subst e2
  rw [if_pos h1, hn]
  exact FrV.none_ _ _
 ·rw [if_neg h1]
  have h5 := FrV.back (n := 1) (by simp [Fr.len]) h
  have e5 : Option.map (fun x : Addr => x.add 6) (some ⟨g, o, none⟩) = some ⟨g, o + 6, none⟩ := rfl
  rw [e5, hn]
  simpa [Fr.len, Fr.drop] using h5
set_option maxRecDepth 100000 in
set_option maxHeartbeats 4000000 in
theorem ahead_any (f g : NdF) (A B : Option Addr) (c d : Nat) (W : World) (hf : RowS (Bel W) W (.slice A f.len c) f) (hg : RowS (Bel W) W (.slice B g.len d) g) :
  Calls Try.prog 31 #[.slice A f.len c, .slice B g.len d] W (Ans9 (.bool (ahdX f g)) W) := by
 have HD : Hid (Below W.heap.size W W.drew) := Lib.hid (Below.refl _ _).drew
 cases f with
 | nil =>
  clear hf hg
  have HX : Hid (ahdX .nil g = false) := Lib.hid rfl
  rw [show (Fr.nil : NdF).len = 0 from rfl]
  obtain ⟨n, hn⟩ : ∃ n, n = g.len := ⟨_, rfl⟩
  rw [← hn]
  clear hn
  go_enter Try.func31, Try.ntmps31
  go_wp2_with fail
  refine wp_region_noPanic ?_
  refine wp_region_held_drew (S := fun _ => True) (by kernel_rfl) trivial (fun hS => ?_)
  refine tkH 0 hS ?_
  refine tkH 1 hS ?_
  refine tkH 2 hS ?_
  refine tkH 3 hS ?_
  refine tkHo 4 hS ?_
  refine tkHo 5 hS ?_
  refine tkHo 6 hS ?_
  refine tkHo 7 hS ?_
  refine tkHo 8 hS ?_
  refine tkHo 9 hS ?_
  refine tkHo 10 hS ?_
  refine tkHo 11 hS ?_
  refine tkHo 12 hS ?_
  refine tkHo 13 hS ?_
  refine tkHo 14 hS ?_
  refine tkHo 15 hS ?_
  refine tkH 16 hS ?_
  refine tkH 17 hS ?_
  refine wpAnyH_done (by kernel_rfl) ?_ _
  refine NoPanic.normal ?_
  clear hS
  go_wp2
  go_ret
  exact ⟨by rw [HX.out]; rfl, HD.out⟩
 | cons a k r =>
  obtain ⟨ga, oa, A1, c1, rfl, hsa, hna, hca, hra, hcl⟩ := RowS.first hf
  obtain ⟨n, hn⟩ : ∃ n, n = (Fr.cons a k r).len := ⟨_, rfl⟩
  have n0 : (0 : Int) < (n : Int) := by rw [hn]; simp only [Fr.len]; omega
  have n1 : 0 < n := by omega
  rw [← hn]
  cases g with
  | nil =>
   have HX : Hid (ahdX (.cons a k r) .nil = true) := Lib.hid rfl
   rw [show (Fr.nil : NdF).len = 0 from rfl]
   clear hf hg hn hcl hra
   go_enter Try.func31, Try.ntmps31
   go_wp2_with fail
   refine wp_region_noPanic ?_
   refine wp_region_held_drew (S := fun _ => True) (by kernel_rfl) trivial (fun hS => ?_)
   refine tkH 0 hS ?_
   refine tkH 1 hS ?_
   refine tkH 2 hS ?_
   refine tkH 3 hS ?_
   refine tkH 4 hS ?_
   refine tkH 5 hS ?_
   refine tkH 6 hS ?_
   refine tkH 7 hS ?_
   refine tkHo 8 hS ?_
   refine tkHo 9 hS ?_
   refine tkHo 10 hS ?_
   refine tkHo 11 hS ?_
   refine tkHo 12 hS ?_
   refine tkHo 13 hS ?_
   refine tkHo 14 hS ?_
   refine tkH 15 hS ?_
   refine tkH 16 hS ?_
   refine tkH 17 hS ?_
   refine wpAnyH_done (by kernel_rfl) ?_ _
   refine NoPanic.normal ?_
   clear hS
   go_wp2
   go_ret
   exact ⟨by rw [HX.out]; rfl, HD.out⟩
  | cons b q s =>
   obtain ⟨gb, ob, B1, d1, rfl, hsb, hnb, hcb, hrb, hdl⟩ := RowS.first hg
   obtain ⟨m, hm⟩ : ∃ m, m = (Fr.cons b q s).len := ⟨_, rfl⟩
   have m0 : (0 : Int) < (m : Int) := by rw [hm]; simp only [Fr.len]; omega
   have m1 : 0 < m := by omega
   have m2 : ((m : Int) == 0) = false := beq_eq_false_iff_ne.2 (by omega)
   have m3 : (m == 0) = false := beq_eq_false_iff_ne.2 (by omega)
   rw [← hm]
   have HX : Hid (ahdX (.cons a k r) (.cons b q s) = lessX a b) := Lib.hid rfl
   have HC : Hid (Calls Try.prog 43 #[.agg #[.string (txt a.name), .string (txt a.key), .int .i64 a.kind, .int .u64 (a.num : Int), .string (txt a.text), .slice A1 k.len c1], .agg #[.string (txt b.name), .string (txt b.key), .int .i64 b.kind, .int .u64 (b.num : Int), .string (txt b.text), .slice B1 q.len d1]] W.drew (Ans9 (.bool (lessX a b)) W.drew)) := Lib.hid (lessT W (a, k) (b, q) _ _ W.drew (LieB.below (RowS.lie hra) HD.out) (LieB.below (RowS.lie hrb) HD.out) HD.out)
   have HK := Lib.hid (And.intro hsa (And.intro hcl (And.intro hsb hdl)))
   clear hf hg hn hm hcl hra hdl hrb hsa hsb
   go_enter Try.func31, Try.ntmps31
   go_wp2_with fail
   refine wp_region_noPanic ?_
   refine wp_region_held_drew (S := fun _ => True) (by kernel_rfl) trivial (fun hS => ?_)
   refine held_more (S' := fun w' => Below W.heap.size W w') (fun _ _ => trivial) _ _ _ _ ?_
   replace hS := HD.out
   refine tkH 0 hS ?_
   refine tkH 1 hS ?_
   refine tkH 2 hS ?_
   refine tkH 3 hS ?_
   refine tkH 4 hS ?_
   refine tkH 5 hS ?_
   refine tkH 6 hS ?_
   refine tkH 7 hS ?_
   refine tkH 8 hS ?_
   refine tkH 9 hS ?_
   refine tkH 10 hS ?_ (hy := fun w hSw => by have x0 : w.cell? ⟨ga, oa, none⟩ = _ := (hSw.cell (p := ⟨ga, oa, none⟩) HK.out.1).trans (HK.out.2.1 0 _ rfl); have x1 : w.cell? ⟨ga, oa + 1, none⟩ = _ := (hSw.cell (p := ⟨ga, oa + 1, none⟩) HK.out.1).trans (HK.out.2.1 1 _ rfl); have x2 : w.cell? ⟨ga, oa + 2, none⟩ = _ := (hSw.cell (p := ⟨ga, oa + 2, none⟩) HK.out.1).trans (HK.out.2.1 2 _ rfl); have x3 : w.cell? ⟨ga, oa + 3, none⟩ = _ := (hSw.cell (p := ⟨ga, oa + 3, none⟩) HK.out.1).trans (HK.out.2.1 3 _ rfl); have x4 : w.cell? ⟨ga, oa + 4, none⟩ = _ := (hSw.cell (p := ⟨ga, oa + 4, none⟩) HK.out.1).trans (HK.out.2.1 4 _ rfl); have x5 : w.cell? ⟨ga, oa + 5, none⟩ = _ := (hSw.cell (p := ⟨ga, oa + 5, none⟩) HK.out.1).trans (HK.out.2.1 5 _ rfl); (go_simp <;> with_reducible rfl))
   refine tkH 11 hS ?_
   refine tkH 12 hS ?_
   refine tkH 13 hS ?_ (hy := fun w hSw => by have y0 : w.cell? ⟨gb, ob, none⟩ = _ := (hSw.cell (p := ⟨gb, ob, none⟩) HK.out.2.2.1).trans (HK.out.2.2.2 0 _ rfl); have y1 : w.cell? ⟨gb, ob + 1, none⟩ = _ := (hSw.cell (p := ⟨gb, ob + 1, none⟩) HK.out.2.2.1).trans (HK.out.2.2.2 1 _ rfl); have y2 : w.cell? ⟨gb, ob + 2, none⟩ = _ := (hSw.cell (p := ⟨gb, ob + 2, none⟩) HK.out.2.2.1).trans (HK.out.2.2.2 2 _ rfl); have y3 : w.cell? ⟨gb, ob + 3, none⟩ = _ := (hSw.cell (p := ⟨gb, ob + 3, none⟩) HK.out.2.2.1).trans (HK.out.2.2.2 3 _ rfl); have y4 : w.cell? ⟨gb, ob + 4, none⟩ = _ := (hSw.cell (p := ⟨gb, ob + 4, none⟩) HK.out.2.2.1).trans (HK.out.2.2.2 4 _ rfl); have y5 : w.cell? ⟨gb, ob + 5, none⟩ = _ := (hSw.cell (p := ⟨gb, ob + 5, none⟩) HK.out.2.2.1).trans (HK.out.2.2.2 5 _ rfl); (go_simp <;> with_reducible rfl))
   refine wpAnyH_ready (rs := [14]) (by kernel_rfl) (by simp) ?_
   refine (AllReadyH.cons (o := ?or_0) ?ir_0 (fun K hK => ?str_0) AllReadyH.nil)
   case ir_0 => simp only [layG]; rfl
   rw [if_pos (by rfl)]
   go_simp
   refine HC.out.mono ?_
   rintro r w3 ⟨rfl, hb⟩
   have HB3 := Lib.hid (HD.out.trans (hb.mono HD.out.size))
   clear hb
   go_wp2_with fail
   refine hK.out _ _ ?sr_0 (fun hS => ?_)
   case sr_0 => (exact HB3.out)
   clear hK K
   (try simp only [Act.put, layS])
   refine tkH 15 hS ?_
   refine tkH 16 hS ?_
   refine tkH 17 hS ?_
   refine wpAnyH_done (by kernel_rfl) ?_ _
   refine NoPanic.normal ?_
   clear hS
   go_wp2
   go_ret
   exact ⟨by rw [HX.out]; rfl, HB3.out⟩
def EnvE (b : Nat) (W : World) : Prop := Blk W (b + 3) 46 #[.func (.func 23) #[] #[.pointer (some ⟨b + 2, 0, none⟩)]] ∧
 Blk W (b + 4) 47 #[.func (.func 30) #[] #[.pointer (some ⟨b + 3, 0, none⟩), .pointer (some ⟨b + 5, 0, none⟩)]] ∧
 Blk W (b + 5) 50 #[.func (.func 24) #[] #[.pointer (some ⟨b + 3, 0, none⟩), .pointer (some ⟨b + 4, 0, none⟩)]]
structure StE (b : Nat) (S : Nat → Prop) (W : World) (v : Value) (M : List EdD) (u : Value) (l : List Stp) : Prop where
 env : EnvE b W
 res : Blk W (b + 2) 31 #[v]
 own : OwnE (b + 6) S W v M
 low : ∀ g, S g → b + 6 ≤ g
 sep : ∀ g, S g → some g ≠ u.ownBlock
 way : OwnS (b + 6) W u l
 ne : v.ownBlock = none ∨ v.ownBlock ≠ u.ownBlock
def TrK (b : Nat) (v u : Value) (W W' : World) : Prop := W'.os = W.os ∧ W'.tape = W.tape ∧ W'.output = W.output ∧ W.heap.size ≤ W'.heap.size ∧ ∀ g, g < W.heap.size → g ≠ b + 2 → some g ≠ v.ownBlock → some g ≠ u.ownBlock → W'.heap[g]? = W.heap[g]?
def RowK9 (W : World) (v v' : Value) : Prop := v'.ownBlock = v.ownBlock ∨ ∃ k, v'.ownBlock = some k ∧ W.heap.size ≤ k
theorem RowK9.refl (W : World) (v : Value) : RowK9 W v v := .inl rfl
theorem RowK9.trans {W W1 : World} {v v1 v2 : Value} (h : RowK9 W v v1) (k : RowK9 W1 v1 v2) (hs : W.heap.size ≤ W1.heap.size) : RowK9 W v v2 := by
 rcases k with k | ⟨j, k, hj⟩
 ·rcases h with h | ⟨i, h, hi⟩
  ·exact .inl (k.trans h)
  ·exact .inr ⟨i, k.trans h, hi⟩
 ·exact .inr ⟨j, k, Nat.le_trans hs hj⟩
theorem TrK.refl (b : Nat) (v u : Value) (W : World) : TrK b v u W W := ⟨rfl, rfl, rfl, Nat.le_refl _, fun _ _ _ _ _ => rfl⟩
theorem TrK.below {b : Nat} {v u : Value} {W W' : World} (h : Below W.heap.size W W') : TrK b v u W W' := ⟨h.os, h.tape, h.output, h.size, fun g hg _ _ _ => h.block g hg⟩
theorem TrK.trans {b : Nat} {v v1 u : Value} {W W1 W2 : World} (h : TrK b v u W W1) (k : TrK b v1 u W1 W2) (hr : RowK9 W v v1) : TrK b v u W W2 :=
 ⟨k.1.trans h.1, k.2.1.trans h.2.1, k.2.2.1.trans h.2.2.1, Nat.le_trans h.2.2.2.1 k.2.2.2.1, fun g hg h1 h2 h3 => (k.2.2.2.2 g (Nat.lt_of_lt_of_le hg h.2.2.2.1) h1 (fun e => by
  rcases hr with hr | ⟨j, hr, hj⟩
  ·exact h2 (e.trans hr)
  ·rw [hr] at e; injection e with e; omega) h3).trans (h.2.2.2.2 g hg h1 h2 h3)⟩
section
variable {b : Nat} {S : Nat → Prop} {W W' : World} {v u : Value} {M : List EdD} {l : List Stp}
theorem StE.size (h : StE b S W v M u l) : b + 6 ≤ W.heap.size := h.env.2.2.lt
theorem StE.vlt (h : StE b S W v M u l) : ∀ k, v.ownBlock = some k → b + 6 ≤ k ∧ k < W.heap.size := h.own.lt
theorem StE.ult (h : StE b S W v M u l) : ∀ k, u.ownBlock = some k → b + 6 ≤ k ∧ k < W.heap.size := OwnK.lt h.way
theorem StE.below (h : StE b S W v M u l) (hb : Below W.heap.size W W') : StE b S W' v M u l :=
 ⟨⟨h.env.1.below hb h.env.1.lt, h.env.2.1.below hb h.env.2.1.lt, h.env.2.2.below hb h.env.2.2.lt⟩, h.res.below hb h.res.lt, h.own.below hb, h.low, h.sep, OwnS.below h.way hb, h.ne⟩
theorem EnvE.keep (h : EnvE b W) (hk : ∀ g, b + 3 ≤ g → g < b + 6 → W'.heap[g]? = W.heap[g]?) : EnvE b W' :=
 ⟨(hk _ (by omega) (by omega)).trans h.1, (hk _ (by omega) (by omega)).trans h.2.1, (hk _ (by omega) (by omega)).trans h.2.2⟩
theorem StE.step (h : StE b S W v M u l) {u' : Value} {s : Stp} (hp : WayP (b + 6) W u l s u' W') : StE b S W' v M u' (l ++ [s]) := by
 have hg := hp.grown
 have hu := h.ult
 have hv := h.vlt
 have hz := h.size
 have hk : ∀ g, g < W.heap.size → some g ≠ u.ownBlock → W'.heap[g]? = W.heap[g]? := fun g h1 h2 => hg.block g h1 h2
 have hlow : ∀ g, g < b + 6 → some g ≠ u.ownBlock := fun g h1 e => by have := (hu g e.symm).1; omega
 have hfar : ∀ g, g < W.heap.size → some g ≠ u.ownBlock → some g ≠ u'.ownBlock := fun g h1 h2 => by
  rcases hp.2 with ⟨g', n, c, rfl, rfl, _⟩ | ⟨⟨k, e, hk⟩, _⟩
  ·exact h2
  ·rw [e]; intro e2; injection e2 with e2; omega
 refine ⟨h.env.keep (fun g h1 h2 => hk g (by omega) (hlow g h2)), (hk _ (by omega) (hlow _ (by omega))).trans h.res, h.own.stays hg h.ne (fun g hS => h.sep g hS), h.low, fun g hS => hfar g (h.own.1 g hS).1 (h.sep g hS), hp.1, ?_⟩
 cases e : v.ownBlock with
 | none => exact .inl rfl
 | some k =>
  right
  refine hfar k (hv k e).2 ?_
  rcases h.ne with h1 | h1
  ·rw [e] at h1; cases h1
  ·rw [← e]; exact h1
end
theorem StE.back {b : Nat} {S S' : Nat → Prop} {W W1 W2 : World} {v v' u u' : Value} {M M' : List EdD} {l : List Stp} {s : Stp} (h : StE b S W v M u l) (hp : WayP (b + 6) W u l s u' W1) (h2 : StE b S' W2 v' M' u' (l ++ [s])) (ht : TrK b v u' W1 W2) (hr : RowK9 W1 v v') (hS : ∀ g, S' g → S g ∨ W1.heap.size ≤ g) :
  StE b S' W2 v' M' u l ∧ TrK b v u W W2 ∧ RowK9 W v v' ∧ ∀ g, S' g → S g ∨ W.heap.size ≤ g := by
 have hg := hp.grown
 have hu := h.ult
 have hv := h.vlt
 have hz := h.size
 have hS2 : ∀ g, S' g → S g ∨ W.heap.size ≤ g := fun g hg' => (hS g hg').imp id (fun h => Nat.le_trans hg.size h)
 have hfar : ∀ g, g < W.heap.size → some g ≠ u.ownBlock → some g ≠ u'.ownBlock := fun g h1 h9 => by
  rcases hp.2 with ⟨g', n, c, rfl, rfl, _⟩ | ⟨⟨k, e, hk⟩, _⟩
  ·exact h9
  ·rw [e]; intro e2; injection e2 with e2; omega
 have hr2 : RowK9 W v v' := hr.imp id (fun ⟨k, e, hk⟩ => ⟨k, e, Nat.le_trans hg.size hk⟩)
 refine ⟨⟨h2.env, h2.res, h2.own, h2.low, fun g hg' e => ?_, ?_, ?_⟩, ⟨ht.1.trans hg.os, ht.2.1.trans hg.tape, ht.2.2.1.trans hg.output, Nat.le_trans hg.size ht.2.2.2.1, fun g h1 h3 h4 h5 => (ht.2.2.2.2 g (Nat.lt_of_lt_of_le h1 hg.size) h3 h4 (hfar g h1 h5)).trans (hg.block g h1 h5)⟩, hr2, hS2⟩
 ·rcases hS2 g hg' with h3 | h3
  ·exact h.sep g h3 e
  ·have := (hu g e.symm).2; omega
 ·refine hp.back h.way h2.way (fun g e1 e2 => ht.2.2.2.2 g (Nat.lt_of_lt_of_le (hu g e1).2 hg.size) (by have := (hu g e1).1; omega) (fun e => ?_) (fun e => e2 e.symm))
  rcases h.ne with h3 | h3
  ·rw [h3] at e; cases e
  ·exact h3 (e.symm.trans e1.symm)
 ·rcases hr2 with h3 | ⟨k, h3, hk⟩
  ·rw [h3]; exact h.ne
  ·right
   rw [h3]
   intro e
   have := (hu k e.symm).2
   omega
def ToldP (b : Nat) (S : Nat → Prop) (W : World) (v : Value) (M E : List EdD) (u : Value) (l : List Stp) (r : Ending) (W' : World) : Prop := (∃ x, r = .returned x) ∧ ∃ v' S', StE b S' W' v' (M ++ E) u l ∧ TrK b v u W W' ∧ RowK9 W v v' ∧ ∀ g, S' g → S g ∨ W.heap.size ≤ g
end Go.Proofs.Ythdhchhpjoghlaa
