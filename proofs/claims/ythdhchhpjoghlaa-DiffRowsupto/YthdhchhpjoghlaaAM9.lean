/- DifSpec Law16A -/
import Derived.Test.YthdhchhpjoghlaaAM0
import Derived.Test.YthdhchhpjoghlaaAM8
set_option linter.unusedSimpArgs false
set_option linter.unusedVariables false
namespace Go.Proofs.Ythdhchhpjoghlaa
open Go.RowKit
attribute [local go_sem] Oper.semAt_some
theorem ed_few (f g : NdF) (w : List Stp) : ∀ e ∈ edF f g w, e.way.length ≤ w.length + (f.size + g.size) ∧ e.node.2.size ≤ f.size + g.size ∧ e.old.2.size ≤ f.size + g.size := by
 refine ed_ind (P := fun f g w => ∀ e ∈ edF f g w, e.way.length ≤ w.length + (f.size + g.size) ∧ e.node.2.size ≤ f.size + g.size ∧ e.old.2.size ≤ f.size + g.size) (fun w e he => by rw [edF_nil] at he; cases he) (fun a k r w ih e he => ?_) (fun b q s w ih e he => ?_) (fun a k r b q s w h ih e he => ?_) (fun a k r b q s w h1 h2 ih e he => ?_) (fun a k r b q s w h1 h2 hs ihk ih e he => ?_) f g w
 ·rw [edF_del] at he
  rcases List.mem_cons.1 he with rfl | he
  ·simp [delE, noN, Fr.size]; omega
  ·have := ih e he; simp only [Fr.size] at this ⊢; omega
 ·rw [edF_new] at he
  rcases List.mem_cons.1 he with rfl | he
  ·simp [newE, noN, Fr.size]; omega
  ·have := ih e he; simp only [Fr.size] at this ⊢; omega
 ·rw [edF_lt h] at he
  rcases List.mem_cons.1 he with rfl | he
  ·simp [delE, noN, Fr.size]; omega
  ·have := ih e he; simp only [Fr.size] at this ⊢; omega
 ·rw [edF_gt h1 h2] at he
  rcases List.mem_cons.1 he with rfl | he
  ·simp [newE, noN, Fr.size]; omega
  ·have := ih e he; simp only [Fr.size] at this ⊢; omega
 ·rw [edF_eq h1 h2] at he
  rcases List.mem_append.1 he with he | he
  ·unfold edK at he
   split at he
   ·cases he
   ·split at he
    ·obtain rfl : e = _ := by simpa using he
     simp [Fr.size]; omega
    ·split at he
     ·have := ihk e he; simp only [Fr.size, List.length_append, List.length_cons, List.length_nil] at this ⊢; omega
     ·rcases List.mem_cons.1 he with rfl | he
      ·simp [delE, noN, Fr.size]; omega
      ·obtain rfl : e = _ := by simpa using he
       simp [newE, noN, Fr.size]; omega
  ·have := ih e he; simp only [Fr.size] at this ⊢; omega
theorem fewE_ed {f g : NdF} (h : f.size + g.size ≤ 1000000) : FewE (edF f g []) := by
 refine ⟨Nat.le_trans (ed_len f g []) h, fun e he => ?_⟩
 obtain ⟨h1, h2, h3⟩ := ed_few f g [] e he
 simp at h1
 exact ⟨by omega, by unfold Few9; omega, by unfold Few9; omega⟩
theorem fewE_inv {l : List EdD} (h : FewE l) : FewE (invX l) := by
 refine ⟨?_, fun e he => ?_⟩
 ·refine Nat.le_trans ?_ h.1
  unfold invX
  exact Nat.le_trans (List.length_filterMap_le _ _) (by simp)
 ·unfold invX at he
  obtain ⟨x, hx, h1⟩ := List.mem_filterMap.1 he
  have hx2 := h.2 x (by simpa using hx)
  unfold inv1 at h1
  have hz : Few9 noN := by unfold Few9 noN; simp [Fr.size]
  split at h1
  ·injection h1 with h1; subst h1; exact ⟨hx2.1, hz, hx2.2.1⟩
  ·split at h1
   ·injection h1 with h1; subst h1; exact ⟨hx2.1, hx2.2.2, hz⟩
   ·split at h1
    ·injection h1 with h1; subst h1; exact ⟨hx2.1, hx2.2.2, hx2.2.1⟩
    ·cases h1
theorem RowS.bel {w : World} {a : NdD} {f : NdF} {A : Option Addr} {c : Nat} (h : LieN w (ndC a (.slice A f.len c)) (a, f)) : RowS (Bel w) w (.slice A f.len c) f := by
 obtain ⟨A', c', e, h2⟩ := LieB.shape h
 have e5 := congrArg (fun l => l[5]?) e
 simp [ndC] at e5
 obtain ⟨rfl, rfl⟩ := e5
 exact h2
set_option maxRecDepth 100000 in
set_option maxHeartbeats 4000000 in
theorem rEdits16_any (a b : NdD) (f g : NdF) (A B : Option Addr) (c d : Nat) (w : World) (hx : LieN w (ndC a (.slice A f.len c)) (a, f)) (hy : LieN w (ndC b (.slice B g.len d)) (b, g)) (hz : f.size + g.size ≤ 1000000) :
  Calls Try.prog 11 #[.agg #[.string (txt a.name), .string (txt a.key), .int .i64 a.kind, .int .u64 (a.num : Int), .string (txt a.text), .slice A f.len c], .agg #[.string (txt b.name), .string (txt b.key), .int .i64 b.kind, .int .u64 (b.num : Int), .string (txt b.text), .slice B g.len d]] w (InvP (edF f g []) w) := by
 have hbw : Below w.heap.size w ((w.alloc (.cells #[.string (txt a.name), .string (txt a.key), .int .i64 a.kind, .int .u64 (a.num : Int), .string (txt a.text), .slice A f.len c] 27)).alloc (.cells #[.string (txt b.name), .string (txt b.key), .int .i64 b.kind, .int .u64 (b.num : Int), .string (txt b.text), .slice B g.len d] 27)) := ((Below.refl _ _).alloc (Nat.le_refl _) _).alloc (by simp) _
 have hc := redits16_any (f.size + g.size + 1) f g (by omega) a b [] A B none c d 0 _ (Bel _) (fun _ h => h) (RowS.bel (hx.below hbw)) (RowS.bel (hy.below hbw)) (WayS.nil _ _) (by simp; omega)
 simp only [List.length_nil] at hc
 have HC := Lib.hid hc
 have HW := Lib.hid hbw
 clear hc hx hy hz hbw
 go_enter Try.func11, Try.ntmps11
 go_wp2_with fail
 refine HC.out.mono ?_
 rintro r w1 ⟨v, rfl, hv, hb⟩
 have HB1 := Lib.hid hb.size
 have HB := Lib.hid (HW.out.trans (hb.mono HW.out.size))
 have HV := Lib.hid hv
 clear hv hb
 go_wp2
 go_ret
 exact ⟨_, rfl, HV.out.keep (fun _ _ => rfl) (fun g hg => hg.elim (fun h => Nat.lt_of_lt_of_le h HB1.out) (fun h => h.2)), HB.out⟩
def DifEditsC (W0 : World) : Prop := ∀ (a b : NdD) (f g : NdF) (A B : Option Addr) (c d : Nat) (w : World), LieN w (ndC a (.slice A f.len c)) (a, f) → LieN w (ndC b (.slice B g.len d)) (b, g) → f.size + g.size ≤ 1000000 → a.kind = 0 → b.kind = 0 → rgtX (a, f) = true → rgtX (b, g) = true → Below W0.heap.size W0 w →
 Calls Try.prog 10 #[.agg #[.string (txt a.name), .string (txt a.key), .int .i64 a.kind, .int .u64 (a.num : Int), .string (txt a.text), .slice A f.len c], .agg #[.string (txt b.name), .string (txt b.key), .int .i64 b.kind, .int .u64 (b.num : Int), .string (txt b.text), .slice B g.len d]] w (InvP (edF f g []) w)
def DifInvC (W0 : World) : Prop := ∀ (l : List EdD) (v : Value) (w : World), EdsV (Bel w) w v l → FewE l → Below W0.heap.size W0 w →
 Calls Try.prog 13 #[v] w (InvP (invX l) w)
def DifUnderC (W0 : World) : Prop := ∀ (l : List EdD) (m : List Stp) (v u : Value) (w : World), EdsV (Bel w) w v l → WayV w.heap.size w u m → FewE l → m.length ≤ 1000000 → Below W0.heap.size W0 w →
 Calls Try.prog 15 #[v, u] w (Ans9 (.int .i64 (undE l m : Int)) w)
def DifSameC (W0 : World) : Prop := ∀ (l m : List EdD) (va vb : Value) (w : World), EdsV (Bel w) w va l → EdsV (Bel w) w vb m → FewE l → FewE m → Below W0.heap.size W0 w →
 Calls Try.prog 17 #[va, vb] w (Ans9 (.bool (decide (l = m))) w)
structure DifC (W0 : World) : Prop where
 edits : DifEditsC W0
 inv : DifInvC W0
 under : DifUnderC W0
 same : DifSameC W0
def Awake16 (W0 : World) : Prop := ∀ w, Below W0.heap.size W0 w → Calls Try.prog 7 #[] w (Ans9 (.bool true) w)
def smallX (a b : NdD) (f g : NdF) : Bool := decide (f.size + 1 ≤ 300) && decide (g.size + 1 ≤ 300) && decide (a.kind = 0) && decide (b.kind = 0) && rgtX (a, f) && rgtX (b, g)
set_option maxRecDepth 100000 in
set_option maxHeartbeats 4000000 in
theorem small16_any (a b : NdD) (f g : NdF) (A B : Option Addr) (c d : Nat) (w : World) (hx : LieN w (ndC a (.slice A f.len c)) (a, f)) (hy : LieN w (ndC b (.slice B g.len d)) (b, g)) (hf : f.size ≤ 1000000) (hg : g.size ≤ 1000000) : Calls Try.prog 8 #[.agg #[.string (txt a.name), .string (txt a.key), .int .i64 a.kind, .int .u64 (a.num : Int), .string (txt a.text), .slice A f.len c], .agg #[.string (txt b.name), .string (txt b.key), .int .i64 b.kind, .int .u64 (b.num : Int), .string (txt b.text), .slice B g.len d]] w (Ans9 (.bool (smallX a b f g)) w) := by
 have hb2 : Blk ((w.alloc (.cells #[.string (txt a.name), .string (txt a.key), .int .i64 a.kind, .int .u64 (a.num : Int), .string (txt a.text), .slice A f.len c] 27)).alloc (.cells #[.string (txt b.name), .string (txt b.key), .int .i64 b.kind, .int .u64 (b.num : Int), .string (txt b.text), .slice B g.len d] 27)) (w.heap.size + 1) 27 #[.string (txt b.name), .string (txt b.key), .int .i64 b.kind, .int .u64 (b.num : Int), .string (txt b.text), .slice B g.len d] := by
  have h := Blk.new (w.alloc (.cells #[.string (txt a.name), .string (txt a.key), .int .i64 a.kind, .int .u64 (a.num : Int), .string (txt a.text), .slice A f.len c] 27)) 27 #[.string (txt b.name), .string (txt b.key), .int .i64 b.kind, .int .u64 (b.num : Int), .string (txt b.text), .slice B g.len d]
  rwa [show (w.alloc (.cells #[.string (txt a.name), .string (txt a.key), .int .i64 a.kind, .int .u64 (a.num : Int), .string (txt a.text), .slice A f.len c] 27)).heap.size = w.heap.size + 1 by simp] at h
 have hb1 : Blk ((w.alloc (.cells #[.string (txt a.name), .string (txt a.key), .int .i64 a.kind, .int .u64 (a.num : Int), .string (txt a.text), .slice A f.len c] 27)).alloc (.cells #[.string (txt b.name), .string (txt b.key), .int .i64 b.kind, .int .u64 (b.num : Int), .string (txt b.text), .slice B g.len d] 27)) w.heap.size 27 #[.string (txt a.name), .string (txt a.key), .int .i64 a.kind, .int .u64 (a.num : Int), .string (txt a.text), .slice A f.len c] := (Blk.new w 27 #[.string (txt a.name), .string (txt a.key), .int .i64 a.kind, .int .u64 (a.num : Int), .string (txt a.text), .slice A f.len c]).alloc (.cells #[.string (txt b.name), .string (txt b.key), .int .i64 b.kind, .int .u64 (b.num : Int), .string (txt b.text), .slice B g.len d] 27)
 have hbw : Below w.heap.size w ((w.alloc (.cells #[.string (txt a.name), .string (txt a.key), .int .i64 a.kind, .int .u64 (a.num : Int), .string (txt a.text), .slice A f.len c] 27)).alloc (.cells #[.string (txt b.name), .string (txt b.key), .int .i64 b.kind, .int .u64 (b.num : Int), .string (txt b.text), .slice B g.len d] 27)) := ((Below.refl _ _).alloc (Nat.le_refl _) _).alloc (by simp) _
 obtain ⟨z, hz⟩ : ∃ z, z = f.size + 1 := ⟨_, rfl⟩
 obtain ⟨y, hy1⟩ : ∃ y, y = g.size + 1 := ⟨_, rfl⟩
 have hc1 : ∀ W, Below w.heap.size w W → Hid (Calls Try.prog 20 #[.agg #[.string (txt a.name), .string (txt a.key), .int .i64 a.kind, .int .u64 (a.num : Int), .string (txt a.text), .slice A f.len c]] W (Ans9 (.int .i64 (z : Int)) W)) := fun W h => Lib.hid (by rw [hz]; exact rsizet_any (a, f) _ W (hx.below h) hf)
 have hc2 : ∀ W, Below w.heap.size w W → Hid (Calls Try.prog 20 #[.agg #[.string (txt b.name), .string (txt b.key), .int .i64 b.kind, .int .u64 (b.num : Int), .string (txt b.text), .slice B g.len d]] W (Ans9 (.int .i64 (y : Int)) W)) := fun W h => Lib.hid (by rw [hy1]; exact rsizet_any (b, g) _ W (hy.below h) hg)
 have hc3 : ∀ W, Below w.heap.size w W → Hid (Calls Try.prog 21 #[.agg #[.string (txt a.name), .string (txt a.key), .int .i64 a.kind, .int .u64 (a.num : Int), .string (txt a.text), .slice A f.len c]] W (Ans9 (.bool (rgtX (a, f))) W)) := fun W h => Lib.hid (rright_any (a, f) _ W (hx.below h) hf)
 have hc4 : ∀ W, Below w.heap.size w W → Hid (Calls Try.prog 21 #[.agg #[.string (txt b.name), .string (txt b.key), .int .i64 b.kind, .int .u64 (b.num : Int), .string (txt b.text), .slice B g.len d]] W (Ans9 (.bool (rgtX (b, g))) W)) := fun W h => Lib.hid (rright_any (b, g) _ W (hy.below h) hg)
 have C1 := Lib.hid hc1
 have C2 := Lib.hid hc2
 have C3 := Lib.hid hc3
 have C4 := Lib.hid hc4
 have HX := Lib.hid hb1
 have HY := Lib.hid hb2
 have HB := Lib.hid hbw
 have lz : z ≤ 1000001 := by omega
 have ly : y ≤ 1000001 := by omega
 by_cases h1 : f.size + 1 ≤ 300
 ·have j1 : ¬ (300 : Int) < (z : Int) := by omega
  by_cases h2 : g.size + 1 ≤ 300
  ·have j2 : ¬ (300 : Int) < (y : Int) := by omega
   by_cases h3 : a.kind = 0
   ·have j3 : (a.kind != 0) = false := by simp [h3]
    by_cases h4 : b.kind = 0
    ·have j4 : (b.kind != 0) = false := by simp [h4]
     cases h5 : rgtX (a, f) with
     | true =>
      cases h6 : rgtX (b, g) with
      | true =>
       rw [h5] at hc3
       rw [h6] at hc4
       replace C3 := Lib.hid hc3
       replace C4 := Lib.hid hc4
       have HV : Hid (smallX a b f g = true) := Lib.hid (by simp [smallX, h1, h2, h3, h4, h5, h6])
       clear h1 h2 h3 h4 h5 h6
       clear hx hy hf hg hc1 hc2 hc3 hc4 hb1 hb2 hbw
       go_enter Try.func8, Try.ntmps8
       go_wp2_with fail
       refine (C1.out _ HB.out).out.mono ?_
       rintro r w1 ⟨rfl, hb⟩
       have HX1 := Lib.hid (HX.out.below hb HX.out.lt)
       have HY1 := Lib.hid (HY.out.below hb HY.out.lt)
       have HB1 := Lib.hid (HB.out.trans (hb.mono HB.out.size))
       clear hb
       have q0 := (HX1.out.cell 0).trans rfl
       have q1 := (HX1.out.cell 1).trans rfl
       have q2 := (HX1.out.cell 2).trans rfl
       have q3 := (HX1.out.cell 3).trans rfl
       have q4 := (HX1.out.cell 4).trans rfl
       have q5 := (HX1.out.cell 5).trans rfl
       have x0 := (HY1.out.cell 0).trans rfl
       have x1 := (HY1.out.cell 1).trans rfl
       have x2 := (HY1.out.cell 2).trans rfl
       have x3 := (HY1.out.cell 3).trans rfl
       have x4 := (HY1.out.cell 4).trans rfl
       have x5 := (HY1.out.cell 5).trans rfl
       go_wp2_with fail
       refine (C2.out _ HB1.out).out.mono ?_
       rintro r w2 ⟨rfl, hb⟩
       have HX2 := Lib.hid (HX1.out.below hb HX1.out.lt)
       have HY2 := Lib.hid (HY1.out.below hb HY1.out.lt)
       have HB2 := Lib.hid (HB1.out.trans (hb.mono HB1.out.size))
       clear hb
       have q0 := (HX2.out.cell 0).trans rfl
       have q1 := (HX2.out.cell 1).trans rfl
       have q2 := (HX2.out.cell 2).trans rfl
       have q3 := (HX2.out.cell 3).trans rfl
       have q4 := (HX2.out.cell 4).trans rfl
       have q5 := (HX2.out.cell 5).trans rfl
       have x0 := (HY2.out.cell 0).trans rfl
       have x1 := (HY2.out.cell 1).trans rfl
       have x2 := (HY2.out.cell 2).trans rfl
       have x3 := (HY2.out.cell 3).trans rfl
       have x4 := (HY2.out.cell 4).trans rfl
       have x5 := (HY2.out.cell 5).trans rfl
       go_wp2_with fail
       refine (C3.out _ HB2.out).out.mono ?_
       rintro r w3 ⟨rfl, hb⟩
       have HX3 := Lib.hid (HX2.out.below hb HX2.out.lt)
       have HY3 := Lib.hid (HY2.out.below hb HY2.out.lt)
       have HB3 := Lib.hid (HB2.out.trans (hb.mono HB2.out.size))
       clear hb
       have q0 := (HX3.out.cell 0).trans rfl
       have q1 := (HX3.out.cell 1).trans rfl
       have q2 := (HX3.out.cell 2).trans rfl
       have q3 := (HX3.out.cell 3).trans rfl
       have q4 := (HX3.out.cell 4).trans rfl
       have q5 := (HX3.out.cell 5).trans rfl
       have x0 := (HY3.out.cell 0).trans rfl
       have x1 := (HY3.out.cell 1).trans rfl
       have x2 := (HY3.out.cell 2).trans rfl
       have x3 := (HY3.out.cell 3).trans rfl
       have x4 := (HY3.out.cell 4).trans rfl
       have x5 := (HY3.out.cell 5).trans rfl
       go_wp2_with fail
       refine (C4.out _ HB3.out).out.mono ?_
       rintro r w4 ⟨rfl, hb⟩
       have HX4 := Lib.hid (HX3.out.below hb HX3.out.lt)
       have HY4 := Lib.hid (HY3.out.below hb HY3.out.lt)
       have HB4 := Lib.hid (HB3.out.trans (hb.mono HB3.out.size))
       clear hb
       go_wp2
       go_ret
       exact ⟨congrArg (fun b => Ending.returned (Value.bool b)) HV.out.symm, HB4.out⟩
      | false =>
       rw [h5] at hc3
       rw [h6] at hc4
       replace C3 := Lib.hid hc3
       replace C4 := Lib.hid hc4
       have HV : Hid (smallX a b f g = false) := Lib.hid (by simp [smallX, h6])
       clear h1 h2 h3 h4 h5 h6
       clear hx hy hf hg hc1 hc2 hc3 hc4 hb1 hb2 hbw
       go_enter Try.func8, Try.ntmps8
       go_wp2_with fail
       refine (C1.out _ HB.out).out.mono ?_
       rintro r w1 ⟨rfl, hb⟩
       have HX1 := Lib.hid (HX.out.below hb HX.out.lt)
       have HY1 := Lib.hid (HY.out.below hb HY.out.lt)
       have HB1 := Lib.hid (HB.out.trans (hb.mono HB.out.size))
       clear hb
       have q0 := (HX1.out.cell 0).trans rfl
       have q1 := (HX1.out.cell 1).trans rfl
       have q2 := (HX1.out.cell 2).trans rfl
       have q3 := (HX1.out.cell 3).trans rfl
       have q4 := (HX1.out.cell 4).trans rfl
       have q5 := (HX1.out.cell 5).trans rfl
       have x0 := (HY1.out.cell 0).trans rfl
       have x1 := (HY1.out.cell 1).trans rfl
       have x2 := (HY1.out.cell 2).trans rfl
       have x3 := (HY1.out.cell 3).trans rfl
       have x4 := (HY1.out.cell 4).trans rfl
       have x5 := (HY1.out.cell 5).trans rfl
       go_wp2_with fail
       refine (C2.out _ HB1.out).out.mono ?_
       rintro r w2 ⟨rfl, hb⟩
       have HX2 := Lib.hid (HX1.out.below hb HX1.out.lt)
       have HY2 := Lib.hid (HY1.out.below hb HY1.out.lt)
       have HB2 := Lib.hid (HB1.out.trans (hb.mono HB1.out.size))
       clear hb
       have q0 := (HX2.out.cell 0).trans rfl
       have q1 := (HX2.out.cell 1).trans rfl
       have q2 := (HX2.out.cell 2).trans rfl
       have q3 := (HX2.out.cell 3).trans rfl
       have q4 := (HX2.out.cell 4).trans rfl
       have q5 := (HX2.out.cell 5).trans rfl
       have x0 := (HY2.out.cell 0).trans rfl
       have x1 := (HY2.out.cell 1).trans rfl
       have x2 := (HY2.out.cell 2).trans rfl
       have x3 := (HY2.out.cell 3).trans rfl
       have x4 := (HY2.out.cell 4).trans rfl
       have x5 := (HY2.out.cell 5).trans rfl
       go_wp2_with fail
       refine (C3.out _ HB2.out).out.mono ?_
       rintro r w3 ⟨rfl, hb⟩
       have HX3 := Lib.hid (HX2.out.below hb HX2.out.lt)
       have HY3 := Lib.hid (HY2.out.below hb HY2.out.lt)
       have HB3 := Lib.hid (HB2.out.trans (hb.mono HB2.out.size))
       clear hb
       have q0 := (HX3.out.cell 0).trans rfl
       have q1 := (HX3.out.cell 1).trans rfl
       have q2 := (HX3.out.cell 2).trans rfl
       have q3 := (HX3.out.cell 3).trans rfl
       have q4 := (HX3.out.cell 4).trans rfl
       have q5 := (HX3.out.cell 5).trans rfl
       have x0 := (HY3.out.cell 0).trans rfl
       have x1 := (HY3.out.cell 1).trans rfl
       have x2 := (HY3.out.cell 2).trans rfl
       have x3 := (HY3.out.cell 3).trans rfl
       have x4 := (HY3.out.cell 4).trans rfl
       have x5 := (HY3.out.cell 5).trans rfl
       go_wp2_with fail
       refine (C4.out _ HB3.out).out.mono ?_
       rintro r w4 ⟨rfl, hb⟩
       have HX4 := Lib.hid (HX3.out.below hb HX3.out.lt)
       have HY4 := Lib.hid (HY3.out.below hb HY3.out.lt)
       have HB4 := Lib.hid (HB3.out.trans (hb.mono HB3.out.size))
       clear hb
       go_wp2
       go_ret
       exact ⟨congrArg (fun b => Ending.returned (Value.bool b)) HV.out.symm, HB4.out⟩
     | false =>
      rw [h5] at hc3
      replace C3 := Lib.hid hc3
      have HV : Hid (smallX a b f g = false) := Lib.hid (by simp [smallX, h5])
      clear h1 h2 h3 h4 h5
      clear hx hy hf hg hc1 hc2 hc3 hc4 hb1 hb2 hbw
      go_enter Try.func8, Try.ntmps8
      go_wp2_with fail
      refine (C1.out _ HB.out).out.mono ?_
      rintro r w1 ⟨rfl, hb⟩
      have HX1 := Lib.hid (HX.out.below hb HX.out.lt)
      have HY1 := Lib.hid (HY.out.below hb HY.out.lt)
      have HB1 := Lib.hid (HB.out.trans (hb.mono HB.out.size))
      clear hb
      have q0 := (HX1.out.cell 0).trans rfl
      have q1 := (HX1.out.cell 1).trans rfl
      have q2 := (HX1.out.cell 2).trans rfl
      have q3 := (HX1.out.cell 3).trans rfl
      have q4 := (HX1.out.cell 4).trans rfl
      have q5 := (HX1.out.cell 5).trans rfl
      have x0 := (HY1.out.cell 0).trans rfl
      have x1 := (HY1.out.cell 1).trans rfl
      have x2 := (HY1.out.cell 2).trans rfl
      have x3 := (HY1.out.cell 3).trans rfl
      have x4 := (HY1.out.cell 4).trans rfl
      have x5 := (HY1.out.cell 5).trans rfl
      go_wp2_with fail
      refine (C2.out _ HB1.out).out.mono ?_
      rintro r w2 ⟨rfl, hb⟩
      have HX2 := Lib.hid (HX1.out.below hb HX1.out.lt)
      have HY2 := Lib.hid (HY1.out.below hb HY1.out.lt)
      have HB2 := Lib.hid (HB1.out.trans (hb.mono HB1.out.size))
      clear hb
      have q0 := (HX2.out.cell 0).trans rfl
      have q1 := (HX2.out.cell 1).trans rfl
      have q2 := (HX2.out.cell 2).trans rfl
      have q3 := (HX2.out.cell 3).trans rfl
      have q4 := (HX2.out.cell 4).trans rfl
      have q5 := (HX2.out.cell 5).trans rfl
      have x0 := (HY2.out.cell 0).trans rfl
      have x1 := (HY2.out.cell 1).trans rfl
      have x2 := (HY2.out.cell 2).trans rfl
      have x3 := (HY2.out.cell 3).trans rfl
      have x4 := (HY2.out.cell 4).trans rfl
      have x5 := (HY2.out.cell 5).trans rfl
      go_wp2_with fail
      refine (C3.out _ HB2.out).out.mono ?_
      rintro r w3 ⟨rfl, hb⟩
      have HX3 := Lib.hid (HX2.out.below hb HX2.out.lt)
      have HY3 := Lib.hid (HY2.out.below hb HY2.out.lt)
      have HB3 := Lib.hid (HB2.out.trans (hb.mono HB2.out.size))
      clear hb
      have q0 := (HX3.out.cell 0).trans rfl
      have q1 := (HX3.out.cell 1).trans rfl
      have q2 := (HX3.out.cell 2).trans rfl
      have q3 := (HX3.out.cell 3).trans rfl
      have q4 := (HX3.out.cell 4).trans rfl
      have q5 := (HX3.out.cell 5).trans rfl
      have x0 := (HY3.out.cell 0).trans rfl
      have x1 := (HY3.out.cell 1).trans rfl
      have x2 := (HY3.out.cell 2).trans rfl
      have x3 := (HY3.out.cell 3).trans rfl
      have x4 := (HY3.out.cell 4).trans rfl
      have x5 := (HY3.out.cell 5).trans rfl
      go_wp2
      go_ret
      exact ⟨congrArg (fun b => Ending.returned (Value.bool b)) HV.out.symm, HB3.out⟩
    ·have j4 : (b.kind != 0) = true := by simp [h4]
     have HV : Hid (smallX a b f g = false) := Lib.hid (by simp [smallX, h4])
     clear h1 h2 h3 h4
     clear hx hy hf hg hc1 hc2 hc3 hc4 hb1 hb2 hbw
     go_enter Try.func8, Try.ntmps8
     go_wp2_with fail
     refine (C1.out _ HB.out).out.mono ?_
     rintro r w1 ⟨rfl, hb⟩
     have HX1 := Lib.hid (HX.out.below hb HX.out.lt)
     have HY1 := Lib.hid (HY.out.below hb HY.out.lt)
     have HB1 := Lib.hid (HB.out.trans (hb.mono HB.out.size))
     clear hb
     have q0 := (HX1.out.cell 0).trans rfl
     have q1 := (HX1.out.cell 1).trans rfl
     have q2 := (HX1.out.cell 2).trans rfl
     have q3 := (HX1.out.cell 3).trans rfl
     have q4 := (HX1.out.cell 4).trans rfl
     have q5 := (HX1.out.cell 5).trans rfl
     have x0 := (HY1.out.cell 0).trans rfl
     have x1 := (HY1.out.cell 1).trans rfl
     have x2 := (HY1.out.cell 2).trans rfl
     have x3 := (HY1.out.cell 3).trans rfl
     have x4 := (HY1.out.cell 4).trans rfl
     have x5 := (HY1.out.cell 5).trans rfl
     go_wp2_with fail
     refine (C2.out _ HB1.out).out.mono ?_
     rintro r w2 ⟨rfl, hb⟩
     have HX2 := Lib.hid (HX1.out.below hb HX1.out.lt)
     have HY2 := Lib.hid (HY1.out.below hb HY1.out.lt)
     have HB2 := Lib.hid (HB1.out.trans (hb.mono HB1.out.size))
     clear hb
     have q0 := (HX2.out.cell 0).trans rfl
     have q1 := (HX2.out.cell 1).trans rfl
     have q2 := (HX2.out.cell 2).trans rfl
     have q3 := (HX2.out.cell 3).trans rfl
     have q4 := (HX2.out.cell 4).trans rfl
     have q5 := (HX2.out.cell 5).trans rfl
     have x0 := (HY2.out.cell 0).trans rfl
     have x1 := (HY2.out.cell 1).trans rfl
     have x2 := (HY2.out.cell 2).trans rfl
     have x3 := (HY2.out.cell 3).trans rfl
     have x4 := (HY2.out.cell 4).trans rfl
     have x5 := (HY2.out.cell 5).trans rfl
     go_wp2
     go_ret
     exact ⟨congrArg (fun b => Ending.returned (Value.bool b)) HV.out.symm, HB2.out⟩
   ·have j3 : (a.kind != 0) = true := by simp [h3]
    have HV : Hid (smallX a b f g = false) := Lib.hid (by simp [smallX, h3])
    clear h1 h2 h3
    clear hx hy hf hg hc1 hc2 hc3 hc4 hb1 hb2 hbw
    go_enter Try.func8, Try.ntmps8
    go_wp2_with fail
    refine (C1.out _ HB.out).out.mono ?_
    rintro r w1 ⟨rfl, hb⟩
    have HX1 := Lib.hid (HX.out.below hb HX.out.lt)
    have HY1 := Lib.hid (HY.out.below hb HY.out.lt)
    have HB1 := Lib.hid (HB.out.trans (hb.mono HB.out.size))
    clear hb
    have q0 := (HX1.out.cell 0).trans rfl
    have q1 := (HX1.out.cell 1).trans rfl
    have q2 := (HX1.out.cell 2).trans rfl
    have q3 := (HX1.out.cell 3).trans rfl
    have q4 := (HX1.out.cell 4).trans rfl
    have q5 := (HX1.out.cell 5).trans rfl
    have x0 := (HY1.out.cell 0).trans rfl
    have x1 := (HY1.out.cell 1).trans rfl
    have x2 := (HY1.out.cell 2).trans rfl
    have x3 := (HY1.out.cell 3).trans rfl
    have x4 := (HY1.out.cell 4).trans rfl
    have x5 := (HY1.out.cell 5).trans rfl
    go_wp2_with fail
    refine (C2.out _ HB1.out).out.mono ?_
    rintro r w2 ⟨rfl, hb⟩
    have HX2 := Lib.hid (HX1.out.below hb HX1.out.lt)
    have HY2 := Lib.hid (HY1.out.below hb HY1.out.lt)
    have HB2 := Lib.hid (HB1.out.trans (hb.mono HB1.out.size))
    clear hb
    have q0 := (HX2.out.cell 0).trans rfl
    have q1 := (HX2.out.cell 1).trans rfl
    have q2 := (HX2.out.cell 2).trans rfl
    have q3 := (HX2.out.cell 3).trans rfl
    have q4 := (HX2.out.cell 4).trans rfl
    have q5 := (HX2.out.cell 5).trans rfl
    have x0 := (HY2.out.cell 0).trans rfl
    have x1 := (HY2.out.cell 1).trans rfl
    have x2 := (HY2.out.cell 2).trans rfl
    have x3 := (HY2.out.cell 3).trans rfl
    have x4 := (HY2.out.cell 4).trans rfl
    have x5 := (HY2.out.cell 5).trans rfl
    go_wp2
    go_ret
    exact ⟨congrArg (fun b => Ending.returned (Value.bool b)) HV.out.symm, HB2.out⟩
  ·have j2 : (300 : Int) < (y : Int) := by omega
   have HV : Hid (smallX a b f g = false) := Lib.hid (by simp [smallX, h2])
   clear h1 h2
   clear hx hy hf hg hc1 hc2 hc3 hc4 hb1 hb2 hbw
   go_enter Try.func8, Try.ntmps8
   go_wp2_with fail
   refine (C1.out _ HB.out).out.mono ?_
   rintro r w1 ⟨rfl, hb⟩
   have HX1 := Lib.hid (HX.out.below hb HX.out.lt)
   have HY1 := Lib.hid (HY.out.below hb HY.out.lt)
   have HB1 := Lib.hid (HB.out.trans (hb.mono HB.out.size))
   clear hb
   have q0 := (HX1.out.cell 0).trans rfl
   have q1 := (HX1.out.cell 1).trans rfl
   have q2 := (HX1.out.cell 2).trans rfl
   have q3 := (HX1.out.cell 3).trans rfl
   have q4 := (HX1.out.cell 4).trans rfl
   have q5 := (HX1.out.cell 5).trans rfl
   have x0 := (HY1.out.cell 0).trans rfl
   have x1 := (HY1.out.cell 1).trans rfl
   have x2 := (HY1.out.cell 2).trans rfl
   have x3 := (HY1.out.cell 3).trans rfl
   have x4 := (HY1.out.cell 4).trans rfl
   have x5 := (HY1.out.cell 5).trans rfl
   go_wp2_with fail
   refine (C2.out _ HB1.out).out.mono ?_
   rintro r w2 ⟨rfl, hb⟩
   have HX2 := Lib.hid (HX1.out.below hb HX1.out.lt)
   have HY2 := Lib.hid (HY1.out.below hb HY1.out.lt)
   have HB2 := Lib.hid (HB1.out.trans (hb.mono HB1.out.size))
   clear hb
   have q0 := (HX2.out.cell 0).trans rfl
   have q1 := (HX2.out.cell 1).trans rfl
   have q2 := (HX2.out.cell 2).trans rfl
   have q3 := (HX2.out.cell 3).trans rfl
   have q4 := (HX2.out.cell 4).trans rfl
   have q5 := (HX2.out.cell 5).trans rfl
   have x0 := (HY2.out.cell 0).trans rfl
   have x1 := (HY2.out.cell 1).trans rfl
   have x2 := (HY2.out.cell 2).trans rfl
   have x3 := (HY2.out.cell 3).trans rfl
   have x4 := (HY2.out.cell 4).trans rfl
   have x5 := (HY2.out.cell 5).trans rfl
   go_wp2
   go_ret
   exact ⟨congrArg (fun b => Ending.returned (Value.bool b)) HV.out.symm, HB2.out⟩
 ·have j1 : (300 : Int) < (z : Int) := by omega
  have HV : Hid (smallX a b f g = false) := Lib.hid (by simp [smallX, h1])
  clear h1
  clear hx hy hf hg hc1 hc2 hc3 hc4 hb1 hb2 hbw
  go_enter Try.func8, Try.ntmps8
  go_wp2_with fail
  refine (C1.out _ HB.out).out.mono ?_
  rintro r w1 ⟨rfl, hb⟩
  have HX1 := Lib.hid (HX.out.below hb HX.out.lt)
  have HY1 := Lib.hid (HY.out.below hb HY.out.lt)
  have HB1 := Lib.hid (HB.out.trans (hb.mono HB.out.size))
  clear hb
  have q0 := (HX1.out.cell 0).trans rfl
  have q1 := (HX1.out.cell 1).trans rfl
  have q2 := (HX1.out.cell 2).trans rfl
  have q3 := (HX1.out.cell 3).trans rfl
  have q4 := (HX1.out.cell 4).trans rfl
  have q5 := (HX1.out.cell 5).trans rfl
  have x0 := (HY1.out.cell 0).trans rfl
  have x1 := (HY1.out.cell 1).trans rfl
  have x2 := (HY1.out.cell 2).trans rfl
  have x3 := (HY1.out.cell 3).trans rfl
  have x4 := (HY1.out.cell 4).trans rfl
  have x5 := (HY1.out.cell 5).trans rfl
  go_wp2
  go_ret
  exact ⟨congrArg (fun b => Ending.returned (Value.bool b)) HV.out.symm, HB1.out⟩
end Go.Proofs.Ythdhchhpjoghlaa
namespace Go.Proofs.Ythdhchhpjoghlaa
open Go.RowKit
attribute [local go_sem] Oper.semAt_some
theorem eq_step16 (s t : Stp) (W : World) : (binOp .eql 39 (.agg #[.string (txt s.1), .string (txt s.2)]) (.agg #[.string (txt t.1), .string (txt t.2)])).run Try.prog W = .ok (.bool (decide (s = t))) W := by
 rw [run_eql_struct, show (10000 : Nat) = 9999 + 1 from rfl, run_equalIn_agg W 9999 39 _ _ (by simp only [Program.fieldsOf, Try.underlying39]) (by kernel_rfl)]
 simp only [Program.fieldsOf, Try.underlying39]
 simp only [Op.eqFields]
 go_simp
 simp only [txt_toList]
 by_cases h1 : s.1 = t.1
 ·by_cases h2 : s.2 = t.2
  ·have h : s = t := Prod.ext h1 h2
   simp [h]
  ·have h : s ≠ t := fun e => h2 (congrArg Prod.snd e)
   simp [h1, h2, h]
 ·have h : s ≠ t := fun e => h1 (congrArg Prod.fst e)
  simp [h1, h]
def upD : NdD := ⟨[117, 112], [], 3, 1, []⟩
def upS : Stp := ([117, 112], [])
def upL : List EdD := [newE [upS] (upD, .nil)]
def upM : List EdD := [delE [upS] (upD, .nil)]
theorem up_ed : edF .nil (.cons upD .nil .nil) [] = upL := by rw [edF_new, edF_nil]; rfl
theorem up_inv : invX upL = upM := by decide
theorem up_und : undE upL [] = 1 ∧ undE upL [([120], [])] = 0 := by decide
theorem up_ne : decide (upL = upM) = false := by decide
theorem up_rgt : rgtX (zeroT, .nil) = true ∧ rgtX (zeroT, .cons upD .nil .nil) = true := by decide
theorem up_few : FewE upL := by
 refine ⟨by decide, fun e he => ?_⟩
 obtain rfl : e = _ := by simpa [upL] using he
 exact ⟨by decide, by unfold Few9; decide, by unfold Few9; decide⟩
theorem up_fewM : FewE upM := by
 refine ⟨by decide, fun e he => ?_⟩
 obtain rfl : e = _ := by simpa [upM] using he
 exact ⟨by decide, by unfold Few9; decide, by unfold Few9; decide⟩
set_option maxRecDepth 100000 in
set_option maxHeartbeats 4000000 in
theorem awake16 {W0 : World} (C : DifC W0) : Awake16 W0 := by
 intro w hw
 have hk : Blk ((w.alloc (.cells #[.string ⟨#[117, 112]⟩, .string ⟨#[]⟩, .int .i64 3, .int .u64 1, .string ⟨#[]⟩, .slice none 0 0] 27)).alloc (.cells #[.string ⟨#[117, 112]⟩, .string ⟨#[]⟩, .int .i64 3, .int .u64 1, .string ⟨#[]⟩, .slice none 0 0] 27)) (w.heap.size + 1) 27 #[.string ⟨#[117, 112]⟩, .string ⟨#[]⟩, .int .i64 3, .int .u64 1, .string ⟨#[]⟩, .slice none 0 0] := by
  have h := Blk.new (w.alloc (.cells #[.string ⟨#[117, 112]⟩, .string ⟨#[]⟩, .int .i64 3, .int .u64 1, .string ⟨#[]⟩, .slice none 0 0] 27)) 27 #[.string ⟨#[117, 112]⟩, .string ⟨#[]⟩, .int .i64 3, .int .u64 1, .string ⟨#[]⟩, .slice none 0 0]
  rwa [show (w.alloc (.cells #[.string ⟨#[117, 112]⟩, .string ⟨#[]⟩, .int .i64 3, .int .u64 1, .string ⟨#[]⟩, .slice none 0 0] 27)).heap.size = w.heap.size + 1 by simp] at h
 have hb2 : Below w.heap.size w ((w.alloc (.cells #[.string ⟨#[117, 112]⟩, .string ⟨#[]⟩, .int .i64 3, .int .u64 1, .string ⟨#[]⟩, .slice none 0 0] 27)).alloc (.cells #[.string ⟨#[117, 112]⟩, .string ⟨#[]⟩, .int .i64 3, .int .u64 1, .string ⟨#[]⟩, .slice none 0 0] 27)) := ((Below.refl _ _).alloc (Nat.le_refl _) _).alloc (by simp) _
 have hup : LieN ((w.alloc (.cells #[.string ⟨#[117, 112]⟩, .string ⟨#[]⟩, .int .i64 3, .int .u64 1, .string ⟨#[]⟩, .slice none 0 0] 27)).alloc (.cells #[.string ⟨#[117, 112]⟩, .string ⟨#[]⟩, .int .i64 3, .int .u64 1, .string ⟨#[]⟩, .slice none 0 0] 27)) (ndC upD (.slice none 0 0)) (upD, .nil) := LieB.make (FrV.empty _ _ _)
 have hrow : FrV NdT 6 5 ((w.alloc (.cells #[.string ⟨#[117, 112]⟩, .string ⟨#[]⟩, .int .i64 3, .int .u64 1, .string ⟨#[]⟩, .slice none 0 0] 27)).alloc (.cells #[.string ⟨#[117, 112]⟩, .string ⟨#[]⟩, .int .i64 3, .int .u64 1, .string ⟨#[]⟩, .slice none 0 0] 27)) (fun g => g < ((w.alloc (.cells #[.string ⟨#[117, 112]⟩, .string ⟨#[]⟩, .int .i64 3, .int .u64 1, .string ⟨#[]⟩, .slice none 0 0] 27)).alloc (.cells #[.string ⟨#[117, 112]⟩, .string ⟨#[]⟩, .int .i64 3, .int .u64 1, .string ⟨#[]⟩, .slice none 0 0] 27)).heap.size) noB (.slice (some ⟨w.heap.size + 1, 0, none⟩) (Fr.cons upD .nil .nil : NdF).len 1) (.cons upD .nil .nil) := FrV.lit (xs := ndC upD (.slice none 0 0)) hk.lt hk (rowG.one hup) (Nat.le_refl _)
 have hln : LieN ((w.alloc (.cells #[.string ⟨#[117, 112]⟩, .string ⟨#[]⟩, .int .i64 3, .int .u64 1, .string ⟨#[]⟩, .slice none 0 0] 27)).alloc (.cells #[.string ⟨#[117, 112]⟩, .string ⟨#[]⟩, .int .i64 3, .int .u64 1, .string ⟨#[]⟩, .slice none 0 0] 27)) (ndC zeroT (.slice (some ⟨w.heap.size + 1, 0, none⟩) (Fr.cons upD .nil .nil : NdF).len 1)) (zeroT, .cons upD .nil .nil) := LieB.make hrow
 have hc1 : Calls Try.prog 10 #[.agg #[.string ⟨#[]⟩, .string ⟨#[]⟩, .int .i64 0, .int .u64 0, .string ⟨#[]⟩, .slice none 0 0], .agg #[.string ⟨#[]⟩, .string ⟨#[]⟩, .int .i64 0, .int .u64 0, .string ⟨#[]⟩, .slice (some ⟨w.heap.size + 1, 0, none⟩) 1 1]] ((w.alloc (.cells #[.string ⟨#[117, 112]⟩, .string ⟨#[]⟩, .int .i64 3, .int .u64 1, .string ⟨#[]⟩, .slice none 0 0] 27)).alloc (.cells #[.string ⟨#[117, 112]⟩, .string ⟨#[]⟩, .int .i64 3, .int .u64 1, .string ⟨#[]⟩, .slice none 0 0] 27)) (InvP upL ((w.alloc (.cells #[.string ⟨#[117, 112]⟩, .string ⟨#[]⟩, .int .i64 3, .int .u64 1, .string ⟨#[]⟩, .slice none 0 0] 27)).alloc (.cells #[.string ⟨#[117, 112]⟩, .string ⟨#[]⟩, .int .i64 3, .int .u64 1, .string ⟨#[]⟩, .slice none 0 0] 27))) := by
  have h := C.edits zeroT zeroT .nil (.cons upD .nil .nil) none (some ⟨w.heap.size + 1, 0, none⟩) 0 1 ((w.alloc (.cells #[.string ⟨#[117, 112]⟩, .string ⟨#[]⟩, .int .i64 3, .int .u64 1, .string ⟨#[]⟩, .slice none 0 0] 27)).alloc (.cells #[.string ⟨#[117, 112]⟩, .string ⟨#[]⟩, .int .i64 3, .int .u64 1, .string ⟨#[]⟩, .slice none 0 0] 27)) (LieB.zero _ _) hln (by decide) rfl rfl up_rgt.1 up_rgt.2 (hw.trans (hb2.mono hw.size))
  rw [up_ed] at h
  exact h
 have hc2 : ∀ v W, Below w.heap.size w W → EdsV (Bel W) W v upL → Hid (Calls Try.prog 13 #[v] W (InvP upM W)) := fun v W h hv => Lib.hid (up_inv ▸ C.inv upL v W hv up_few (hw.trans (h.mono hw.size)))
 have hc3 : ∀ v W, Below w.heap.size w W → EdsV (Bel W) W v upL → Hid (Calls Try.prog 17 #[v, v] W (Ans9 (.bool true) W)) := fun v W h hv => Lib.hid (by
  have h3 := C.same upL upL v v W hv hv up_few up_few (hw.trans (h.mono hw.size))
  rwa [decide_eq_true rfl] at h3)
 have hc4 : ∀ v u W, Below w.heap.size w W → EdsV (Bel W) W v upL → EdsV (Bel W) W u upM → Hid (Calls Try.prog 17 #[v, u] W (Ans9 (.bool false) W)) := fun v u W h hv hu => Lib.hid (by
  have h3 := C.same upL upM v u W hv hu up_few up_fewM (hw.trans (h.mono hw.size))
  rwa [up_ne] at h3)
 have hc5 : ∀ v W, Below w.heap.size w W → EdsV (Bel W) W v upL → Hid (Calls Try.prog 15 #[v, .slice none 0 0] W (Ans9 (.int .i64 1) W)) := fun v W h hv => Lib.hid (by
  have h3 := C.under upL [] v (.slice none 0 0) W hv (WayV.nil _ _ _ _) up_few (by decide) (hw.trans (h.mono hw.size))
  rwa [up_und.1] at h3)
 have hc6 : ∀ v u W, Below w.heap.size w W → EdsV (Bel W) W v upL → WayV W.heap.size W u [([120], [])] → Hid (Calls Try.prog 15 #[v, u] W (Ans9 (.int .i64 0) W)) := fun v u W h hv hu => Lib.hid (by
  have h3 := C.under upL _ v u W hv hu up_few (by decide) (hw.trans (h.mono hw.size))
  rwa [up_und.2] at h3)
 have C1 := Lib.hid hc1
 have C2 := Lib.hid hc2
 have C3 := Lib.hid hc3
 have C4 := Lib.hid hc4
 have C5 := Lib.hid hc5
 have C6 := Lib.hid hc6
 have HW := Lib.hid hb2
 clear hk hb2 hup hrow hln hc1 hc2 hc3 hc4 hc5 hc6 C hw
 go_enter Try.func7, Try.ntmps7
 go_wp2_with fail
 refine C1.out.mono ?_
 rintro r w3 ⟨v3, rfl, hv, hb⟩
 obtain ⟨A3, c3, rfl⟩ : ∃ A c, v3 = .slice A 1 c := hv.shape
 have HL3 := Lib.hid hv
 have HB3 := Lib.hid (HW.out.trans (hb.mono HW.out.size))
 clear hv hb
 go_wp2_with fail
 refine (C2.out _ _ HB3.out HL3.out).out.mono ?_
 rintro r w4 ⟨v4, rfl, hv, hb⟩
 obtain ⟨A4, c4, rfl⟩ : ∃ A c, v4 = .slice A 1 c := hv.shape
 have HM4 := Lib.hid hv
 have HL4 := Lib.hid (HL3.out.below hb)
 have HB4 := Lib.hid (HB3.out.trans (hb.mono HB3.out.size))
 clear hv hb
 obtain ⟨g, o, Aw, cw, An, cn, Ao, co, eA, -, lc, -, hwy, -, -, hcl⟩ := HL4.out.at (j := 0) (e := newE [upS] (upD, .nil)) rfl
 subst eA
 have k0 : w4.cell? ⟨g, o, none⟩ = some (.int .i64 1) := hcl 0 _ rfl
 have k1 : w4.cell? ⟨g, o + 1, none⟩ = some (.slice Aw 1 cw) := hcl 1 _ rfl
 obtain ⟨g2, o2, eA, -, -, -, k3, k4⟩ := WayV.at hwy.v (j := 0) (s := upS) rfl
 subst eA
 have c0 : w4.cell? ⟨g2, o2, none⟩ = some (.string ⟨#[117, 112]⟩) := k3
 have c1 : w4.cell? ⟨g2, o2 + 1, none⟩ = some (.string ⟨#[]⟩) := k4
 obtain ⟨g5, o5, Av, cv, An', cn', Ao', co', eA, -, -, -, -, -, -, hcl5⟩ := HM4.out.at (j := 0) (e := delE [upS] (upD, .nil)) rfl
 subst eA
 have k5 : w4.cell? ⟨g5, o5, none⟩ = some (.int .i64 2) := hcl5 0 _ rfl
 have e1 : ∀ W, (binOp .eql 39 (.agg #[.string ⟨#[117, 112]⟩, .string ⟨#[]⟩]) (.agg #[.string ⟨#[117, 112]⟩, .string ⟨#[]⟩])).run Try.prog W = .ok (.bool true) W := fun W => (eq_step16 upS upS W).trans (by simp)
 clear hcl hwy k3 k4 hcl5 lc
 go_wp2_with fail
 refine (C3.out _ _ HB4.out HL4.out).out.mono ?_
 rintro r w5 ⟨rfl, hb⟩
 have HL5 := Lib.hid (HL4.out.below hb)
 have HM5 := Lib.hid (HM4.out.below hb)
 have HB5 := Lib.hid (HB4.out.trans (hb.mono HB4.out.size))
 clear hb k0 k1 c0 c1 k5 e1
 go_wp2_with fail
 refine (C4.out _ _ _ HB5.out HL5.out HM5.out).out.mono ?_
 rintro r w6 ⟨rfl, hb⟩
 have HL6 := Lib.hid (HL5.out.below hb)
 have HB6 := Lib.hid (HB5.out.trans (hb.mono HB5.out.size))
 clear hb
 go_wp2_with fail
 refine (C5.out _ _ HB6.out HL6.out).out.mono ?_
 rintro r w7 ⟨rfl, hb⟩
 have hal : Below w7.heap.size w7 (w7.alloc (.cells #[.string ⟨#[120]⟩, .string ⟨#[]⟩] 39)) := (Below.refl _ _).alloc (Nat.le_refl _) _
 have HL8 := Lib.hid (HL6.out.below (hb.trans (hal.mono hb.size)))
 have HB8 := Lib.hid (HB6.out.trans ((hb.trans (hal.mono hb.size)).mono HB6.out.size))
 have HSL8 : Hid (WayV (w7.alloc (.cells #[.string ⟨#[120]⟩, .string ⟨#[]⟩] 39)).heap.size (w7.alloc (.cells #[.string ⟨#[120]⟩, .string ⟨#[]⟩] 39)) (.slice (some ⟨w7.heap.size, 0, none⟩) 1 1) [([120], [])]) := Lib.hid (OwnS.one (w := w7) ([120], []) (base := 0) (Nat.zero_le _)).way
 clear hb hal
 go_wp2_with fail
 refine (C6.out _ _ _ HB8.out HL8.out HSL8.out).out.mono ?_
 rintro r w9 ⟨rfl, hb⟩
 have HB9 := Lib.hid (HB8.out.trans (hb.mono HB8.out.size))
 clear hb
 go_wp2
 go_ret
 exact ⟨rfl, HB9.out⟩
end Go.Proofs.Ythdhchhpjoghlaa
