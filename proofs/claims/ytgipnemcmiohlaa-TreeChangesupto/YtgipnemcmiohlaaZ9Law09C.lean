/- What the laws of package tree want of Law09C. -/
import Derived.Test.YtgipnemcmiohlaaZ9Law09A
namespace Go.Proofs.Ytgipnemcmiohlaa
open Go.RowKit
set_option linter.unusedSimpArgs false
set_option linter.unusedVariables false
set_option maxRecDepth 100000 in
set_option maxHeartbeats 8000000 in
theorem treeChanges_none (a b : NdD) (f g : NdF) (A B : Option Addr) (c d : Nat) (l : List Stp) (V : Option Addr) (N m : Nat) (w : World) (hx : LieN w (ndC a (.slice A f.len c)) (a, f)) (hy : LieN w (ndC b (.slice B g.len d)) (b, g)) (hv : WayV w.heap.size w (.slice V N m) l) (hN : N = l.length) (hf : f.size ≤ 1000000) (hg : g.size ≤ 1000000) (HA : Awake9 w) (h1 : decide (f.size + 1 ≤ 300) = false) (h2 : decide (g.size + 1 ≤ 300) = false) :
    Calls Try.prog 4 #[.agg #[.string (txt a.name), .string (txt a.key), .int .i64 a.kind, .int .u64 (a.num : Int), .string (txt a.text), .slice A f.len c], .slice V N m, .agg #[.string (txt b.name), .string (txt b.key), .int .i64 b.kind, .int .u64 (b.num : Int), .string (txt b.text), .slice B g.len d]] w (Ans9 (.bool true) w) := by
  have hb2 : Blk ((w.alloc (.cells #[.string (txt a.name), .string (txt a.key), .int .i64 a.kind, .int .u64 (a.num : Int), .string (txt a.text), .slice A f.len c] 27)).alloc (.cells #[.string (txt b.name), .string (txt b.key), .int .i64 b.kind, .int .u64 (b.num : Int), .string (txt b.text), .slice B g.len d] 27)) (w.heap.size + 1) 27 #[.string (txt b.name), .string (txt b.key), .int .i64 b.kind, .int .u64 (b.num : Int), .string (txt b.text), .slice B g.len d] := by
    have h := Blk.new (w.alloc (.cells #[.string (txt a.name), .string (txt a.key), .int .i64 a.kind, .int .u64 (a.num : Int), .string (txt a.text), .slice A f.len c] 27)) 27 #[.string (txt b.name), .string (txt b.key), .int .i64 b.kind, .int .u64 (b.num : Int), .string (txt b.text), .slice B g.len d]
    rw [show (w.alloc (.cells #[.string (txt a.name), .string (txt a.key), .int .i64 a.kind, .int .u64 (a.num : Int), .string (txt a.text), .slice A f.len c] 27)).heap.size = w.heap.size + 1 by simp] at h
    exact h
  have HX := Lib.hid ((Blk.new w 27 #[.string (txt a.name), .string (txt a.key), .int .i64 a.kind, .int .u64 (a.num : Int), .string (txt a.text), .slice A f.len c]).alloc (.cells #[.string (txt b.name), .string (txt b.key), .int .i64 b.kind, .int .u64 (b.num : Int), .string (txt b.text), .slice B g.len d] 27))
  have HY := Lib.hid hb2
  have HB : Hid (Below w.heap.size w ((w.alloc (.cells #[.string (txt a.name), .string (txt a.key), .int .i64 a.kind, .int .u64 (a.num : Int), .string (txt a.text), .slice A f.len c] 27)).alloc (.cells #[.string (txt b.name), .string (txt b.key), .int .i64 b.kind, .int .u64 (b.num : Int), .string (txt b.text), .slice B g.len d] 27))) := Lib.hid (((Below.refl _ _).alloc (Nat.le_refl _) _).alloc (by simp) _)
  clear hb2
  have KA := Lib.hid HA
  have K1 : Hid (∀ W, Below w.heap.size w W → Calls Try.prog 9 #[.agg #[.string (txt a.name), .string (txt a.key), .int .i64 a.kind, .int .u64 (a.num : Int), .string (txt a.text), .slice A f.len c]] W (Ans9 (.bool false) W)) := Lib.hid (fun W hW => by have h := small_q hx hf W hW; rwa [h1] at h)
  have K2 : Hid (∀ W, Below w.heap.size w W → Calls Try.prog 9 #[.agg #[.string (txt b.name), .string (txt b.key), .int .i64 b.kind, .int .u64 (b.num : Int), .string (txt b.text), .slice B g.len d]] W (Ans9 (.bool false) W)) := Lib.hid (fun W hW => by have h := small_q hy hg W hW; rwa [h2] at h)
  clear HA hx hy hv hf hg h1 h2 hN
  go_enter Try.func4, Try.ntmps4
  go_wp2_with fail
  refine (KA.out _ HB.out).mono ?_
  rintro r w1 ⟨rfl, hb⟩
  replace HX := Lib.hid (HX.out.below hb HX.out.lt)
  replace HY := Lib.hid (HY.out.below hb HY.out.lt)
  replace HB := Lib.hid (HB.out.trans (hb.mono HB.out.size))
  clear hb
  have ld0_0 := (HX.out.cell 0).trans rfl
  have ld0_1 := (HX.out.cell 1).trans rfl
  have ld0_2 := (HX.out.cell 2).trans rfl
  have ld0_3 := (HX.out.cell 3).trans rfl
  have ld0_4 := (HX.out.cell 4).trans rfl
  have ld0_5 := (HX.out.cell 5).trans rfl
  go_wp2_with fail
  refine (K1.out _ HB.out).mono ?_
  rintro r w2 ⟨rfl, hb⟩
  replace HX := Lib.hid (HX.out.below hb HX.out.lt)
  replace HY := Lib.hid (HY.out.below hb HY.out.lt)
  replace HB := Lib.hid (HB.out.trans (hb.mono HB.out.size))
  clear ld0_0 ld0_1 ld0_2 ld0_3 ld0_4 ld0_5 hb
  have ld0_0 := (HY.out.cell 0).trans rfl
  have ld0_1 := (HY.out.cell 1).trans rfl
  have ld0_2 := (HY.out.cell 2).trans rfl
  have ld0_3 := (HY.out.cell 3).trans rfl
  have ld0_4 := (HY.out.cell 4).trans rfl
  have ld0_5 := (HY.out.cell 5).trans rfl
  go_wp2_with fail
  refine (K2.out _ HB.out).mono ?_
  rintro r w3 ⟨rfl, hb⟩
  replace HX := Lib.hid (HX.out.below hb HX.out.lt)
  replace HY := Lib.hid (HY.out.below hb HY.out.lt)
  replace HB := Lib.hid (HB.out.trans (hb.mono HB.out.size))
  clear ld0_0 ld0_1 ld0_2 ld0_3 ld0_4 ld0_5 hb
  go_wp2
  go_ret
  exact ⟨rfl, HB.out⟩
set_option maxRecDepth 100000 in
set_option maxHeartbeats 8000000 in
theorem treeChanges_two (a b : NdD) (f g : NdF) (A B : Option Addr) (c d : Nat) (l : List Stp) (V : Option Addr) (N m : Nat) (w : World) (hx : LieN w (ndC a (.slice A f.len c)) (a, f)) (hy : LieN w (ndC b (.slice B g.len d)) (b, g)) (hv : WayV w.heap.size w (.slice V N m) l) (hN : N = l.length) (hf : f.size ≤ 1000000) (hg : g.size ≤ 1000000) (HA : Awake9 w) (h1 : decide (f.size + 1 ≤ 300) = false) (h2 : decide (g.size + 1 ≤ 300) = true) :
    Calls Try.prog 4 #[.agg #[.string (txt a.name), .string (txt a.key), .int .i64 a.kind, .int .u64 (a.num : Int), .string (txt a.text), .slice A f.len c], .slice V N m, .agg #[.string (txt b.name), .string (txt b.key), .int .i64 b.kind, .int .u64 (b.num : Int), .string (txt b.text), .slice B g.len d]] w (Ans9 (.bool true) w) := by
  have hb2 : Blk ((w.alloc (.cells #[.string (txt a.name), .string (txt a.key), .int .i64 a.kind, .int .u64 (a.num : Int), .string (txt a.text), .slice A f.len c] 27)).alloc (.cells #[.string (txt b.name), .string (txt b.key), .int .i64 b.kind, .int .u64 (b.num : Int), .string (txt b.text), .slice B g.len d] 27)) (w.heap.size + 1) 27 #[.string (txt b.name), .string (txt b.key), .int .i64 b.kind, .int .u64 (b.num : Int), .string (txt b.text), .slice B g.len d] := by
    have h := Blk.new (w.alloc (.cells #[.string (txt a.name), .string (txt a.key), .int .i64 a.kind, .int .u64 (a.num : Int), .string (txt a.text), .slice A f.len c] 27)) 27 #[.string (txt b.name), .string (txt b.key), .int .i64 b.kind, .int .u64 (b.num : Int), .string (txt b.text), .slice B g.len d]
    rw [show (w.alloc (.cells #[.string (txt a.name), .string (txt a.key), .int .i64 a.kind, .int .u64 (a.num : Int), .string (txt a.text), .slice A f.len c] 27)).heap.size = w.heap.size + 1 by simp] at h
    exact h
  have HX := Lib.hid ((Blk.new w 27 #[.string (txt a.name), .string (txt a.key), .int .i64 a.kind, .int .u64 (a.num : Int), .string (txt a.text), .slice A f.len c]).alloc (.cells #[.string (txt b.name), .string (txt b.key), .int .i64 b.kind, .int .u64 (b.num : Int), .string (txt b.text), .slice B g.len d] 27))
  have HY := Lib.hid hb2
  have HB : Hid (Below w.heap.size w ((w.alloc (.cells #[.string (txt a.name), .string (txt a.key), .int .i64 a.kind, .int .u64 (a.num : Int), .string (txt a.text), .slice A f.len c] 27)).alloc (.cells #[.string (txt b.name), .string (txt b.key), .int .i64 b.kind, .int .u64 (b.num : Int), .string (txt b.text), .slice B g.len d] 27))) := Lib.hid (((Below.refl _ _).alloc (Nat.le_refl _) _).alloc (by simp) _)
  clear hb2
  have KA := Lib.hid HA
  have K1 : Hid (∀ W, Below w.heap.size w W → Calls Try.prog 9 #[.agg #[.string (txt a.name), .string (txt a.key), .int .i64 a.kind, .int .u64 (a.num : Int), .string (txt a.text), .slice A f.len c]] W (Ans9 (.bool false) W)) := Lib.hid (fun W hW => by have h := small_q hx hf W hW; rwa [h1] at h)
  have K2 : Hid (∀ W, Below w.heap.size w W → Calls Try.prog 9 #[.agg #[.string (txt b.name), .string (txt b.key), .int .i64 b.kind, .int .u64 (b.num : Int), .string (txt b.text), .slice B g.len d]] W (Ans9 (.bool true) W)) := Lib.hid (fun W hW => by have h := small_q hy hg W hW; rwa [h2] at h)
  clear HA hx hy hv hf hg h1 h2 hN
  go_enter Try.func4, Try.ntmps4
  go_wp2_with fail
  refine (KA.out _ HB.out).mono ?_
  rintro r w1 ⟨rfl, hb⟩
  replace HX := Lib.hid (HX.out.below hb HX.out.lt)
  replace HY := Lib.hid (HY.out.below hb HY.out.lt)
  replace HB := Lib.hid (HB.out.trans (hb.mono HB.out.size))
  clear hb
  have ld0_0 := (HX.out.cell 0).trans rfl
  have ld0_1 := (HX.out.cell 1).trans rfl
  have ld0_2 := (HX.out.cell 2).trans rfl
  have ld0_3 := (HX.out.cell 3).trans rfl
  have ld0_4 := (HX.out.cell 4).trans rfl
  have ld0_5 := (HX.out.cell 5).trans rfl
  go_wp2_with fail
  refine (K1.out _ HB.out).mono ?_
  rintro r w2 ⟨rfl, hb⟩
  replace HX := Lib.hid (HX.out.below hb HX.out.lt)
  replace HY := Lib.hid (HY.out.below hb HY.out.lt)
  replace HB := Lib.hid (HB.out.trans (hb.mono HB.out.size))
  clear ld0_0 ld0_1 ld0_2 ld0_3 ld0_4 ld0_5 hb
  have ld0_0 := (HY.out.cell 0).trans rfl
  have ld0_1 := (HY.out.cell 1).trans rfl
  have ld0_2 := (HY.out.cell 2).trans rfl
  have ld0_3 := (HY.out.cell 3).trans rfl
  have ld0_4 := (HY.out.cell 4).trans rfl
  have ld0_5 := (HY.out.cell 5).trans rfl
  go_wp2_with fail
  refine (K2.out _ HB.out).mono ?_
  rintro r w3 ⟨rfl, hb⟩
  replace HX := Lib.hid (HX.out.below hb HX.out.lt)
  replace HY := Lib.hid (HY.out.below hb HY.out.lt)
  replace HB := Lib.hid (HB.out.trans (hb.mono HB.out.size))
  clear ld0_0 ld0_1 ld0_2 ld0_3 ld0_4 ld0_5 hb
  go_wp2
  go_ret
  exact ⟨rfl, HB.out⟩
set_option maxRecDepth 100000 in
set_option maxHeartbeats 8000000 in
theorem treeChanges_one (a b : NdD) (f g : NdF) (A B : Option Addr) (c d : Nat) (l : List Stp) (V : Option Addr) (N m : Nat) (w : World) (hx : LieN w (ndC a (.slice A f.len c)) (a, f)) (hy : LieN w (ndC b (.slice B g.len d)) (b, g)) (hv : WayV w.heap.size w (.slice V N m) l) (hN : N = l.length) (hf : f.size ≤ 1000000) (hg : g.size ≤ 1000000) (HA : Awake9 w) (h1 : decide (f.size + 1 ≤ 300) = true) (h2 : decide (g.size + 1 ≤ 300) = false) :
    Calls Try.prog 4 #[.agg #[.string (txt a.name), .string (txt a.key), .int .i64 a.kind, .int .u64 (a.num : Int), .string (txt a.text), .slice A f.len c], .slice V N m, .agg #[.string (txt b.name), .string (txt b.key), .int .i64 b.kind, .int .u64 (b.num : Int), .string (txt b.text), .slice B g.len d]] w (Ans9 (.bool true) w) := by
  have hb2 : Blk ((w.alloc (.cells #[.string (txt a.name), .string (txt a.key), .int .i64 a.kind, .int .u64 (a.num : Int), .string (txt a.text), .slice A f.len c] 27)).alloc (.cells #[.string (txt b.name), .string (txt b.key), .int .i64 b.kind, .int .u64 (b.num : Int), .string (txt b.text), .slice B g.len d] 27)) (w.heap.size + 1) 27 #[.string (txt b.name), .string (txt b.key), .int .i64 b.kind, .int .u64 (b.num : Int), .string (txt b.text), .slice B g.len d] := by
    have h := Blk.new (w.alloc (.cells #[.string (txt a.name), .string (txt a.key), .int .i64 a.kind, .int .u64 (a.num : Int), .string (txt a.text), .slice A f.len c] 27)) 27 #[.string (txt b.name), .string (txt b.key), .int .i64 b.kind, .int .u64 (b.num : Int), .string (txt b.text), .slice B g.len d]
    rw [show (w.alloc (.cells #[.string (txt a.name), .string (txt a.key), .int .i64 a.kind, .int .u64 (a.num : Int), .string (txt a.text), .slice A f.len c] 27)).heap.size = w.heap.size + 1 by simp] at h
    exact h
  have HX := Lib.hid ((Blk.new w 27 #[.string (txt a.name), .string (txt a.key), .int .i64 a.kind, .int .u64 (a.num : Int), .string (txt a.text), .slice A f.len c]).alloc (.cells #[.string (txt b.name), .string (txt b.key), .int .i64 b.kind, .int .u64 (b.num : Int), .string (txt b.text), .slice B g.len d] 27))
  have HY := Lib.hid hb2
  have HB : Hid (Below w.heap.size w ((w.alloc (.cells #[.string (txt a.name), .string (txt a.key), .int .i64 a.kind, .int .u64 (a.num : Int), .string (txt a.text), .slice A f.len c] 27)).alloc (.cells #[.string (txt b.name), .string (txt b.key), .int .i64 b.kind, .int .u64 (b.num : Int), .string (txt b.text), .slice B g.len d] 27))) := Lib.hid (((Below.refl _ _).alloc (Nat.le_refl _) _).alloc (by simp) _)
  clear hb2
  have KA := Lib.hid HA
  have K1 : Hid (∀ W, Below w.heap.size w W → Calls Try.prog 9 #[.agg #[.string (txt a.name), .string (txt a.key), .int .i64 a.kind, .int .u64 (a.num : Int), .string (txt a.text), .slice A f.len c]] W (Ans9 (.bool true) W)) := Lib.hid (fun W hW => by have h := small_q hx hf W hW; rwa [h1] at h)
  have K2 : Hid (∀ W, Below w.heap.size w W → Calls Try.prog 9 #[.agg #[.string (txt b.name), .string (txt b.key), .int .i64 b.kind, .int .u64 (b.num : Int), .string (txt b.text), .slice B g.len d]] W (Ans9 (.bool false) W)) := Lib.hid (fun W hW => by have h := small_q hy hg W hW; rwa [h2] at h)
  clear HA hx hy hv hf hg h1 h2 hN
  go_enter Try.func4, Try.ntmps4
  go_wp2_with fail
  refine (KA.out _ HB.out).mono ?_
  rintro r w1 ⟨rfl, hb⟩
  replace HX := Lib.hid (HX.out.below hb HX.out.lt)
  replace HY := Lib.hid (HY.out.below hb HY.out.lt)
  replace HB := Lib.hid (HB.out.trans (hb.mono HB.out.size))
  clear hb
  have ld0_0 := (HX.out.cell 0).trans rfl
  have ld0_1 := (HX.out.cell 1).trans rfl
  have ld0_2 := (HX.out.cell 2).trans rfl
  have ld0_3 := (HX.out.cell 3).trans rfl
  have ld0_4 := (HX.out.cell 4).trans rfl
  have ld0_5 := (HX.out.cell 5).trans rfl
  go_wp2_with fail
  refine (K1.out _ HB.out).mono ?_
  rintro r w2 ⟨rfl, hb⟩
  replace HX := Lib.hid (HX.out.below hb HX.out.lt)
  replace HY := Lib.hid (HY.out.below hb HY.out.lt)
  replace HB := Lib.hid (HB.out.trans (hb.mono HB.out.size))
  clear ld0_0 ld0_1 ld0_2 ld0_3 ld0_4 ld0_5 hb
  have ld0_0 := (HY.out.cell 0).trans rfl
  have ld0_1 := (HY.out.cell 1).trans rfl
  have ld0_2 := (HY.out.cell 2).trans rfl
  have ld0_3 := (HY.out.cell 3).trans rfl
  have ld0_4 := (HY.out.cell 4).trans rfl
  have ld0_5 := (HY.out.cell 5).trans rfl
  go_wp2_with fail
  refine (K2.out _ HB.out).mono ?_
  rintro r w3 ⟨rfl, hb⟩
  replace HX := Lib.hid (HX.out.below hb HX.out.lt)
  replace HY := Lib.hid (HY.out.below hb HY.out.lt)
  replace HB := Lib.hid (HB.out.trans (hb.mono HB.out.size))
  clear ld0_0 ld0_1 ld0_2 ld0_3 ld0_4 ld0_5 hb
  go_wp2
  go_ret
  exact ⟨rfl, HB.out⟩
set_option maxRecDepth 100000 in
set_option maxHeartbeats 8000000 in
theorem treeChanges_long (a b : NdD) (f g : NdF) (A B : Option Addr) (c d : Nat) (l : List Stp) (V : Option Addr) (N m : Nat) (w : World) (hx : LieN w (ndC a (.slice A f.len c)) (a, f)) (hy : LieN w (ndC b (.slice B g.len d)) (b, g)) (hv : WayV w.heap.size w (.slice V N m) l) (hN : N = l.length) (hf : f.size ≤ 1000000) (hg : g.size ≤ 1000000) (HA : Awake9 w) (h1 : decide (f.size + 1 ≤ 300) = true) (h2 : decide (g.size + 1 ≤ 300) = true) (hl : 20 < N) :
    Calls Try.prog 4 #[.agg #[.string (txt a.name), .string (txt a.key), .int .i64 a.kind, .int .u64 (a.num : Int), .string (txt a.text), .slice A f.len c], .slice V N m, .agg #[.string (txt b.name), .string (txt b.key), .int .i64 b.kind, .int .u64 (b.num : Int), .string (txt b.text), .slice B g.len d]] w (Ans9 (.bool true) w) := by
  have hb2 : Blk ((w.alloc (.cells #[.string (txt a.name), .string (txt a.key), .int .i64 a.kind, .int .u64 (a.num : Int), .string (txt a.text), .slice A f.len c] 27)).alloc (.cells #[.string (txt b.name), .string (txt b.key), .int .i64 b.kind, .int .u64 (b.num : Int), .string (txt b.text), .slice B g.len d] 27)) (w.heap.size + 1) 27 #[.string (txt b.name), .string (txt b.key), .int .i64 b.kind, .int .u64 (b.num : Int), .string (txt b.text), .slice B g.len d] := by
    have h := Blk.new (w.alloc (.cells #[.string (txt a.name), .string (txt a.key), .int .i64 a.kind, .int .u64 (a.num : Int), .string (txt a.text), .slice A f.len c] 27)) 27 #[.string (txt b.name), .string (txt b.key), .int .i64 b.kind, .int .u64 (b.num : Int), .string (txt b.text), .slice B g.len d]
    rw [show (w.alloc (.cells #[.string (txt a.name), .string (txt a.key), .int .i64 a.kind, .int .u64 (a.num : Int), .string (txt a.text), .slice A f.len c] 27)).heap.size = w.heap.size + 1 by simp] at h
    exact h
  have HX := Lib.hid ((Blk.new w 27 #[.string (txt a.name), .string (txt a.key), .int .i64 a.kind, .int .u64 (a.num : Int), .string (txt a.text), .slice A f.len c]).alloc (.cells #[.string (txt b.name), .string (txt b.key), .int .i64 b.kind, .int .u64 (b.num : Int), .string (txt b.text), .slice B g.len d] 27))
  have HY := Lib.hid hb2
  have HB : Hid (Below w.heap.size w ((w.alloc (.cells #[.string (txt a.name), .string (txt a.key), .int .i64 a.kind, .int .u64 (a.num : Int), .string (txt a.text), .slice A f.len c] 27)).alloc (.cells #[.string (txt b.name), .string (txt b.key), .int .i64 b.kind, .int .u64 (b.num : Int), .string (txt b.text), .slice B g.len d] 27))) := Lib.hid (((Below.refl _ _).alloc (Nat.le_refl _) _).alloc (by simp) _)
  clear hb2
  have KA := Lib.hid HA
  have K1 : Hid (∀ W, Below w.heap.size w W → Calls Try.prog 9 #[.agg #[.string (txt a.name), .string (txt a.key), .int .i64 a.kind, .int .u64 (a.num : Int), .string (txt a.text), .slice A f.len c]] W (Ans9 (.bool true) W)) := Lib.hid (fun W hW => by have h := small_q hx hf W hW; rwa [h1] at h)
  have K2 : Hid (∀ W, Below w.heap.size w W → Calls Try.prog 9 #[.agg #[.string (txt b.name), .string (txt b.key), .int .i64 b.kind, .int .u64 (b.num : Int), .string (txt b.text), .slice B g.len d]] W (Ans9 (.bool true) W)) := Lib.hid (fun W hW => by have h := small_q hy hg W hW; rwa [h2] at h)
  have n1 : (20 : Int) < (N : Int) := by omega
  clear HA hx hy hv hf hg h1 h2 hN hl
  go_enter Try.func4, Try.ntmps4
  go_wp2_with fail
  refine (KA.out _ HB.out).mono ?_
  rintro r w1 ⟨rfl, hb⟩
  replace HX := Lib.hid (HX.out.below hb HX.out.lt)
  replace HY := Lib.hid (HY.out.below hb HY.out.lt)
  replace HB := Lib.hid (HB.out.trans (hb.mono HB.out.size))
  clear hb
  have ld0_0 := (HX.out.cell 0).trans rfl
  have ld0_1 := (HX.out.cell 1).trans rfl
  have ld0_2 := (HX.out.cell 2).trans rfl
  have ld0_3 := (HX.out.cell 3).trans rfl
  have ld0_4 := (HX.out.cell 4).trans rfl
  have ld0_5 := (HX.out.cell 5).trans rfl
  go_wp2_with fail
  refine (K1.out _ HB.out).mono ?_
  rintro r w2 ⟨rfl, hb⟩
  replace HX := Lib.hid (HX.out.below hb HX.out.lt)
  replace HY := Lib.hid (HY.out.below hb HY.out.lt)
  replace HB := Lib.hid (HB.out.trans (hb.mono HB.out.size))
  clear ld0_0 ld0_1 ld0_2 ld0_3 ld0_4 ld0_5 hb
  have ld0_0 := (HY.out.cell 0).trans rfl
  have ld0_1 := (HY.out.cell 1).trans rfl
  have ld0_2 := (HY.out.cell 2).trans rfl
  have ld0_3 := (HY.out.cell 3).trans rfl
  have ld0_4 := (HY.out.cell 4).trans rfl
  have ld0_5 := (HY.out.cell 5).trans rfl
  go_wp2_with fail
  refine (K2.out _ HB.out).mono ?_
  rintro r w3 ⟨rfl, hb⟩
  replace HX := Lib.hid (HX.out.below hb HX.out.lt)
  replace HY := Lib.hid (HY.out.below hb HY.out.lt)
  replace HB := Lib.hid (HB.out.trans (hb.mono HB.out.size))
  clear ld0_0 ld0_1 ld0_2 ld0_3 ld0_4 ld0_5 hb
  go_wp2
  go_ret
  exact ⟨rfl, HB.out⟩
set_option maxRecDepth 100000 in
set_option maxHeartbeats 8000000 in
theorem treeChanges_wrong (a b : NdD) (f g : NdF) (A B : Option Addr) (c d : Nat) (l : List Stp) (V : Option Addr) (N m : Nat) (w : World) (hx : LieN w (ndC a (.slice A f.len c)) (a, f)) (hy : LieN w (ndC b (.slice B g.len d)) (b, g)) (hv : WayV w.heap.size w (.slice V N m) l) (hN : N = l.length) (hf : f.size ≤ 1000000) (hg : g.size ≤ 1000000) (HA : Awake9 w) (h1 : decide (f.size + 1 ≤ 300) = true) (h2 : decide (g.size + 1 ≤ 300) = true) (hl : ¬ 20 < N) (hr : rgtX (a, f) = false) :
    Calls Try.prog 4 #[.agg #[.string (txt a.name), .string (txt a.key), .int .i64 a.kind, .int .u64 (a.num : Int), .string (txt a.text), .slice A f.len c], .slice V N m, .agg #[.string (txt b.name), .string (txt b.key), .int .i64 b.kind, .int .u64 (b.num : Int), .string (txt b.text), .slice B g.len d]] w (Ans9 (.bool true) w) := by
  have hb2 : Blk ((w.alloc (.cells #[.string (txt a.name), .string (txt a.key), .int .i64 a.kind, .int .u64 (a.num : Int), .string (txt a.text), .slice A f.len c] 27)).alloc (.cells #[.string (txt b.name), .string (txt b.key), .int .i64 b.kind, .int .u64 (b.num : Int), .string (txt b.text), .slice B g.len d] 27)) (w.heap.size + 1) 27 #[.string (txt b.name), .string (txt b.key), .int .i64 b.kind, .int .u64 (b.num : Int), .string (txt b.text), .slice B g.len d] := by
    have h := Blk.new (w.alloc (.cells #[.string (txt a.name), .string (txt a.key), .int .i64 a.kind, .int .u64 (a.num : Int), .string (txt a.text), .slice A f.len c] 27)) 27 #[.string (txt b.name), .string (txt b.key), .int .i64 b.kind, .int .u64 (b.num : Int), .string (txt b.text), .slice B g.len d]
    rw [show (w.alloc (.cells #[.string (txt a.name), .string (txt a.key), .int .i64 a.kind, .int .u64 (a.num : Int), .string (txt a.text), .slice A f.len c] 27)).heap.size = w.heap.size + 1 by simp] at h
    exact h
  have HX := Lib.hid ((Blk.new w 27 #[.string (txt a.name), .string (txt a.key), .int .i64 a.kind, .int .u64 (a.num : Int), .string (txt a.text), .slice A f.len c]).alloc (.cells #[.string (txt b.name), .string (txt b.key), .int .i64 b.kind, .int .u64 (b.num : Int), .string (txt b.text), .slice B g.len d] 27))
  have HY := Lib.hid hb2
  have HB : Hid (Below w.heap.size w ((w.alloc (.cells #[.string (txt a.name), .string (txt a.key), .int .i64 a.kind, .int .u64 (a.num : Int), .string (txt a.text), .slice A f.len c] 27)).alloc (.cells #[.string (txt b.name), .string (txt b.key), .int .i64 b.kind, .int .u64 (b.num : Int), .string (txt b.text), .slice B g.len d] 27))) := Lib.hid (((Below.refl _ _).alloc (Nat.le_refl _) _).alloc (by simp) _)
  clear hb2
  have KA := Lib.hid HA
  have K1 : Hid (∀ W, Below w.heap.size w W → Calls Try.prog 9 #[.agg #[.string (txt a.name), .string (txt a.key), .int .i64 a.kind, .int .u64 (a.num : Int), .string (txt a.text), .slice A f.len c]] W (Ans9 (.bool true) W)) := Lib.hid (fun W hW => by have h := small_q hx hf W hW; rwa [h1] at h)
  have K2 : Hid (∀ W, Below w.heap.size w W → Calls Try.prog 9 #[.agg #[.string (txt b.name), .string (txt b.key), .int .i64 b.kind, .int .u64 (b.num : Int), .string (txt b.text), .slice B g.len d]] W (Ans9 (.bool true) W)) := Lib.hid (fun W hW => by have h := small_q hy hg W hW; rwa [h2] at h)
  have n1 : ¬ (20 : Int) < (N : Int) := by omega
  have KR : Hid (∀ W, Below w.heap.size w W → Calls Try.prog 12 #[.agg #[.string (txt a.name), .string (txt a.key), .int .i64 a.kind, .int .u64 (a.num : Int), .string (txt a.text), .slice A f.len c]] W (Ans9 (.bool false) W)) := Lib.hid (fun W hW => by have h := rright_q hx hf W hW; rwa [hr] at h)
  clear HA hx hy hv hf hg h1 h2 hN hl hr
  go_enter Try.func4, Try.ntmps4
  go_wp2_with fail
  refine (KA.out _ HB.out).mono ?_
  rintro r w1 ⟨rfl, hb⟩
  replace HX := Lib.hid (HX.out.below hb HX.out.lt)
  replace HY := Lib.hid (HY.out.below hb HY.out.lt)
  replace HB := Lib.hid (HB.out.trans (hb.mono HB.out.size))
  clear hb
  have ld0_0 := (HX.out.cell 0).trans rfl
  have ld0_1 := (HX.out.cell 1).trans rfl
  have ld0_2 := (HX.out.cell 2).trans rfl
  have ld0_3 := (HX.out.cell 3).trans rfl
  have ld0_4 := (HX.out.cell 4).trans rfl
  have ld0_5 := (HX.out.cell 5).trans rfl
  go_wp2_with fail
  refine (K1.out _ HB.out).mono ?_
  rintro r w2 ⟨rfl, hb⟩
  replace HX := Lib.hid (HX.out.below hb HX.out.lt)
  replace HY := Lib.hid (HY.out.below hb HY.out.lt)
  replace HB := Lib.hid (HB.out.trans (hb.mono HB.out.size))
  clear ld0_0 ld0_1 ld0_2 ld0_3 ld0_4 ld0_5 hb
  have ld0_0 := (HY.out.cell 0).trans rfl
  have ld0_1 := (HY.out.cell 1).trans rfl
  have ld0_2 := (HY.out.cell 2).trans rfl
  have ld0_3 := (HY.out.cell 3).trans rfl
  have ld0_4 := (HY.out.cell 4).trans rfl
  have ld0_5 := (HY.out.cell 5).trans rfl
  go_wp2_with fail
  refine (K2.out _ HB.out).mono ?_
  rintro r w3 ⟨rfl, hb⟩
  replace HX := Lib.hid (HX.out.below hb HX.out.lt)
  replace HY := Lib.hid (HY.out.below hb HY.out.lt)
  replace HB := Lib.hid (HB.out.trans (hb.mono HB.out.size))
  clear ld0_0 ld0_1 ld0_2 ld0_3 ld0_4 ld0_5 hb
  have ld0_0 := (HX.out.cell 0).trans rfl
  have ld0_1 := (HX.out.cell 1).trans rfl
  have ld0_2 := (HX.out.cell 2).trans rfl
  have ld0_3 := (HX.out.cell 3).trans rfl
  have ld0_4 := (HX.out.cell 4).trans rfl
  have ld0_5 := (HX.out.cell 5).trans rfl
  go_wp2_with fail
  refine (KR.out _ HB.out).mono ?_
  rintro r w4 ⟨rfl, hb⟩
  replace HX := Lib.hid (HX.out.below hb HX.out.lt)
  replace HY := Lib.hid (HY.out.below hb HY.out.lt)
  replace HB := Lib.hid (HB.out.trans (hb.mono HB.out.size))
  clear ld0_0 ld0_1 ld0_2 ld0_3 ld0_4 ld0_5 hb
  go_wp2
  go_ret
  exact ⟨rfl, HB.out⟩
set_option maxRecDepth 100000 in
set_option maxHeartbeats 8000000 in
theorem treeChanges_main (a b : NdD) (f g : NdF) (A B : Option Addr) (c d : Nat) (l : List Stp) (V : Option Addr) (N m : Nat) (w : World) (hx : LieN w (ndC a (.slice A f.len c)) (a, f)) (hy : LieN w (ndC b (.slice B g.len d)) (b, g)) (hv : WayV w.heap.size w (.slice V N m) l) (hN : N = l.length) (hf : f.size ≤ 1000000) (hg : g.size ≤ 1000000) (C : TreC w) (HA : Awake9 w) (h1 : decide (f.size + 1 ≤ 300) = true) (h2 : decide (g.size + 1 ≤ 300) = true) (hl : ¬ 20 < N) (hr : rgtX (a, f) = true) (ga sa ka : NdD) (gf sf kf : NdF) (gv : Bool) (se ke : Nat) (hG : GetX (a, f) l = ((ga, gf), gv)) (hS : SetX (a, f) l (b, g) = ((sa, sf), se)) (hK : CutX (a, f) l = ((ka, kf), ke)) :
    Calls Try.prog 4 #[.agg #[.string (txt a.name), .string (txt a.key), .int .i64 a.kind, .int .u64 (a.num : Int), .string (txt a.text), .slice A f.len c], .slice V N m, .agg #[.string (txt b.name), .string (txt b.key), .int .i64 b.kind, .int .u64 (b.num : Int), .string (txt b.text), .slice B g.len d]] w (Ans9 (.bool true) w) := by
  have hs1 : gf.size ≤ 1000000 := by have h := GetX_few (a, f) l; rw [hG] at h; simp only at h; omega
  have hs2 : sf.size ≤ 1000000 := by have h := SetX_few (a, f) (b, g) l; have := of_decide_eq_true h1; have := of_decide_eq_true h2; rw [hS] at h; simp only at h; omega
  have hs3 : kf.size ≤ 1000000 := by have h := CutX_few (a, f) l; rw [hK] at h; simp only at h; omega
  have hln : l.length ≤ 1000000 := by omega
  have hb2 : Blk ((w.alloc (.cells #[.string (txt a.name), .string (txt a.key), .int .i64 a.kind, .int .u64 (a.num : Int), .string (txt a.text), .slice A f.len c] 27)).alloc (.cells #[.string (txt b.name), .string (txt b.key), .int .i64 b.kind, .int .u64 (b.num : Int), .string (txt b.text), .slice B g.len d] 27)) (w.heap.size + 1) 27 #[.string (txt b.name), .string (txt b.key), .int .i64 b.kind, .int .u64 (b.num : Int), .string (txt b.text), .slice B g.len d] := by
    have h := Blk.new (w.alloc (.cells #[.string (txt a.name), .string (txt a.key), .int .i64 a.kind, .int .u64 (a.num : Int), .string (txt a.text), .slice A f.len c] 27)) 27 #[.string (txt b.name), .string (txt b.key), .int .i64 b.kind, .int .u64 (b.num : Int), .string (txt b.text), .slice B g.len d]
    rw [show (w.alloc (.cells #[.string (txt a.name), .string (txt a.key), .int .i64 a.kind, .int .u64 (a.num : Int), .string (txt a.text), .slice A f.len c] 27)).heap.size = w.heap.size + 1 by simp] at h
    exact h
  have HX := Lib.hid ((Blk.new w 27 #[.string (txt a.name), .string (txt a.key), .int .i64 a.kind, .int .u64 (a.num : Int), .string (txt a.text), .slice A f.len c]).alloc (.cells #[.string (txt b.name), .string (txt b.key), .int .i64 b.kind, .int .u64 (b.num : Int), .string (txt b.text), .slice B g.len d] 27))
  have HY := Lib.hid hb2
  have HB : Hid (Below w.heap.size w ((w.alloc (.cells #[.string (txt a.name), .string (txt a.key), .int .i64 a.kind, .int .u64 (a.num : Int), .string (txt a.text), .slice A f.len c] 27)).alloc (.cells #[.string (txt b.name), .string (txt b.key), .int .i64 b.kind, .int .u64 (b.num : Int), .string (txt b.text), .slice B g.len d] 27))) := Lib.hid (((Below.refl _ _).alloc (Nat.le_refl _) _).alloc (by simp) _)
  clear hb2
  have KA := Lib.hid HA
  have K1 : Hid (∀ W, Below w.heap.size w W → Calls Try.prog 9 #[.agg #[.string (txt a.name), .string (txt a.key), .int .i64 a.kind, .int .u64 (a.num : Int), .string (txt a.text), .slice A f.len c]] W (Ans9 (.bool true) W)) := Lib.hid (fun W hW => by have h := small_q hx hf W hW; rwa [h1] at h)
  have K2 : Hid (∀ W, Below w.heap.size w W → Calls Try.prog 9 #[.agg #[.string (txt b.name), .string (txt b.key), .int .i64 b.kind, .int .u64 (b.num : Int), .string (txt b.text), .slice B g.len d]] W (Ans9 (.bool true) W)) := Lib.hid (fun W hW => by have h := small_q hy hg W hW; rwa [h2] at h)
  have n1 : ¬ (20 : Int) < (N : Int) := by omega
  have KR : Hid (∀ W, Below w.heap.size w W → Calls Try.prog 12 #[.agg #[.string (txt a.name), .string (txt a.key), .int .i64 a.kind, .int .u64 (a.num : Int), .string (txt a.text), .slice A f.len c]] W (Ans9 (.bool true) W)) := Lib.hid (fun W hW => by have h := rright_q hx hf W hW; rwa [hr] at h)
  have KG : Hid (∀ W, Below w.heap.size w W → Calls Try.prog 20 #[.agg #[.string (txt a.name), .string (txt a.key), .int .i64 a.kind, .int .u64 (a.num : Int), .string (txt a.text), .slice A f.len c], .slice V N m] W (RTreP (ga, gf) (.bool gv) W)) := Lib.hid (fun W hW => (by have h := get_q C (Below.refl _ _) hx hv hf hln W hW; rw [hG] at h; exact h.mono fun _ _ h => h.r))
  have RG : Hid (∀ W, Below w.heap.size w W → Calls Try.prog 21 #[.agg #[.string (txt a.name), .string (txt a.key), .int .i64 a.kind, .int .u64 (a.num : Int), .string (txt a.text), .slice A f.len c], .slice V N m] W (RTreP (ga, gf) (.bool gv) W)) := Lib.hid (fun W hW => (by have h := rget_q hx hv hf W hW; rw [hG] at h; exact h))
  have KS : Hid (∀ W, Below w.heap.size w W → Calls Try.prog 22 #[.agg #[.string (txt a.name), .string (txt a.key), .int .i64 a.kind, .int .u64 (a.num : Int), .string (txt a.text), .slice A f.len c], .slice V N m, .agg #[.string (txt b.name), .string (txt b.key), .int .i64 b.kind, .int .u64 (b.num : Int), .string (txt b.text), .slice B g.len d]] W (RTreP (sa, sf) (.int .i64 (se : Int)) W)) := Lib.hid (fun W hW => (by have h := set_q C (Below.refl _ _) hx hy hv hf hg hr hln W hW; rw [hS] at h; exact h.mono fun _ _ h => h.r))
  have RS : Hid (∀ W, Below w.heap.size w W → Calls Try.prog 23 #[.agg #[.string (txt a.name), .string (txt a.key), .int .i64 a.kind, .int .u64 (a.num : Int), .string (txt a.text), .slice A f.len c], .slice V N m, .agg #[.string (txt b.name), .string (txt b.key), .int .i64 b.kind, .int .u64 (b.num : Int), .string (txt b.text), .slice B g.len d]] W (RTreP (sa, sf) (.int .i64 (se : Int)) W)) := Lib.hid (fun W hW => (by have h := rset_q hx hy hv hf hln W hW; rw [hS] at h; exact h))
  have KC : Hid (∀ W, Below w.heap.size w W → Calls Try.prog 24 #[.agg #[.string (txt a.name), .string (txt a.key), .int .i64 a.kind, .int .u64 (a.num : Int), .string (txt a.text), .slice A f.len c], .slice V N m] W (RTreP (ka, kf) (.int .i64 (ke : Int)) W)) := Lib.hid (fun W hW => (by have h := cut_q C (Below.refl _ _) hx hv hf hr hln W hW; rw [hK] at h; exact h.mono fun _ _ h => h.r))
  have RC : Hid (∀ W, Below w.heap.size w W → Calls Try.prog 25 #[.agg #[.string (txt a.name), .string (txt a.key), .int .i64 a.kind, .int .u64 (a.num : Int), .string (txt a.text), .slice A f.len c], .slice V N m] W (RTreP (ka, kf) (.int .i64 (ke : Int)) W)) := Lib.hid (fun W hW => (by have h := rcut_q hx hv hf hln W hW; rw [hK] at h; exact h))
  have HSZ := Lib.hid (And.intro hs1 (And.intro hs2 hs3))
  clear C HA hx hy hv hf hg h1 h2 hN hl hr hG hS hK hs1 hs2 hs3 hln
  go_enter Try.func4, Try.ntmps4
  go_wp2_with fail
  refine (KA.out _ HB.out).mono ?_
  rintro r w1 ⟨rfl, hb⟩
  replace HX := Lib.hid (HX.out.below hb HX.out.lt)
  replace HY := Lib.hid (HY.out.below hb HY.out.lt)
  replace HB := Lib.hid (HB.out.trans (hb.mono HB.out.size))
  clear hb
  have ld0_0 := (HX.out.cell 0).trans rfl
  have ld0_1 := (HX.out.cell 1).trans rfl
  have ld0_2 := (HX.out.cell 2).trans rfl
  have ld0_3 := (HX.out.cell 3).trans rfl
  have ld0_4 := (HX.out.cell 4).trans rfl
  have ld0_5 := (HX.out.cell 5).trans rfl
  go_wp2_with fail
  refine (K1.out _ HB.out).mono ?_
  rintro r w2 ⟨rfl, hb⟩
  replace HX := Lib.hid (HX.out.below hb HX.out.lt)
  replace HY := Lib.hid (HY.out.below hb HY.out.lt)
  replace HB := Lib.hid (HB.out.trans (hb.mono HB.out.size))
  clear ld0_0 ld0_1 ld0_2 ld0_3 ld0_4 ld0_5 hb
  have ld0_0 := (HY.out.cell 0).trans rfl
  have ld0_1 := (HY.out.cell 1).trans rfl
  have ld0_2 := (HY.out.cell 2).trans rfl
  have ld0_3 := (HY.out.cell 3).trans rfl
  have ld0_4 := (HY.out.cell 4).trans rfl
  have ld0_5 := (HY.out.cell 5).trans rfl
  go_wp2_with fail
  refine (K2.out _ HB.out).mono ?_
  rintro r w3 ⟨rfl, hb⟩
  replace HX := Lib.hid (HX.out.below hb HX.out.lt)
  replace HY := Lib.hid (HY.out.below hb HY.out.lt)
  replace HB := Lib.hid (HB.out.trans (hb.mono HB.out.size))
  clear ld0_0 ld0_1 ld0_2 ld0_3 ld0_4 ld0_5 hb
  have ld0_0 := (HX.out.cell 0).trans rfl
  have ld0_1 := (HX.out.cell 1).trans rfl
  have ld0_2 := (HX.out.cell 2).trans rfl
  have ld0_3 := (HX.out.cell 3).trans rfl
  have ld0_4 := (HX.out.cell 4).trans rfl
  have ld0_5 := (HX.out.cell 5).trans rfl
  go_wp2_with fail
  refine (KR.out _ HB.out).mono ?_
  rintro r w4 ⟨rfl, hb⟩
  replace HX := Lib.hid (HX.out.below hb HX.out.lt)
  replace HY := Lib.hid (HY.out.below hb HY.out.lt)
  replace HB := Lib.hid (HB.out.trans (hb.mono HB.out.size))
  clear ld0_0 ld0_1 ld0_2 ld0_3 ld0_4 ld0_5 hb
  have ld0_0 := (HX.out.cell 0).trans rfl
  have ld0_1 := (HX.out.cell 1).trans rfl
  have ld0_2 := (HX.out.cell 2).trans rfl
  have ld0_3 := (HX.out.cell 3).trans rfl
  have ld0_4 := (HX.out.cell 4).trans rfl
  have ld0_5 := (HX.out.cell 5).trans rfl
  go_wp2_with fail
  refine (KG.out _ HB.out).mono ?_
  intro r w5 hr
  obtain ⟨Aga, cga, rfl, hl, hb⟩ := hr.flat
  have hal : Below w5.heap.size w5 (w5.alloc (.cells #[.string (txt ga.name), .string (txt ga.key), .int .i64 ga.kind, .int .u64 (ga.num : Int), .string (txt ga.text), .slice Aga gf.len cga] 27)) := (Below.refl _ _).alloc (Nat.le_refl _) _
  have hb2 := hb.trans (hal.mono hb.size)
  replace HX := Lib.hid (HX.out.below hb2 HX.out.lt)
  replace HY := Lib.hid (HY.out.below hb2 HY.out.lt)
  replace HB := Lib.hid (HB.out.trans (hb2.mono HB.out.size))
  have HXga := Lib.hid (Blk.new w5 27 #[.string (txt ga.name), .string (txt ga.key), .int .i64 ga.kind, .int .u64 (ga.num : Int), .string (txt ga.text), .slice Aga gf.len cga])
  have HLga : Hid (LieN (w5.alloc (.cells #[.string (txt ga.name), .string (txt ga.key), .int .i64 ga.kind, .int .u64 (ga.num : Int), .string (txt ga.text), .slice Aga gf.len cga] 27)) (ndC ga (.slice Aga gf.len cga)) (ga, gf)) := Lib.hid (hl.below hal)
  clear ld0_0 ld0_1 ld0_2 ld0_3 ld0_4 ld0_5 hr hl hb hal hb2
  have ld0_0 := (HX.out.cell 0).trans rfl
  have ld0_1 := (HX.out.cell 1).trans rfl
  have ld0_2 := (HX.out.cell 2).trans rfl
  have ld0_3 := (HX.out.cell 3).trans rfl
  have ld0_4 := (HX.out.cell 4).trans rfl
  have ld0_5 := (HX.out.cell 5).trans rfl
  go_wp2_with fail
  refine (RG.out _ HB.out).mono ?_
  intro r w6 hr
  obtain ⟨Agb, cgb, rfl, hl, hb⟩ := hr.flat
  have hal : Below w6.heap.size w6 (w6.alloc (.cells #[.string (txt ga.name), .string (txt ga.key), .int .i64 ga.kind, .int .u64 (ga.num : Int), .string (txt ga.text), .slice Agb gf.len cgb] 27)) := (Below.refl _ _).alloc (Nat.le_refl _) _
  have hb2 := hb.trans (hal.mono hb.size)
  replace HX := Lib.hid (HX.out.below hb2 HX.out.lt)
  replace HY := Lib.hid (HY.out.below hb2 HY.out.lt)
  replace HXga := Lib.hid (HXga.out.below hb2 HXga.out.lt)
  replace HLga := Lib.hid (HLga.out.below hb2)
  replace HB := Lib.hid (HB.out.trans (hb2.mono HB.out.size))
  have HXgb := Lib.hid (Blk.new w6 27 #[.string (txt ga.name), .string (txt ga.key), .int .i64 ga.kind, .int .u64 (ga.num : Int), .string (txt ga.text), .slice Agb gf.len cgb])
  have HLgb : Hid (LieN (w6.alloc (.cells #[.string (txt ga.name), .string (txt ga.key), .int .i64 ga.kind, .int .u64 (ga.num : Int), .string (txt ga.text), .slice Agb gf.len cgb] 27)) (ndC ga (.slice Agb gf.len cgb)) (ga, gf)) := Lib.hid (hl.below hal)
  clear ld0_0 ld0_1 ld0_2 ld0_3 ld0_4 ld0_5 hr hl hb hal hb2
  have ld0_0 := (HX.out.cell 0).trans rfl
  have ld0_1 := (HX.out.cell 1).trans rfl
  have ld0_2 := (HX.out.cell 2).trans rfl
  have ld0_3 := (HX.out.cell 3).trans rfl
  have ld0_4 := (HX.out.cell 4).trans rfl
  have ld0_5 := (HX.out.cell 5).trans rfl
  have ld1_0 := (HY.out.cell 0).trans rfl
  have ld1_1 := (HY.out.cell 1).trans rfl
  have ld1_2 := (HY.out.cell 2).trans rfl
  have ld1_3 := (HY.out.cell 3).trans rfl
  have ld1_4 := (HY.out.cell 4).trans rfl
  have ld1_5 := (HY.out.cell 5).trans rfl
  go_wp2_with fail
  refine (KS.out _ HB.out).mono ?_
  intro r w7 hr
  obtain ⟨Asa, csa, rfl, hl, hb⟩ := hr.flat
  have hal : Below w7.heap.size w7 (w7.alloc (.cells #[.string (txt sa.name), .string (txt sa.key), .int .i64 sa.kind, .int .u64 (sa.num : Int), .string (txt sa.text), .slice Asa sf.len csa] 27)) := (Below.refl _ _).alloc (Nat.le_refl _) _
  have hb2 := hb.trans (hal.mono hb.size)
  replace HX := Lib.hid (HX.out.below hb2 HX.out.lt)
  replace HY := Lib.hid (HY.out.below hb2 HY.out.lt)
  replace HXga := Lib.hid (HXga.out.below hb2 HXga.out.lt)
  replace HXgb := Lib.hid (HXgb.out.below hb2 HXgb.out.lt)
  replace HLga := Lib.hid (HLga.out.below hb2)
  replace HLgb := Lib.hid (HLgb.out.below hb2)
  replace HB := Lib.hid (HB.out.trans (hb2.mono HB.out.size))
  have HXsa := Lib.hid (Blk.new w7 27 #[.string (txt sa.name), .string (txt sa.key), .int .i64 sa.kind, .int .u64 (sa.num : Int), .string (txt sa.text), .slice Asa sf.len csa])
  have HLsa : Hid (LieN (w7.alloc (.cells #[.string (txt sa.name), .string (txt sa.key), .int .i64 sa.kind, .int .u64 (sa.num : Int), .string (txt sa.text), .slice Asa sf.len csa] 27)) (ndC sa (.slice Asa sf.len csa)) (sa, sf)) := Lib.hid (hl.below hal)
  clear ld0_0 ld0_1 ld0_2 ld0_3 ld0_4 ld0_5 ld1_0 ld1_1 ld1_2 ld1_3 ld1_4 ld1_5 hr hl hb hal hb2
  have ld0_0 := (HX.out.cell 0).trans rfl
  have ld0_1 := (HX.out.cell 1).trans rfl
  have ld0_2 := (HX.out.cell 2).trans rfl
  have ld0_3 := (HX.out.cell 3).trans rfl
  have ld0_4 := (HX.out.cell 4).trans rfl
  have ld0_5 := (HX.out.cell 5).trans rfl
  have ld1_0 := (HY.out.cell 0).trans rfl
  have ld1_1 := (HY.out.cell 1).trans rfl
  have ld1_2 := (HY.out.cell 2).trans rfl
  have ld1_3 := (HY.out.cell 3).trans rfl
  have ld1_4 := (HY.out.cell 4).trans rfl
  have ld1_5 := (HY.out.cell 5).trans rfl
  go_wp2_with fail
  refine (RS.out _ HB.out).mono ?_
  intro r w8 hr
  obtain ⟨Asb, csb, rfl, hl, hb⟩ := hr.flat
  have hal : Below w8.heap.size w8 (w8.alloc (.cells #[.string (txt sa.name), .string (txt sa.key), .int .i64 sa.kind, .int .u64 (sa.num : Int), .string (txt sa.text), .slice Asb sf.len csb] 27)) := (Below.refl _ _).alloc (Nat.le_refl _) _
  have hb2 := hb.trans (hal.mono hb.size)
  replace HX := Lib.hid (HX.out.below hb2 HX.out.lt)
  replace HY := Lib.hid (HY.out.below hb2 HY.out.lt)
  replace HXga := Lib.hid (HXga.out.below hb2 HXga.out.lt)
  replace HXgb := Lib.hid (HXgb.out.below hb2 HXgb.out.lt)
  replace HXsa := Lib.hid (HXsa.out.below hb2 HXsa.out.lt)
  replace HLga := Lib.hid (HLga.out.below hb2)
  replace HLgb := Lib.hid (HLgb.out.below hb2)
  replace HLsa := Lib.hid (HLsa.out.below hb2)
  replace HB := Lib.hid (HB.out.trans (hb2.mono HB.out.size))
  have HXsb := Lib.hid (Blk.new w8 27 #[.string (txt sa.name), .string (txt sa.key), .int .i64 sa.kind, .int .u64 (sa.num : Int), .string (txt sa.text), .slice Asb sf.len csb])
  have HLsb : Hid (LieN (w8.alloc (.cells #[.string (txt sa.name), .string (txt sa.key), .int .i64 sa.kind, .int .u64 (sa.num : Int), .string (txt sa.text), .slice Asb sf.len csb] 27)) (ndC sa (.slice Asb sf.len csb)) (sa, sf)) := Lib.hid (hl.below hal)
  clear ld0_0 ld0_1 ld0_2 ld0_3 ld0_4 ld0_5 ld1_0 ld1_1 ld1_2 ld1_3 ld1_4 ld1_5 hr hl hb hal hb2
  have ld0_0 := (HX.out.cell 0).trans rfl
  have ld0_1 := (HX.out.cell 1).trans rfl
  have ld0_2 := (HX.out.cell 2).trans rfl
  have ld0_3 := (HX.out.cell 3).trans rfl
  have ld0_4 := (HX.out.cell 4).trans rfl
  have ld0_5 := (HX.out.cell 5).trans rfl
  go_wp2_with fail
  refine (KC.out _ HB.out).mono ?_
  intro r w9 hr
  obtain ⟨Aka, cka, rfl, hl, hb⟩ := hr.flat
  have hal : Below w9.heap.size w9 (w9.alloc (.cells #[.string (txt ka.name), .string (txt ka.key), .int .i64 ka.kind, .int .u64 (ka.num : Int), .string (txt ka.text), .slice Aka kf.len cka] 27)) := (Below.refl _ _).alloc (Nat.le_refl _) _
  have hb2 := hb.trans (hal.mono hb.size)
  replace HX := Lib.hid (HX.out.below hb2 HX.out.lt)
  replace HY := Lib.hid (HY.out.below hb2 HY.out.lt)
  replace HXga := Lib.hid (HXga.out.below hb2 HXga.out.lt)
  replace HXgb := Lib.hid (HXgb.out.below hb2 HXgb.out.lt)
  replace HXsa := Lib.hid (HXsa.out.below hb2 HXsa.out.lt)
  replace HXsb := Lib.hid (HXsb.out.below hb2 HXsb.out.lt)
  replace HLga := Lib.hid (HLga.out.below hb2)
  replace HLgb := Lib.hid (HLgb.out.below hb2)
  replace HLsa := Lib.hid (HLsa.out.below hb2)
  replace HLsb := Lib.hid (HLsb.out.below hb2)
  replace HB := Lib.hid (HB.out.trans (hb2.mono HB.out.size))
  have HXka := Lib.hid (Blk.new w9 27 #[.string (txt ka.name), .string (txt ka.key), .int .i64 ka.kind, .int .u64 (ka.num : Int), .string (txt ka.text), .slice Aka kf.len cka])
  have HLka : Hid (LieN (w9.alloc (.cells #[.string (txt ka.name), .string (txt ka.key), .int .i64 ka.kind, .int .u64 (ka.num : Int), .string (txt ka.text), .slice Aka kf.len cka] 27)) (ndC ka (.slice Aka kf.len cka)) (ka, kf)) := Lib.hid (hl.below hal)
  clear ld0_0 ld0_1 ld0_2 ld0_3 ld0_4 ld0_5 hr hl hb hal hb2
  have ld0_0 := (HX.out.cell 0).trans rfl
  have ld0_1 := (HX.out.cell 1).trans rfl
  have ld0_2 := (HX.out.cell 2).trans rfl
  have ld0_3 := (HX.out.cell 3).trans rfl
  have ld0_4 := (HX.out.cell 4).trans rfl
  have ld0_5 := (HX.out.cell 5).trans rfl
  go_wp2_with fail
  refine (RC.out _ HB.out).mono ?_
  intro r w10 hr
  obtain ⟨Akb, ckb, rfl, hl, hb⟩ := hr.flat
  have hal : Below w10.heap.size w10 (w10.alloc (.cells #[.string (txt ka.name), .string (txt ka.key), .int .i64 ka.kind, .int .u64 (ka.num : Int), .string (txt ka.text), .slice Akb kf.len ckb] 27)) := (Below.refl _ _).alloc (Nat.le_refl _) _
  have hb2 := hb.trans (hal.mono hb.size)
  replace HX := Lib.hid (HX.out.below hb2 HX.out.lt)
  replace HY := Lib.hid (HY.out.below hb2 HY.out.lt)
  replace HXga := Lib.hid (HXga.out.below hb2 HXga.out.lt)
  replace HXgb := Lib.hid (HXgb.out.below hb2 HXgb.out.lt)
  replace HXsa := Lib.hid (HXsa.out.below hb2 HXsa.out.lt)
  replace HXsb := Lib.hid (HXsb.out.below hb2 HXsb.out.lt)
  replace HXka := Lib.hid (HXka.out.below hb2 HXka.out.lt)
  replace HLga := Lib.hid (HLga.out.below hb2)
  replace HLgb := Lib.hid (HLgb.out.below hb2)
  replace HLsa := Lib.hid (HLsa.out.below hb2)
  replace HLsb := Lib.hid (HLsb.out.below hb2)
  replace HLka := Lib.hid (HLka.out.below hb2)
  replace HB := Lib.hid (HB.out.trans (hb2.mono HB.out.size))
  have HXkb := Lib.hid (Blk.new w10 27 #[.string (txt ka.name), .string (txt ka.key), .int .i64 ka.kind, .int .u64 (ka.num : Int), .string (txt ka.text), .slice Akb kf.len ckb])
  have HLkb : Hid (LieN (w10.alloc (.cells #[.string (txt ka.name), .string (txt ka.key), .int .i64 ka.kind, .int .u64 (ka.num : Int), .string (txt ka.text), .slice Akb kf.len ckb] 27)) (ndC ka (.slice Akb kf.len ckb)) (ka, kf)) := Lib.hid (hl.below hal)
  clear ld0_0 ld0_1 ld0_2 ld0_3 ld0_4 ld0_5 hr hl hb hal hb2
  have ld0_0 := (HXga.out.cell 0).trans rfl
  have ld0_1 := (HXga.out.cell 1).trans rfl
  have ld0_2 := (HXga.out.cell 2).trans rfl
  have ld0_3 := (HXga.out.cell 3).trans rfl
  have ld0_4 := (HXga.out.cell 4).trans rfl
  have ld0_5 := (HXga.out.cell 5).trans rfl
  have ld1_0 := (HXgb.out.cell 0).trans rfl
  have ld1_1 := (HXgb.out.cell 1).trans rfl
  have ld1_2 := (HXgb.out.cell 2).trans rfl
  have ld1_3 := (HXgb.out.cell 3).trans rfl
  have ld1_4 := (HXgb.out.cell 4).trans rfl
  have ld1_5 := (HXgb.out.cell 5).trans rfl
  go_wp2_with fail
  refine (rsame_eq HLga.out HLgb.out HSZ.out.1).mono ?_
  rintro r w11 ⟨rfl, hb⟩
  replace HX := Lib.hid (HX.out.below hb HX.out.lt)
  replace HY := Lib.hid (HY.out.below hb HY.out.lt)
  replace HXga := Lib.hid (HXga.out.below hb HXga.out.lt)
  replace HXgb := Lib.hid (HXgb.out.below hb HXgb.out.lt)
  replace HXsa := Lib.hid (HXsa.out.below hb HXsa.out.lt)
  replace HXsb := Lib.hid (HXsb.out.below hb HXsb.out.lt)
  replace HXka := Lib.hid (HXka.out.below hb HXka.out.lt)
  replace HXkb := Lib.hid (HXkb.out.below hb HXkb.out.lt)
  replace HLga := Lib.hid (HLga.out.below hb)
  replace HLgb := Lib.hid (HLgb.out.below hb)
  replace HLsa := Lib.hid (HLsa.out.below hb)
  replace HLsb := Lib.hid (HLsb.out.below hb)
  replace HLka := Lib.hid (HLka.out.below hb)
  replace HLkb := Lib.hid (HLkb.out.below hb)
  replace HB := Lib.hid (HB.out.trans (hb.mono HB.out.size))
  clear ld0_0 ld0_1 ld0_2 ld0_3 ld0_4 ld0_5 ld1_0 ld1_1 ld1_2 ld1_3 ld1_4 ld1_5 hb
  have ld0_0 := (HXsa.out.cell 0).trans rfl
  have ld0_1 := (HXsa.out.cell 1).trans rfl
  have ld0_2 := (HXsa.out.cell 2).trans rfl
  have ld0_3 := (HXsa.out.cell 3).trans rfl
  have ld0_4 := (HXsa.out.cell 4).trans rfl
  have ld0_5 := (HXsa.out.cell 5).trans rfl
  have ld1_0 := (HXsb.out.cell 0).trans rfl
  have ld1_1 := (HXsb.out.cell 1).trans rfl
  have ld1_2 := (HXsb.out.cell 2).trans rfl
  have ld1_3 := (HXsb.out.cell 3).trans rfl
  have ld1_4 := (HXsb.out.cell 4).trans rfl
  have ld1_5 := (HXsb.out.cell 5).trans rfl
  go_wp2_with fail
  refine (rsame_eq HLsa.out HLsb.out HSZ.out.2.1).mono ?_
  rintro r w12 ⟨rfl, hb⟩
  replace HX := Lib.hid (HX.out.below hb HX.out.lt)
  replace HY := Lib.hid (HY.out.below hb HY.out.lt)
  replace HXga := Lib.hid (HXga.out.below hb HXga.out.lt)
  replace HXgb := Lib.hid (HXgb.out.below hb HXgb.out.lt)
  replace HXsa := Lib.hid (HXsa.out.below hb HXsa.out.lt)
  replace HXsb := Lib.hid (HXsb.out.below hb HXsb.out.lt)
  replace HXka := Lib.hid (HXka.out.below hb HXka.out.lt)
  replace HXkb := Lib.hid (HXkb.out.below hb HXkb.out.lt)
  replace HLga := Lib.hid (HLga.out.below hb)
  replace HLgb := Lib.hid (HLgb.out.below hb)
  replace HLsa := Lib.hid (HLsa.out.below hb)
  replace HLsb := Lib.hid (HLsb.out.below hb)
  replace HLka := Lib.hid (HLka.out.below hb)
  replace HLkb := Lib.hid (HLkb.out.below hb)
  replace HB := Lib.hid (HB.out.trans (hb.mono HB.out.size))
  clear ld0_0 ld0_1 ld0_2 ld0_3 ld0_4 ld0_5 ld1_0 ld1_1 ld1_2 ld1_3 ld1_4 ld1_5 hb
  have ld0_0 := (HXka.out.cell 0).trans rfl
  have ld0_1 := (HXka.out.cell 1).trans rfl
  have ld0_2 := (HXka.out.cell 2).trans rfl
  have ld0_3 := (HXka.out.cell 3).trans rfl
  have ld0_4 := (HXka.out.cell 4).trans rfl
  have ld0_5 := (HXka.out.cell 5).trans rfl
  have ld1_0 := (HXkb.out.cell 0).trans rfl
  have ld1_1 := (HXkb.out.cell 1).trans rfl
  have ld1_2 := (HXkb.out.cell 2).trans rfl
  have ld1_3 := (HXkb.out.cell 3).trans rfl
  have ld1_4 := (HXkb.out.cell 4).trans rfl
  have ld1_5 := (HXkb.out.cell 5).trans rfl
  go_wp2_with fail
  refine (rsame_eq HLka.out HLkb.out HSZ.out.2.2).mono ?_
  rintro r w13 ⟨rfl, hb⟩
  replace HX := Lib.hid (HX.out.below hb HX.out.lt)
  replace HY := Lib.hid (HY.out.below hb HY.out.lt)
  replace HXga := Lib.hid (HXga.out.below hb HXga.out.lt)
  replace HXgb := Lib.hid (HXgb.out.below hb HXgb.out.lt)
  replace HXsa := Lib.hid (HXsa.out.below hb HXsa.out.lt)
  replace HXsb := Lib.hid (HXsb.out.below hb HXsb.out.lt)
  replace HXka := Lib.hid (HXka.out.below hb HXka.out.lt)
  replace HXkb := Lib.hid (HXkb.out.below hb HXkb.out.lt)
  replace HLga := Lib.hid (HLga.out.below hb)
  replace HLgb := Lib.hid (HLgb.out.below hb)
  replace HLsa := Lib.hid (HLsa.out.below hb)
  replace HLsb := Lib.hid (HLsb.out.below hb)
  replace HLka := Lib.hid (HLka.out.below hb)
  replace HLkb := Lib.hid (HLkb.out.below hb)
  replace HB := Lib.hid (HB.out.trans (hb.mono HB.out.size))
  clear ld0_0 ld0_1 ld0_2 ld0_3 ld0_4 ld0_5 ld1_0 ld1_1 ld1_2 ld1_3 ld1_4 ld1_5 hb
  go_wp2
  go_ret
  exact ⟨rfl, HB.out⟩
theorem treeChanges_walk (a b : NdD) (f g : NdF) (A B : Option Addr) (c d : Nat) (l : List Stp) (V : Option Addr) (N m : Nat) (w : World) (hx : LieN w (ndC a (.slice A f.len c)) (a, f)) (hy : LieN w (ndC b (.slice B g.len d)) (b, g)) (hv : WayV w.heap.size w (.slice V N m) l) (hN : N = l.length) (hf : f.size ≤ 1000000) (hg : g.size ≤ 1000000) (C : TreC w) (HA : Awake9 w) :
    Calls Try.prog 4 #[.agg #[.string (txt a.name), .string (txt a.key), .int .i64 a.kind, .int .u64 (a.num : Int), .string (txt a.text), .slice A f.len c], .slice V N m, .agg #[.string (txt b.name), .string (txt b.key), .int .i64 b.kind, .int .u64 (b.num : Int), .string (txt b.text), .slice B g.len d]] w (Ans9 (.bool true) w) := by
  cases h1 : decide (f.size + 1 ≤ 300) with
  | false =>
    cases h2 : decide (g.size + 1 ≤ 300) with
    | false => exact treeChanges_none a b f g A B c d l V N m w hx hy hv hN hf hg HA h1 h2
    | true => exact treeChanges_two a b f g A B c d l V N m w hx hy hv hN hf hg HA h1 h2
  | true =>
    cases h2 : decide (g.size + 1 ≤ 300) with
    | false => exact treeChanges_one a b f g A B c d l V N m w hx hy hv hN hf hg HA h1 h2
    | true =>
      by_cases hl : 20 < N
      · exact treeChanges_long a b f g A B c d l V N m w hx hy hv hN hf hg HA h1 h2 hl
      · cases hr : rgtX (a, f) with
        | false => exact treeChanges_wrong a b f g A B c d l V N m w hx hy hv hN hf hg HA h1 h2 hl hr
        | true => exact treeChanges_main a b f g A B c d l V N m w hx hy hv hN hf hg C HA h1 h2 hl hr _ _ _ _ _ _ _ _ _ rfl rfl rfl
end Go.Proofs.Ytgipnemcmiohlaa

