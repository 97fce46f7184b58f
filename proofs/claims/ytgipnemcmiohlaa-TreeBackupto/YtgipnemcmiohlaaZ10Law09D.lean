/- What the laws of package tree want of Law09D. -/
import Derived.Test.YtgipnemcmiohlaaZ10TreWay
namespace Go.Proofs.Ytgipnemcmiohlaa
open Go.RowKit
set_option linter.unusedSimpArgs false
set_option linter.unusedVariables false
set_option maxRecDepth 100000 in
set_option maxHeartbeats 8000000 in
theorem treeBack_none (a b : NdD) (f g : NdF) (A B : Option Addr) (c d : Nat) (l : List Stp) (V : Option Addr) (N m : Nat) (w : World) (hx : LieN w (ndC a (.slice A f.len c)) (a, f)) (hy : LieN w (ndC b (.slice B g.len d)) (b, g)) (hv : WayV w.heap.size w (.slice V N m) l) (hN : N = l.length) (hf : f.size ≤ 1000000) (hg : g.size ≤ 1000000) (HA : Awake9 w) (h1 : decide (f.size + 1 ≤ 300) = false) (h2 : decide (g.size + 1 ≤ 300) = false) :
    Calls Try.prog 5 #[.agg #[.string (txt a.name), .string (txt a.key), .int .i64 a.kind, .int .u64 (a.num : Int), .string (txt a.text), .slice A f.len c], .slice V N m, .agg #[.string (txt b.name), .string (txt b.key), .int .i64 b.kind, .int .u64 (b.num : Int), .string (txt b.text), .slice B g.len d]] w (Ans9 (.bool true) w) := by
  have hb2 : Blk ((w.alloc (.cells #[.string (txt a.name), .string (txt a.key), .int .i64 a.kind, .int .u64 (a.num : Int), .string (txt a.text), .slice A f.len c] 27)).alloc (.cells #[.string (txt b.name), .string (txt b.key), .int .i64 b.kind, .int .u64 (b.num : Int), .string (txt b.text), .slice B g.len d] 27)) (w.heap.size + 1) 27 #[.string (txt b.name), .string (txt b.key), .int .i64 b.kind, .int .u64 (b.num : Int), .string (txt b.text), .slice B g.len d] := by
    have h := Blk.new (w.alloc (.cells #[.string (txt a.name), .string (txt a.key), .int .i64 a.kind, .int .u64 (a.num : Int), .string (txt a.text), .slice A f.len c] 27)) 27 #[.string (txt b.name), .string (txt b.key), .int .i64 b.kind, .int .u64 (b.num : Int), .string (txt b.text), .slice B g.len d]
    rw [show (w.alloc (.cells #[.string (txt a.name), .string (txt a.key), .int .i64 a.kind, .int .u64 (a.num : Int), .string (txt a.text), .slice A f.len c] 27)).heap.size = w.heap.size + 1 by simp] at h
    exact h
  have HX := Lib.hid ((Blk.new w 27 #[.string (txt a.name), .string (txt a.key), .int .i64 a.kind, .int .u64 (a.num : Int), .string (txt a.text), .slice A f.len c]).alloc (.cells #[.string (txt b.name), .string (txt b.key), .int .i64 b.kind, .int .u64 (b.num : Int), .string (txt b.text), .slice B g.len d] 27))
  have HY := Lib.hid hb2
  have HB : Hid (Below w.heap.size w ((w.alloc (.cells #[.string (txt a.name), .string (txt a.key), .int .i64 a.kind, .int .u64 (a.num : Int), .string (txt a.text), .slice A f.len c] 27)).alloc (.cells #[.string (txt b.name), .string (txt b.key), .int .i64 b.kind, .int .u64 (b.num : Int), .string (txt b.text), .slice B g.len d] 27))) := Lib.hid (((Below.refl _ _).alloc (Nat.le_refl _) _).alloc (by simp) _)
  clear hb2
  have KA := Lib.hid HA
  have K1 : Hid (∀ W, Below w.heap.size w W → Calls Try.prog 9 #[.agg #[.string (txt a.name), .string (txt a.key), .int .i64 a.kind, .int .u64 (a.num : Int), .string (txt a.text), .slice A f.len c]] W (Ans9 (.bool false) W)) := Lib.hid (fun W hW => by have h := small_q hx hf W hW; rwa [h1] at h)
  have K2 : Hid (∀ W, Below w.heap.size w W → Calls Try.prog 9 #[.agg #[.string (txt b.name), .string (txt b.key), .int .i64 b.kind, .int .u64 (b.num : Int), .string (txt b.text), .slice B g.len d]] W (Ans9 (.bool false) W)) := Lib.hid (fun W hW => by have h := small_q hy hg W hW; rwa [h2] at h)
  clear HA hx hy hv hf hg h1 h2 hN
  go_enter Try.func5, Try.ntmps5
  go_wp2_with fail
  refine (KA.out _ HB.out).mono ?_
  rintro r w1 ⟨rfl, hb⟩
  replace HX := Lib.hid (HX.out.below hb HX.out.lt)
  replace HY := Lib.hid (HY.out.below hb HY.out.lt)
  replace HB := Lib.hid (HB.out.trans (hb.mono HB.out.size))
  clear hb
  have ld0_0 := (HX.out.cell 0).trans rfl
  have ld0_1 := (HX.out.cell 1).trans rfl
  have ld0_2 := (HX.out.cell 2).trans rfl
  have ld0_3 := (HX.out.cell 3).trans rfl
  have ld0_4 := (HX.out.cell 4).trans rfl
  have ld0_5 := (HX.out.cell 5).trans rfl
  go_wp2_with fail
  refine (K1.out _ HB.out).mono ?_
  rintro r w2 ⟨rfl, hb⟩
  replace HX := Lib.hid (HX.out.below hb HX.out.lt)
  replace HY := Lib.hid (HY.out.below hb HY.out.lt)
  replace HB := Lib.hid (HB.out.trans (hb.mono HB.out.size))
  clear ld0_0 ld0_1 ld0_2 ld0_3 ld0_4 ld0_5 hb
  have ld0_0 := (HY.out.cell 0).trans rfl
  have ld0_1 := (HY.out.cell 1).trans rfl
  have ld0_2 := (HY.out.cell 2).trans rfl
  have ld0_3 := (HY.out.cell 3).trans rfl
  have ld0_4 := (HY.out.cell 4).trans rfl
  have ld0_5 := (HY.out.cell 5).trans rfl
  go_wp2_with fail
  refine (K2.out _ HB.out).mono ?_
  rintro r w3 ⟨rfl, hb⟩
  replace HX := Lib.hid (HX.out.below hb HX.out.lt)
  replace HY := Lib.hid (HY.out.below hb HY.out.lt)
  replace HB := Lib.hid (HB.out.trans (hb.mono HB.out.size))
  clear ld0_0 ld0_1 ld0_2 ld0_3 ld0_4 ld0_5 hb
  go_wp2
  go_ret
  exact ⟨rfl, HB.out⟩
set_option maxRecDepth 100000 in
set_option maxHeartbeats 8000000 in
theorem treeBack_two (a b : NdD) (f g : NdF) (A B : Option Addr) (c d : Nat) (l : List Stp) (V : Option Addr) (N m : Nat) (w : World) (hx : LieN w (ndC a (.slice A f.len c)) (a, f)) (hy : LieN w (ndC b (.slice B g.len d)) (b, g)) (hv : WayV w.heap.size w (.slice V N m) l) (hN : N = l.length) (hf : f.size ≤ 1000000) (hg : g.size ≤ 1000000) (HA : Awake9 w) (h1 : decide (f.size + 1 ≤ 300) = false) (h2 : decide (g.size + 1 ≤ 300) = true) :
    Calls Try.prog 5 #[.agg #[.string (txt a.name), .string (txt a.key), .int .i64 a.kind, .int .u64 (a.num : Int), .string (txt a.text), .slice A f.len c], .slice V N m, .agg #[.string (txt b.name), .string (txt b.key), .int .i64 b.kind, .int .u64 (b.num : Int), .string (txt b.text), .slice B g.len d]] w (Ans9 (.bool true) w) := by
  have hb2 : Blk ((w.alloc (.cells #[.string (txt a.name), .string (txt a.key), .int .i64 a.kind, .int .u64 (a.num : Int), .string (txt a.text), .slice A f.len c] 27)).alloc (.cells #[.string (txt b.name), .string (txt b.key), .int .i64 b.kind, .int .u64 (b.num : Int), .string (txt b.text), .slice B g.len d] 27)) (w.heap.size + 1) 27 #[.string (txt b.name), .string (txt b.key), .int .i64 b.kind, .int .u64 (b.num : Int), .string (txt b.text), .slice B g.len d] := by
    have h := Blk.new (w.alloc (.cells #[.string (txt a.name), .string (txt a.key), .int .i64 a.kind, .int .u64 (a.num : Int), .string (txt a.text), .slice A f.len c] 27)) 27 #[.string (txt b.name), .string (txt b.key), .int .i64 b.kind, .int .u64 (b.num : Int), .string (txt b.text), .slice B g.len d]
    rw [show (w.alloc (.cells #[.string (txt a.name), .string (txt a.key), .int .i64 a.kind, .int .u64 (a.num : Int), .string (txt a.text), .slice A f.len c] 27)).heap.size = w.heap.size + 1 by simp] at h
    exact h
  have HX := Lib.hid ((Blk.new w 27 #[.string (txt a.name), .string (txt a.key), .int .i64 a.kind, .int .u64 (a.num : Int), .string (txt a.text), .slice A f.len c]).alloc (.cells #[.string (txt b.name), .string (txt b.key), .int .i64 b.kind, .int .u64 (b.num : Int), .string (txt b.text), .slice B g.len d] 27))
  have HY := Lib.hid hb2
  have HB : Hid (Below w.heap.size w ((w.alloc (.cells #[.string (txt a.name), .string (txt a.key), .int .i64 a.kind, .int .u64 (a.num : Int), .string (txt a.text), .slice A f.len c] 27)).alloc (.cells #[.string (txt b.name), .string (txt b.key), .int .i64 b.kind, .int .u64 (b.num : Int), .string (txt b.text), .slice B g.len d] 27))) := Lib.hid (((Below.refl _ _).alloc (Nat.le_refl _) _).alloc (by simp) _)
  clear hb2
  have KA := Lib.hid HA
  have K1 : Hid (∀ W, Below w.heap.size w W → Calls Try.prog 9 #[.agg #[.string (txt a.name), .string (txt a.key), .int .i64 a.kind, .int .u64 (a.num : Int), .string (txt a.text), .slice A f.len c]] W (Ans9 (.bool false) W)) := Lib.hid (fun W hW => by have h := small_q hx hf W hW; rwa [h1] at h)
  have K2 : Hid (∀ W, Below w.heap.size w W → Calls Try.prog 9 #[.agg #[.string (txt b.name), .string (txt b.key), .int .i64 b.kind, .int .u64 (b.num : Int), .string (txt b.text), .slice B g.len d]] W (Ans9 (.bool true) W)) := Lib.hid (fun W hW => by have h := small_q hy hg W hW; rwa [h2] at h)
  clear HA hx hy hv hf hg h1 h2 hN
  go_enter Try.func5, Try.ntmps5
  go_wp2_with fail
  refine (KA.out _ HB.out).mono ?_
  rintro r w1 ⟨rfl, hb⟩
  replace HX := Lib.hid (HX.out.below hb HX.out.lt)
  replace HY := Lib.hid (HY.out.below hb HY.out.lt)
  replace HB := Lib.hid (HB.out.trans (hb.mono HB.out.size))
  clear hb
  have ld0_0 := (HX.out.cell 0).trans rfl
  have ld0_1 := (HX.out.cell 1).trans rfl
  have ld0_2 := (HX.out.cell 2).trans rfl
  have ld0_3 := (HX.out.cell 3).trans rfl
  have ld0_4 := (HX.out.cell 4).trans rfl
  have ld0_5 := (HX.out.cell 5).trans rfl
  go_wp2_with fail
  refine (K1.out _ HB.out).mono ?_
  rintro r w2 ⟨rfl, hb⟩
  replace HX := Lib.hid (HX.out.below hb HX.out.lt)
  replace HY := Lib.hid (HY.out.below hb HY.out.lt)
  replace HB := Lib.hid (HB.out.trans (hb.mono HB.out.size))
  clear ld0_0 ld0_1 ld0_2 ld0_3 ld0_4 ld0_5 hb
  have ld0_0 := (HY.out.cell 0).trans rfl
  have ld0_1 := (HY.out.cell 1).trans rfl
  have ld0_2 := (HY.out.cell 2).trans rfl
  have ld0_3 := (HY.out.cell 3).trans rfl
  have ld0_4 := (HY.out.cell 4).trans rfl
  have ld0_5 := (HY.out.cell 5).trans rfl
  go_wp2_with fail
  refine (K2.out _ HB.out).mono ?_
  rintro r w3 ⟨rfl, hb⟩
  replace HX := Lib.hid (HX.out.below hb HX.out.lt)
  replace HY := Lib.hid (HY.out.below hb HY.out.lt)
  replace HB := Lib.hid (HB.out.trans (hb.mono HB.out.size))
  clear ld0_0 ld0_1 ld0_2 ld0_3 ld0_4 ld0_5 hb
  go_wp2
  go_ret
  exact ⟨rfl, HB.out⟩
set_option maxRecDepth 100000 in
set_option maxHeartbeats 8000000 in
theorem treeBack_one (a b : NdD) (f g : NdF) (A B : Option Addr) (c d : Nat) (l : List Stp) (V : Option Addr) (N m : Nat) (w : World) (hx : LieN w (ndC a (.slice A f.len c)) (a, f)) (hy : LieN w (ndC b (.slice B g.len d)) (b, g)) (hv : WayV w.heap.size w (.slice V N m) l) (hN : N = l.length) (hf : f.size ≤ 1000000) (hg : g.size ≤ 1000000) (HA : Awake9 w) (h1 : decide (f.size + 1 ≤ 300) = true) (h2 : decide (g.size + 1 ≤ 300) = false) :
    Calls Try.prog 5 #[.agg #[.string (txt a.name), .string (txt a.key), .int .i64 a.kind, .int .u64 (a.num : Int), .string (txt a.text), .slice A f.len c], .slice V N m, .agg #[.string (txt b.name), .string (txt b.key), .int .i64 b.kind, .int .u64 (b.num : Int), .string (txt b.text), .slice B g.len d]] w (Ans9 (.bool true) w) := by
  have hb2 : Blk ((w.alloc (.cells #[.string (txt a.name), .string (txt a.key), .int .i64 a.kind, .int .u64 (a.num : Int), .string (txt a.text), .slice A f.len c] 27)).alloc (.cells #[.string (txt b.name), .string (txt b.key), .int .i64 b.kind, .int .u64 (b.num : Int), .string (txt b.text), .slice B g.len d] 27)) (w.heap.size + 1) 27 #[.string (txt b.name), .string (txt b.key), .int .i64 b.kind, .int .u64 (b.num : Int), .string (txt b.text), .slice B g.len d] := by
    have h := Blk.new (w.alloc (.cells #[.string (txt a.name), .string (txt a.key), .int .i64 a.kind, .int .u64 (a.num : Int), .string (txt a.text), .slice A f.len c] 27)) 27 #[.string (txt b.name), .string (txt b.key), .int .i64 b.kind, .int .u64 (b.num : Int), .string (txt b.text), .slice B g.len d]
    rw [show (w.alloc (.cells #[.string (txt a.name), .string (txt a.key), .int .i64 a.kind, .int .u64 (a.num : Int), .string (txt a.text), .slice A f.len c] 27)).heap.size = w.heap.size + 1 by simp] at h
    exact h
  have HX := Lib.hid ((Blk.new w 27 #[.string (txt a.name), .string (txt a.key), .int .i64 a.kind, .int .u64 (a.num : Int), .string (txt a.text), .slice A f.len c]).alloc (.cells #[.string (txt b.name), .string (txt b.key), .int .i64 b.kind, .int .u64 (b.num : Int), .string (txt b.text), .slice B g.len d] 27))
  have HY := Lib.hid hb2
  have HB : Hid (Below w.heap.size w ((w.alloc (.cells #[.string (txt a.name), .string (txt a.key), .int .i64 a.kind, .int .u64 (a.num : Int), .string (txt a.text), .slice A f.len c] 27)).alloc (.cells #[.string (txt b.name), .string (txt b.key), .int .i64 b.kind, .int .u64 (b.num : Int), .string (txt b.text), .slice B g.len d] 27))) := Lib.hid (((Below.refl _ _).alloc (Nat.le_refl _) _).alloc (by simp) _)
  clear hb2
  have KA := Lib.hid HA
  have K1 : Hid (∀ W, Below w.heap.size w W → Calls Try.prog 9 #[.agg #[.string (txt a.name), .string (txt a.key), .int .i64 a.kind, .int .u64 (a.num : Int), .string (txt a.text), .slice A f.len c]] W (Ans9 (.bool true) W)) := Lib.hid (fun W hW => by have h := small_q hx hf W hW; rwa [h1] at h)
  have K2 : Hid (∀ W, Below w.heap.size w W → Calls Try.prog 9 #[.agg #[.string (txt b.name), .string (txt b.key), .int .i64 b.kind, .int .u64 (b.num : Int), .string (txt b.text), .slice B g.len d]] W (Ans9 (.bool false) W)) := Lib.hid (fun W hW => by have h := small_q hy hg W hW; rwa [h2] at h)
  clear HA hx hy hv hf hg h1 h2 hN
  go_enter Try.func5, Try.ntmps5
  go_wp2_with fail
  refine (KA.out _ HB.out).mono ?_
  rintro r w1 ⟨rfl, hb⟩
  replace HX := Lib.hid (HX.out.below hb HX.out.lt)
  replace HY := Lib.hid (HY.out.below hb HY.out.lt)
  replace HB := Lib.hid (HB.out.trans (hb.mono HB.out.size))
  clear hb
  have ld0_0 := (HX.out.cell 0).trans rfl
  have ld0_1 := (HX.out.cell 1).trans rfl
  have ld0_2 := (HX.out.cell 2).trans rfl
  have ld0_3 := (HX.out.cell 3).trans rfl
  have ld0_4 := (HX.out.cell 4).trans rfl
  have ld0_5 := (HX.out.cell 5).trans rfl
  go_wp2_with fail
  refine (K1.out _ HB.out).mono ?_
  rintro r w2 ⟨rfl, hb⟩
  replace HX := Lib.hid (HX.out.below hb HX.out.lt)
  replace HY := Lib.hid (HY.out.below hb HY.out.lt)
  replace HB := Lib.hid (HB.out.trans (hb.mono HB.out.size))
  clear ld0_0 ld0_1 ld0_2 ld0_3 ld0_4 ld0_5 hb
  have ld0_0 := (HY.out.cell 0).trans rfl
  have ld0_1 := (HY.out.cell 1).trans rfl
  have ld0_2 := (HY.out.cell 2).trans rfl
  have ld0_3 := (HY.out.cell 3).trans rfl
  have ld0_4 := (HY.out.cell 4).trans rfl
  have ld0_5 := (HY.out.cell 5).trans rfl
  go_wp2_with fail
  refine (K2.out _ HB.out).mono ?_
  rintro r w3 ⟨rfl, hb⟩
  replace HX := Lib.hid (HX.out.below hb HX.out.lt)
  replace HY := Lib.hid (HY.out.below hb HY.out.lt)
  replace HB := Lib.hid (HB.out.trans (hb.mono HB.out.size))
  clear ld0_0 ld0_1 ld0_2 ld0_3 ld0_4 ld0_5 hb
  go_wp2
  go_ret
  exact ⟨rfl, HB.out⟩
set_option maxRecDepth 100000 in
set_option maxHeartbeats 8000000 in
theorem treeBack_long (a b : NdD) (f g : NdF) (A B : Option Addr) (c d : Nat) (l : List Stp) (V : Option Addr) (N m : Nat) (w : World) (hx : LieN w (ndC a (.slice A f.len c)) (a, f)) (hy : LieN w (ndC b (.slice B g.len d)) (b, g)) (hv : WayV w.heap.size w (.slice V N m) l) (hN : N = l.length) (hf : f.size ≤ 1000000) (hg : g.size ≤ 1000000) (HA : Awake9 w) (h1 : decide (f.size + 1 ≤ 300) = true) (h2 : decide (g.size + 1 ≤ 300) = true) (hl : 20 < N) :
    Calls Try.prog 5 #[.agg #[.string (txt a.name), .string (txt a.key), .int .i64 a.kind, .int .u64 (a.num : Int), .string (txt a.text), .slice A f.len c], .slice V N m, .agg #[.string (txt b.name), .string (txt b.key), .int .i64 b.kind, .int .u64 (b.num : Int), .string (txt b.text), .slice B g.len d]] w (Ans9 (.bool true) w) := by
  have hb2 : Blk ((w.alloc (.cells #[.string (txt a.name), .string (txt a.key), .int .i64 a.kind, .int .u64 (a.num : Int), .string (txt a.text), .slice A f.len c] 27)).alloc (.cells #[.string (txt b.name), .string (txt b.key), .int .i64 b.kind, .int .u64 (b.num : Int), .string (txt b.text), .slice B g.len d] 27)) (w.heap.size + 1) 27 #[.string (txt b.name), .string (txt b.key), .int .i64 b.kind, .int .u64 (b.num : Int), .string (txt b.text), .slice B g.len d] := by
    have h := Blk.new (w.alloc (.cells #[.string (txt a.name), .string (txt a.key), .int .i64 a.kind, .int .u64 (a.num : Int), .string (txt a.text), .slice A f.len c] 27)) 27 #[.string (txt b.name), .string (txt b.key), .int .i64 b.kind, .int .u64 (b.num : Int), .string (txt b.text), .slice B g.len d]
    rw [show (w.alloc (.cells #[.string (txt a.name), .string (txt a.key), .int .i64 a.kind, .int .u64 (a.num : Int), .string (txt a.text), .slice A f.len c] 27)).heap.size = w.heap.size + 1 by simp] at h
    exact h
  have HX := Lib.hid ((Blk.new w 27 #[.string (txt a.name), .string (txt a.key), .int .i64 a.kind, .int .u64 (a.num : Int), .string (txt a.text), .slice A f.len c]).alloc (.cells #[.string (txt b.name), .string (txt b.key), .int .i64 b.kind, .int .u64 (b.num : Int), .string (txt b.text), .slice B g.len d] 27))
  have HY := Lib.hid hb2
  have HB : Hid (Below w.heap.size w ((w.alloc (.cells #[.string (txt a.name), .string (txt a.key), .int .i64 a.kind, .int .u64 (a.num : Int), .string (txt a.text), .slice A f.len c] 27)).alloc (.cells #[.string (txt b.name), .string (txt b.key), .int .i64 b.kind, .int .u64 (b.num : Int), .string (txt b.text), .slice B g.len d] 27))) := Lib.hid (((Below.refl _ _).alloc (Nat.le_refl _) _).alloc (by simp) _)
  clear hb2
  have KA := Lib.hid HA
  have K1 : Hid (∀ W, Below w.heap.size w W → Calls Try.prog 9 #[.agg #[.string (txt a.name), .string (txt a.key), .int .i64 a.kind, .int .u64 (a.num : Int), .string (txt a.text), .slice A f.len c]] W (Ans9 (.bool true) W)) := Lib.hid (fun W hW => by have h := small_q hx hf W hW; rwa [h1] at h)
  have K2 : Hid (∀ W, Below w.heap.size w W → Calls Try.prog 9 #[.agg #[.string (txt b.name), .string (txt b.key), .int .i64 b.kind, .int .u64 (b.num : Int), .string (txt b.text), .slice B g.len d]] W (Ans9 (.bool true) W)) := Lib.hid (fun W hW => by have h := small_q hy hg W hW; rwa [h2] at h)
  have n1 : (20 : Int) < (N : Int) := by omega
  clear HA hx hy hv hf hg h1 h2 hN hl
  go_enter Try.func5, Try.ntmps5
  go_wp2_with fail
  refine (KA.out _ HB.out).mono ?_
  rintro r w1 ⟨rfl, hb⟩
  replace HX := Lib.hid (HX.out.below hb HX.out.lt)
  replace HY := Lib.hid (HY.out.below hb HY.out.lt)
  replace HB := Lib.hid (HB.out.trans (hb.mono HB.out.size))
  clear hb
  have ld0_0 := (HX.out.cell 0).trans rfl
  have ld0_1 := (HX.out.cell 1).trans rfl
  have ld0_2 := (HX.out.cell 2).trans rfl
  have ld0_3 := (HX.out.cell 3).trans rfl
  have ld0_4 := (HX.out.cell 4).trans rfl
  have ld0_5 := (HX.out.cell 5).trans rfl
  go_wp2_with fail
  refine (K1.out _ HB.out).mono ?_
  rintro r w2 ⟨rfl, hb⟩
  replace HX := Lib.hid (HX.out.below hb HX.out.lt)
  replace HY := Lib.hid (HY.out.below hb HY.out.lt)
  replace HB := Lib.hid (HB.out.trans (hb.mono HB.out.size))
  clear ld0_0 ld0_1 ld0_2 ld0_3 ld0_4 ld0_5 hb
  have ld0_0 := (HY.out.cell 0).trans rfl
  have ld0_1 := (HY.out.cell 1).trans rfl
  have ld0_2 := (HY.out.cell 2).trans rfl
  have ld0_3 := (HY.out.cell 3).trans rfl
  have ld0_4 := (HY.out.cell 4).trans rfl
  have ld0_5 := (HY.out.cell 5).trans rfl
  go_wp2_with fail
  refine (K2.out _ HB.out).mono ?_
  rintro r w3 ⟨rfl, hb⟩
  replace HX := Lib.hid (HX.out.below hb HX.out.lt)
  replace HY := Lib.hid (HY.out.below hb HY.out.lt)
  replace HB := Lib.hid (HB.out.trans (hb.mono HB.out.size))
  clear ld0_0 ld0_1 ld0_2 ld0_3 ld0_4 ld0_5 hb
  go_wp2
  go_ret
  exact ⟨rfl, HB.out⟩
set_option maxRecDepth 100000 in
set_option maxHeartbeats 8000000 in
theorem treeBack_wrong (a b : NdD) (f g : NdF) (A B : Option Addr) (c d : Nat) (l : List Stp) (V : Option Addr) (N m : Nat) (w : World) (hx : LieN w (ndC a (.slice A f.len c)) (a, f)) (hy : LieN w (ndC b (.slice B g.len d)) (b, g)) (hv : WayV w.heap.size w (.slice V N m) l) (hN : N = l.length) (hf : f.size ≤ 1000000) (hg : g.size ≤ 1000000) (HA : Awake9 w) (h1 : decide (f.size + 1 ≤ 300) = true) (h2 : decide (g.size + 1 ≤ 300) = true) (hl : ¬ 20 < N) (hr : rgtX (a, f) = false) :
    Calls Try.prog 5 #[.agg #[.string (txt a.name), .string (txt a.key), .int .i64 a.kind, .int .u64 (a.num : Int), .string (txt a.text), .slice A f.len c], .slice V N m, .agg #[.string (txt b.name), .string (txt b.key), .int .i64 b.kind, .int .u64 (b.num : Int), .string (txt b.text), .slice B g.len d]] w (Ans9 (.bool true) w) := by
  have hb2 : Blk ((w.alloc (.cells #[.string (txt a.name), .string (txt a.key), .int .i64 a.kind, .int .u64 (a.num : Int), .string (txt a.text), .slice A f.len c] 27)).alloc (.cells #[.string (txt b.name), .string (txt b.key), .int .i64 b.kind, .int .u64 (b.num : Int), .string (txt b.text), .slice B g.len d] 27)) (w.heap.size + 1) 27 #[.string (txt b.name), .string (txt b.key), .int .i64 b.kind, .int .u64 (b.num : Int), .string (txt b.text), .slice B g.len d] := by
    have h := Blk.new (w.alloc (.cells #[.string (txt a.name), .string (txt a.key), .int .i64 a.kind, .int .u64 (a.num : Int), .string (txt a.text), .slice A f.len c] 27)) 27 #[.string (txt b.name), .string (txt b.key), .int .i64 b.kind, .int .u64 (b.num : Int), .string (txt b.text), .slice B g.len d]
    rw [show (w.alloc (.cells #[.string (txt a.name), .string (txt a.key), .int .i64 a.kind, .int .u64 (a.num : Int), .string (txt a.text), .slice A f.len c] 27)).heap.size = w.heap.size + 1 by simp] at h
    exact h
  have HX := Lib.hid ((Blk.new w 27 #[.string (txt a.name), .string (txt a.key), .int .i64 a.kind, .int .u64 (a.num : Int), .string (txt a.text), .slice A f.len c]).alloc (.cells #[.string (txt b.name), .string (txt b.key), .int .i64 b.kind, .int .u64 (b.num : Int), .string (txt b.text), .slice B g.len d] 27))
  have HY := Lib.hid hb2
  have HB : Hid (Below w.heap.size w ((w.alloc (.cells #[.string (txt a.name), .string (txt a.key), .int .i64 a.kind, .int .u64 (a.num : Int), .string (txt a.text), .slice A f.len c] 27)).alloc (.cells #[.string (txt b.name), .string (txt b.key), .int .i64 b.kind, .int .u64 (b.num : Int), .string (txt b.text), .slice B g.len d] 27))) := Lib.hid (((Below.refl _ _).alloc (Nat.le_refl _) _).alloc (by simp) _)
  clear hb2
  have KA := Lib.hid HA
  have K1 : Hid (∀ W, Below w.heap.size w W → Calls Try.prog 9 #[.agg #[.string (txt a.name), .string (txt a.key), .int .i64 a.kind, .int .u64 (a.num : Int), .string (txt a.text), .slice A f.len c]] W (Ans9 (.bool true) W)) := Lib.hid (fun W hW => by have h := small_q hx hf W hW; rwa [h1] at h)
  have K2 : Hid (∀ W, Below w.heap.size w W → Calls Try.prog 9 #[.agg #[.string (txt b.name), .string (txt b.key), .int .i64 b.kind, .int .u64 (b.num : Int), .string (txt b.text), .slice B g.len d]] W (Ans9 (.bool true) W)) := Lib.hid (fun W hW => by have h := small_q hy hg W hW; rwa [h2] at h)
  have n1 : ¬ (20 : Int) < (N : Int) := by omega
  have KR : Hid (∀ W, Below w.heap.size w W → Calls Try.prog 12 #[.agg #[.string (txt a.name), .string (txt a.key), .int .i64 a.kind, .int .u64 (a.num : Int), .string (txt a.text), .slice A f.len c]] W (Ans9 (.bool false) W)) := Lib.hid (fun W hW => by have h := rright_q hx hf W hW; rwa [hr] at h)
  clear HA hx hy hv hf hg h1 h2 hN hl hr
  go_enter Try.func5, Try.ntmps5
  go_wp2_with fail
  refine (KA.out _ HB.out).mono ?_
  rintro r w1 ⟨rfl, hb⟩
  replace HX := Lib.hid (HX.out.below hb HX.out.lt)
  replace HY := Lib.hid (HY.out.below hb HY.out.lt)
  replace HB := Lib.hid (HB.out.trans (hb.mono HB.out.size))
  clear hb
  have ld0_0 := (HX.out.cell 0).trans rfl
  have ld0_1 := (HX.out.cell 1).trans rfl
  have ld0_2 := (HX.out.cell 2).trans rfl
  have ld0_3 := (HX.out.cell 3).trans rfl
  have ld0_4 := (HX.out.cell 4).trans rfl
  have ld0_5 := (HX.out.cell 5).trans rfl
  go_wp2_with fail
  refine (K1.out _ HB.out).mono ?_
  rintro r w2 ⟨rfl, hb⟩
  replace HX := Lib.hid (HX.out.below hb HX.out.lt)
  replace HY := Lib.hid (HY.out.below hb HY.out.lt)
  replace HB := Lib.hid (HB.out.trans (hb.mono HB.out.size))
  clear ld0_0 ld0_1 ld0_2 ld0_3 ld0_4 ld0_5 hb
  have ld0_0 := (HY.out.cell 0).trans rfl
  have ld0_1 := (HY.out.cell 1).trans rfl
  have ld0_2 := (HY.out.cell 2).trans rfl
  have ld0_3 := (HY.out.cell 3).trans rfl
  have ld0_4 := (HY.out.cell 4).trans rfl
  have ld0_5 := (HY.out.cell 5).trans rfl
  go_wp2_with fail
  refine (K2.out _ HB.out).mono ?_
  rintro r w3 ⟨rfl, hb⟩
  replace HX := Lib.hid (HX.out.below hb HX.out.lt)
  replace HY := Lib.hid (HY.out.below hb HY.out.lt)
  replace HB := Lib.hid (HB.out.trans (hb.mono HB.out.size))
  clear ld0_0 ld0_1 ld0_2 ld0_3 ld0_4 ld0_5 hb
  have ld0_0 := (HX.out.cell 0).trans rfl
  have ld0_1 := (HX.out.cell 1).trans rfl
  have ld0_2 := (HX.out.cell 2).trans rfl
  have ld0_3 := (HX.out.cell 3).trans rfl
  have ld0_4 := (HX.out.cell 4).trans rfl
  have ld0_5 := (HX.out.cell 5).trans rfl
  go_wp2_with fail
  refine (KR.out _ HB.out).mono ?_
  rintro r w4 ⟨rfl, hb⟩
  replace HX := Lib.hid (HX.out.below hb HX.out.lt)
  replace HY := Lib.hid (HY.out.below hb HY.out.lt)
  replace HB := Lib.hid (HB.out.trans (hb.mono HB.out.size))
  clear ld0_0 ld0_1 ld0_2 ld0_3 ld0_4 ld0_5 hb
  go_wp2
  go_ret
  exact ⟨rfl, HB.out⟩
set_option maxRecDepth 100000 in
set_option maxHeartbeats 8000000 in
theorem treeBack_worse (a b : NdD) (f g : NdF) (A B : Option Addr) (c d : Nat) (l : List Stp) (V : Option Addr) (N m : Nat) (w : World) (hx : LieN w (ndC a (.slice A f.len c)) (a, f)) (hy : LieN w (ndC b (.slice B g.len d)) (b, g)) (hv : WayV w.heap.size w (.slice V N m) l) (hN : N = l.length) (hf : f.size ≤ 1000000) (hg : g.size ≤ 1000000) (HA : Awake9 w) (h1 : decide (f.size + 1 ≤ 300) = true) (h2 : decide (g.size + 1 ≤ 300) = true) (hl : ¬ 20 < N) (hr : rgtX (a, f) = true) (hq : rgtX (b, g) = false) :
    Calls Try.prog 5 #[.agg #[.string (txt a.name), .string (txt a.key), .int .i64 a.kind, .int .u64 (a.num : Int), .string (txt a.text), .slice A f.len c], .slice V N m, .agg #[.string (txt b.name), .string (txt b.key), .int .i64 b.kind, .int .u64 (b.num : Int), .string (txt b.text), .slice B g.len d]] w (Ans9 (.bool true) w) := by
  have hb2 : Blk ((w.alloc (.cells #[.string (txt a.name), .string (txt a.key), .int .i64 a.kind, .int .u64 (a.num : Int), .string (txt a.text), .slice A f.len c] 27)).alloc (.cells #[.string (txt b.name), .string (txt b.key), .int .i64 b.kind, .int .u64 (b.num : Int), .string (txt b.text), .slice B g.len d] 27)) (w.heap.size + 1) 27 #[.string (txt b.name), .string (txt b.key), .int .i64 b.kind, .int .u64 (b.num : Int), .string (txt b.text), .slice B g.len d] := by
    have h := Blk.new (w.alloc (.cells #[.string (txt a.name), .string (txt a.key), .int .i64 a.kind, .int .u64 (a.num : Int), .string (txt a.text), .slice A f.len c] 27)) 27 #[.string (txt b.name), .string (txt b.key), .int .i64 b.kind, .int .u64 (b.num : Int), .string (txt b.text), .slice B g.len d]
    rw [show (w.alloc (.cells #[.string (txt a.name), .string (txt a.key), .int .i64 a.kind, .int .u64 (a.num : Int), .string (txt a.text), .slice A f.len c] 27)).heap.size = w.heap.size + 1 by simp] at h
    exact h
  have HX := Lib.hid ((Blk.new w 27 #[.string (txt a.name), .string (txt a.key), .int .i64 a.kind, .int .u64 (a.num : Int), .string (txt a.text), .slice A f.len c]).alloc (.cells #[.string (txt b.name), .string (txt b.key), .int .i64 b.kind, .int .u64 (b.num : Int), .string (txt b.text), .slice B g.len d] 27))
  have HY := Lib.hid hb2
  have HB : Hid (Below w.heap.size w ((w.alloc (.cells #[.string (txt a.name), .string (txt a.key), .int .i64 a.kind, .int .u64 (a.num : Int), .string (txt a.text), .slice A f.len c] 27)).alloc (.cells #[.string (txt b.name), .string (txt b.key), .int .i64 b.kind, .int .u64 (b.num : Int), .string (txt b.text), .slice B g.len d] 27))) := Lib.hid (((Below.refl _ _).alloc (Nat.le_refl _) _).alloc (by simp) _)
  clear hb2
  have KA := Lib.hid HA
  have K1 : Hid (∀ W, Below w.heap.size w W → Calls Try.prog 9 #[.agg #[.string (txt a.name), .string (txt a.key), .int .i64 a.kind, .int .u64 (a.num : Int), .string (txt a.text), .slice A f.len c]] W (Ans9 (.bool true) W)) := Lib.hid (fun W hW => by have h := small_q hx hf W hW; rwa [h1] at h)
  have K2 : Hid (∀ W, Below w.heap.size w W → Calls Try.prog 9 #[.agg #[.string (txt b.name), .string (txt b.key), .int .i64 b.kind, .int .u64 (b.num : Int), .string (txt b.text), .slice B g.len d]] W (Ans9 (.bool true) W)) := Lib.hid (fun W hW => by have h := small_q hy hg W hW; rwa [h2] at h)
  have n1 : ¬ (20 : Int) < (N : Int) := by omega
  have KR : Hid (∀ W, Below w.heap.size w W → Calls Try.prog 12 #[.agg #[.string (txt a.name), .string (txt a.key), .int .i64 a.kind, .int .u64 (a.num : Int), .string (txt a.text), .slice A f.len c]] W (Ans9 (.bool true) W)) := Lib.hid (fun W hW => by have h := rright_q hx hf W hW; rwa [hr] at h)
  have KQ : Hid (∀ W, Below w.heap.size w W → Calls Try.prog 12 #[.agg #[.string (txt b.name), .string (txt b.key), .int .i64 b.kind, .int .u64 (b.num : Int), .string (txt b.text), .slice B g.len d]] W (Ans9 (.bool false) W)) := Lib.hid (fun W hW => by have h := rright_q hy hg W hW; rwa [hq] at h)
  clear HA hx hy hv hf hg h1 h2 hN hl hr hq
  go_enter Try.func5, Try.ntmps5
  go_wp2_with fail
  refine (KA.out _ HB.out).mono ?_
  rintro r w1 ⟨rfl, hb⟩
  replace HX := Lib.hid (HX.out.below hb HX.out.lt)
  replace HY := Lib.hid (HY.out.below hb HY.out.lt)
  replace HB := Lib.hid (HB.out.trans (hb.mono HB.out.size))
  clear hb
  have ld0_0 := (HX.out.cell 0).trans rfl
  have ld0_1 := (HX.out.cell 1).trans rfl
  have ld0_2 := (HX.out.cell 2).trans rfl
  have ld0_3 := (HX.out.cell 3).trans rfl
  have ld0_4 := (HX.out.cell 4).trans rfl
  have ld0_5 := (HX.out.cell 5).trans rfl
  go_wp2_with fail
  refine (K1.out _ HB.out).mono ?_
  rintro r w2 ⟨rfl, hb⟩
  replace HX := Lib.hid (HX.out.below hb HX.out.lt)
  replace HY := Lib.hid (HY.out.below hb HY.out.lt)
  replace HB := Lib.hid (HB.out.trans (hb.mono HB.out.size))
  clear ld0_0 ld0_1 ld0_2 ld0_3 ld0_4 ld0_5 hb
  have ld0_0 := (HY.out.cell 0).trans rfl
  have ld0_1 := (HY.out.cell 1).trans rfl
  have ld0_2 := (HY.out.cell 2).trans rfl
  have ld0_3 := (HY.out.cell 3).trans rfl
  have ld0_4 := (HY.out.cell 4).trans rfl
  have ld0_5 := (HY.out.cell 5).trans rfl
  go_wp2_with fail
  refine (K2.out _ HB.out).mono ?_
  rintro r w3 ⟨rfl, hb⟩
  replace HX := Lib.hid (HX.out.below hb HX.out.lt)
  replace HY := Lib.hid (HY.out.below hb HY.out.lt)
  replace HB := Lib.hid (HB.out.trans (hb.mono HB.out.size))
  clear ld0_0 ld0_1 ld0_2 ld0_3 ld0_4 ld0_5 hb
  have ld0_0 := (HX.out.cell 0).trans rfl
  have ld0_1 := (HX.out.cell 1).trans rfl
  have ld0_2 := (HX.out.cell 2).trans rfl
  have ld0_3 := (HX.out.cell 3).trans rfl
  have ld0_4 := (HX.out.cell 4).trans rfl
  have ld0_5 := (HX.out.cell 5).trans rfl
  go_wp2_with fail
  refine (KR.out _ HB.out).mono ?_
  rintro r w4 ⟨rfl, hb⟩
  replace HX := Lib.hid (HX.out.below hb HX.out.lt)
  replace HY := Lib.hid (HY.out.below hb HY.out.lt)
  replace HB := Lib.hid (HB.out.trans (hb.mono HB.out.size))
  clear ld0_0 ld0_1 ld0_2 ld0_3 ld0_4 ld0_5 hb
  have ld0_0 := (HY.out.cell 0).trans rfl
  have ld0_1 := (HY.out.cell 1).trans rfl
  have ld0_2 := (HY.out.cell 2).trans rfl
  have ld0_3 := (HY.out.cell 3).trans rfl
  have ld0_4 := (HY.out.cell 4).trans rfl
  have ld0_5 := (HY.out.cell 5).trans rfl
  go_wp2_with fail
  refine (KQ.out _ HB.out).mono ?_
  rintro r w5 ⟨rfl, hb⟩
  replace HX := Lib.hid (HX.out.below hb HX.out.lt)
  replace HY := Lib.hid (HY.out.below hb HY.out.lt)
  replace HB := Lib.hid (HB.out.trans (hb.mono HB.out.size))
  clear ld0_0 ld0_1 ld0_2 ld0_3 ld0_4 ld0_5 hb
  go_wp2
  go_ret
  exact ⟨rfl, HB.out⟩
set_option maxRecDepth 100000 in
set_option maxHeartbeats 8000000 in
theorem treeBack_err (a b : NdD) (f g : NdF) (A B : Option Addr) (c d : Nat) (l : List Stp) (V : Option Addr) (N m : Nat) (w : World) (hx : LieN w (ndC a (.slice A f.len c)) (a, f)) (hy : LieN w (ndC b (.slice B g.len d)) (b, g)) (hv : WayV w.heap.size w (.slice V N m) l) (hN : N = l.length) (hf : f.size ≤ 1000000) (hg : g.size ≤ 1000000) (C : TreC w) (HA : Awake9 w) (h1 : decide (f.size + 1 ≤ 300) = true) (h2 : decide (g.size + 1 ≤ 300) = true) (hl : ¬ 20 < N) (hr : rgtX (a, f) = true) (hq : rgtX (b, g) = true) (oa sa : NdD) (of_ sf : NdF) (wv : Bool) (se : Nat) (hG : GetX (a, f) l = ((oa, of_), wv)) (hS : SetX (a, f) l (b, g) = ((sa, sf), se)) (he : se ≠ 0) :
    Calls Try.prog 5 #[.agg #[.string (txt a.name), .string (txt a.key), .int .i64 a.kind, .int .u64 (a.num : Int), .string (txt a.text), .slice A f.len c], .slice V N m, .agg #[.string (txt b.name), .string (txt b.key), .int .i64 b.kind, .int .u64 (b.num : Int), .string (txt b.text), .slice B g.len d]] w (Ans9 (.bool true) w) := by
  have hb2 : Blk ((w.alloc (.cells #[.string (txt a.name), .string (txt a.key), .int .i64 a.kind, .int .u64 (a.num : Int), .string (txt a.text), .slice A f.len c] 27)).alloc (.cells #[.string (txt b.name), .string (txt b.key), .int .i64 b.kind, .int .u64 (b.num : Int), .string (txt b.text), .slice B g.len d] 27)) (w.heap.size + 1) 27 #[.string (txt b.name), .string (txt b.key), .int .i64 b.kind, .int .u64 (b.num : Int), .string (txt b.text), .slice B g.len d] := by
    have h := Blk.new (w.alloc (.cells #[.string (txt a.name), .string (txt a.key), .int .i64 a.kind, .int .u64 (a.num : Int), .string (txt a.text), .slice A f.len c] 27)) 27 #[.string (txt b.name), .string (txt b.key), .int .i64 b.kind, .int .u64 (b.num : Int), .string (txt b.text), .slice B g.len d]
    rw [show (w.alloc (.cells #[.string (txt a.name), .string (txt a.key), .int .i64 a.kind, .int .u64 (a.num : Int), .string (txt a.text), .slice A f.len c] 27)).heap.size = w.heap.size + 1 by simp] at h
    exact h
  have HX := Lib.hid ((Blk.new w 27 #[.string (txt a.name), .string (txt a.key), .int .i64 a.kind, .int .u64 (a.num : Int), .string (txt a.text), .slice A f.len c]).alloc (.cells #[.string (txt b.name), .string (txt b.key), .int .i64 b.kind, .int .u64 (b.num : Int), .string (txt b.text), .slice B g.len d] 27))
  have HY := Lib.hid hb2
  have HB : Hid (Below w.heap.size w ((w.alloc (.cells #[.string (txt a.name), .string (txt a.key), .int .i64 a.kind, .int .u64 (a.num : Int), .string (txt a.text), .slice A f.len c] 27)).alloc (.cells #[.string (txt b.name), .string (txt b.key), .int .i64 b.kind, .int .u64 (b.num : Int), .string (txt b.text), .slice B g.len d] 27))) := Lib.hid (((Below.refl _ _).alloc (Nat.le_refl _) _).alloc (by simp) _)
  clear hb2
  have KA := Lib.hid HA
  have K1 : Hid (∀ W, Below w.heap.size w W → Calls Try.prog 9 #[.agg #[.string (txt a.name), .string (txt a.key), .int .i64 a.kind, .int .u64 (a.num : Int), .string (txt a.text), .slice A f.len c]] W (Ans9 (.bool true) W)) := Lib.hid (fun W hW => by have h := small_q hx hf W hW; rwa [h1] at h)
  have K2 : Hid (∀ W, Below w.heap.size w W → Calls Try.prog 9 #[.agg #[.string (txt b.name), .string (txt b.key), .int .i64 b.kind, .int .u64 (b.num : Int), .string (txt b.text), .slice B g.len d]] W (Ans9 (.bool true) W)) := Lib.hid (fun W hW => by have h := small_q hy hg W hW; rwa [h2] at h)
  have n1 : ¬ (20 : Int) < (N : Int) := by omega
  have KR : Hid (∀ W, Below w.heap.size w W → Calls Try.prog 12 #[.agg #[.string (txt a.name), .string (txt a.key), .int .i64 a.kind, .int .u64 (a.num : Int), .string (txt a.text), .slice A f.len c]] W (Ans9 (.bool true) W)) := Lib.hid (fun W hW => by have h := rright_q hx hf W hW; rwa [hr] at h)
  have KQ : Hid (∀ W, Below w.heap.size w W → Calls Try.prog 12 #[.agg #[.string (txt b.name), .string (txt b.key), .int .i64 b.kind, .int .u64 (b.num : Int), .string (txt b.text), .slice B g.len d]] W (Ans9 (.bool true) W)) := Lib.hid (fun W hW => by have h := rright_q hy hg W hW; rwa [hq] at h)
  have hln : l.length ≤ 1000000 := by omega
  have e1 : ((se : Int) == 0) = false := by rw [beq_eq_false_iff_ne]; omega
  have e2 : ((se : Int) != 0) = true := by simp; omega
  have KG : Hid (∀ W, Below w.heap.size w W → Calls Try.prog 20 #[.agg #[.string (txt a.name), .string (txt a.key), .int .i64 a.kind, .int .u64 (a.num : Int), .string (txt a.text), .slice A f.len c], .slice V N m] W (RTreP (oa, of_) (.bool wv) W)) := Lib.hid (fun W hW => (by have h := get_q C (Below.refl _ _) hx hv hf hln W hW; rw [hG] at h; exact h.mono fun _ _ h => h.r))
  have KS : Hid (∀ W, Below w.heap.size w W → Calls Try.prog 22 #[.agg #[.string (txt a.name), .string (txt a.key), .int .i64 a.kind, .int .u64 (a.num : Int), .string (txt a.text), .slice A f.len c], .slice V N m, .agg #[.string (txt b.name), .string (txt b.key), .int .i64 b.kind, .int .u64 (b.num : Int), .string (txt b.text), .slice B g.len d]] W (RTreP (sa, sf) (.int .i64 (se : Int)) W)) := Lib.hid (fun W hW => (by have h := set_q C (Below.refl _ _) hx hy hv hf hg hr hln W hW; rw [hS] at h; exact h.mono fun _ _ h => h.r))
  clear C HA hx hy hv hf hg h1 h2 hN hl hr hq hG hS hln he
  go_enter Try.func5, Try.ntmps5
  go_wp2_with fail
  refine (KA.out _ HB.out).mono ?_
  rintro r w1 ⟨rfl, hb⟩
  replace HX := Lib.hid (HX.out.below hb HX.out.lt)
  replace HY := Lib.hid (HY.out.below hb HY.out.lt)
  replace HB := Lib.hid (HB.out.trans (hb.mono HB.out.size))
  clear hb
  have ld0_0 := (HX.out.cell 0).trans rfl
  have ld0_1 := (HX.out.cell 1).trans rfl
  have ld0_2 := (HX.out.cell 2).trans rfl
  have ld0_3 := (HX.out.cell 3).trans rfl
  have ld0_4 := (HX.out.cell 4).trans rfl
  have ld0_5 := (HX.out.cell 5).trans rfl
  go_wp2_with fail
  refine (K1.out _ HB.out).mono ?_
  rintro r w2 ⟨rfl, hb⟩
  replace HX := Lib.hid (HX.out.below hb HX.out.lt)
  replace HY := Lib.hid (HY.out.below hb HY.out.lt)
  replace HB := Lib.hid (HB.out.trans (hb.mono HB.out.size))
  clear ld0_0 ld0_1 ld0_2 ld0_3 ld0_4 ld0_5 hb
  have ld0_0 := (HY.out.cell 0).trans rfl
  have ld0_1 := (HY.out.cell 1).trans rfl
  have ld0_2 := (HY.out.cell 2).trans rfl
  have ld0_3 := (HY.out.cell 3).trans rfl
  have ld0_4 := (HY.out.cell 4).trans rfl
  have ld0_5 := (HY.out.cell 5).trans rfl
  go_wp2_with fail
  refine (K2.out _ HB.out).mono ?_
  rintro r w3 ⟨rfl, hb⟩
  replace HX := Lib.hid (HX.out.below hb HX.out.lt)
  replace HY := Lib.hid (HY.out.below hb HY.out.lt)
  replace HB := Lib.hid (HB.out.trans (hb.mono HB.out.size))
  clear ld0_0 ld0_1 ld0_2 ld0_3 ld0_4 ld0_5 hb
  have ld0_0 := (HX.out.cell 0).trans rfl
  have ld0_1 := (HX.out.cell 1).trans rfl
  have ld0_2 := (HX.out.cell 2).trans rfl
  have ld0_3 := (HX.out.cell 3).trans rfl
  have ld0_4 := (HX.out.cell 4).trans rfl
  have ld0_5 := (HX.out.cell 5).trans rfl
  go_wp2_with fail
  refine (KR.out _ HB.out).mono ?_
  rintro r w4 ⟨rfl, hb⟩
  replace HX := Lib.hid (HX.out.below hb HX.out.lt)
  replace HY := Lib.hid (HY.out.below hb HY.out.lt)
  replace HB := Lib.hid (HB.out.trans (hb.mono HB.out.size))
  clear ld0_0 ld0_1 ld0_2 ld0_3 ld0_4 ld0_5 hb
  have ld0_0 := (HY.out.cell 0).trans rfl
  have ld0_1 := (HY.out.cell 1).trans rfl
  have ld0_2 := (HY.out.cell 2).trans rfl
  have ld0_3 := (HY.out.cell 3).trans rfl
  have ld0_4 := (HY.out.cell 4).trans rfl
  have ld0_5 := (HY.out.cell 5).trans rfl
  go_wp2_with fail
  refine (KQ.out _ HB.out).mono ?_
  rintro r w5 ⟨rfl, hb⟩
  replace HX := Lib.hid (HX.out.below hb HX.out.lt)
  replace HY := Lib.hid (HY.out.below hb HY.out.lt)
  replace HB := Lib.hid (HB.out.trans (hb.mono HB.out.size))
  clear ld0_0 ld0_1 ld0_2 ld0_3 ld0_4 ld0_5 hb
  have ld0_0 := (HX.out.cell 0).trans rfl
  have ld0_1 := (HX.out.cell 1).trans rfl
  have ld0_2 := (HX.out.cell 2).trans rfl
  have ld0_3 := (HX.out.cell 3).trans rfl
  have ld0_4 := (HX.out.cell 4).trans rfl
  have ld0_5 := (HX.out.cell 5).trans rfl
  go_wp2_with fail
  refine (KG.out _ HB.out).mono ?_
  intro r w6 hr
  obtain ⟨Aoa, coa, rfl, hl, hb⟩ := hr.flat
  have hal : Below w6.heap.size w6 (w6.alloc (.cells #[.string (txt oa.name), .string (txt oa.key), .int .i64 oa.kind, .int .u64 (oa.num : Int), .string (txt oa.text), .slice Aoa of_.len coa] 27)) := (Below.refl _ _).alloc (Nat.le_refl _) _
  have hb2 := hb.trans (hal.mono hb.size)
  replace HX := Lib.hid (HX.out.below hb2 HX.out.lt)
  replace HY := Lib.hid (HY.out.below hb2 HY.out.lt)
  replace HB := Lib.hid (HB.out.trans (hb2.mono HB.out.size))
  have HXoa := Lib.hid (Blk.new w6 27 #[.string (txt oa.name), .string (txt oa.key), .int .i64 oa.kind, .int .u64 (oa.num : Int), .string (txt oa.text), .slice Aoa of_.len coa])
  have HLoa : Hid (LieN (w6.alloc (.cells #[.string (txt oa.name), .string (txt oa.key), .int .i64 oa.kind, .int .u64 (oa.num : Int), .string (txt oa.text), .slice Aoa of_.len coa] 27)) (ndC oa (.slice Aoa of_.len coa)) (oa, of_)) := Lib.hid (hl.below hal)
  clear ld0_0 ld0_1 ld0_2 ld0_3 ld0_4 ld0_5 hr hl hb hal hb2
  have ld0_0 := (HX.out.cell 0).trans rfl
  have ld0_1 := (HX.out.cell 1).trans rfl
  have ld0_2 := (HX.out.cell 2).trans rfl
  have ld0_3 := (HX.out.cell 3).trans rfl
  have ld0_4 := (HX.out.cell 4).trans rfl
  have ld0_5 := (HX.out.cell 5).trans rfl
  have ld1_0 := (HY.out.cell 0).trans rfl
  have ld1_1 := (HY.out.cell 1).trans rfl
  have ld1_2 := (HY.out.cell 2).trans rfl
  have ld1_3 := (HY.out.cell 3).trans rfl
  have ld1_4 := (HY.out.cell 4).trans rfl
  have ld1_5 := (HY.out.cell 5).trans rfl
  go_wp2_with fail
  refine (KS.out _ HB.out).mono ?_
  intro r w7 hr
  obtain ⟨Asa, csa, rfl, hl, hb⟩ := hr.flat
  have hal : Below w7.heap.size w7 (w7.alloc (.cells #[.string (txt sa.name), .string (txt sa.key), .int .i64 sa.kind, .int .u64 (sa.num : Int), .string (txt sa.text), .slice Asa sf.len csa] 27)) := (Below.refl _ _).alloc (Nat.le_refl _) _
  have hb2 := hb.trans (hal.mono hb.size)
  replace HX := Lib.hid (HX.out.below hb2 HX.out.lt)
  replace HY := Lib.hid (HY.out.below hb2 HY.out.lt)
  replace HXoa := Lib.hid (HXoa.out.below hb2 HXoa.out.lt)
  replace HLoa := Lib.hid (HLoa.out.below hb2)
  replace HB := Lib.hid (HB.out.trans (hb2.mono HB.out.size))
  have HXsa := Lib.hid (Blk.new w7 27 #[.string (txt sa.name), .string (txt sa.key), .int .i64 sa.kind, .int .u64 (sa.num : Int), .string (txt sa.text), .slice Asa sf.len csa])
  have HLsa : Hid (LieN (w7.alloc (.cells #[.string (txt sa.name), .string (txt sa.key), .int .i64 sa.kind, .int .u64 (sa.num : Int), .string (txt sa.text), .slice Asa sf.len csa] 27)) (ndC sa (.slice Asa sf.len csa)) (sa, sf)) := Lib.hid (hl.below hal)
  clear ld0_0 ld0_1 ld0_2 ld0_3 ld0_4 ld0_5 ld1_0 ld1_1 ld1_2 ld1_3 ld1_4 ld1_5 hr hl hb hal hb2
  go_wp2
  go_ret
  exact ⟨rfl, HB.out⟩
set_option maxRecDepth 100000 in
set_option maxHeartbeats 8000000 in
theorem treeBack_new (a b : NdD) (f g : NdF) (A B : Option Addr) (c d : Nat) (l : List Stp) (V : Option Addr) (N m : Nat) (w : World) (hx : LieN w (ndC a (.slice A f.len c)) (a, f)) (hy : LieN w (ndC b (.slice B g.len d)) (b, g)) (hv : WayV w.heap.size w (.slice V N m) l) (hN : N = l.length) (hf : f.size ≤ 1000000) (hg : g.size ≤ 1000000) (C : TreC w) (HA : Awake9 w) (h1 : decide (f.size + 1 ≤ 300) = true) (h2 : decide (g.size + 1 ≤ 300) = true) (hl : ¬ 20 < N) (hr : rgtX (a, f) = true) (hq : rgtX (b, g) = true) (oa ma qa : NdD) (of_ mf qf : NdF) (hG : GetX (a, f) l = ((oa, of_), false)) (hS : SetX (a, f) l (b, g) = ((ma, mf), 0)) (hM : GetX (ma, mf) l = ((b, g), true)) (hRm : rgtX (ma, mf) = true) (hK : CutX (ma, mf) l = ((a, f), 0)) (hQ : GetX (a, f) l = ((qa, qf), false)) (hRk : rgtX (a, f) = true) (hZ : sizeX (a, f) + sizeX (b, g) = sizeX (ma, mf)) :
    Calls Try.prog 5 #[.agg #[.string (txt a.name), .string (txt a.key), .int .i64 a.kind, .int .u64 (a.num : Int), .string (txt a.text), .slice A f.len c], .slice V N m, .agg #[.string (txt b.name), .string (txt b.key), .int .i64 b.kind, .int .u64 (b.num : Int), .string (txt b.text), .slice B g.len d]] w (Ans9 (.bool true) w) := by
  have hb2 : Blk ((w.alloc (.cells #[.string (txt a.name), .string (txt a.key), .int .i64 a.kind, .int .u64 (a.num : Int), .string (txt a.text), .slice A f.len c] 27)).alloc (.cells #[.string (txt b.name), .string (txt b.key), .int .i64 b.kind, .int .u64 (b.num : Int), .string (txt b.text), .slice B g.len d] 27)) (w.heap.size + 1) 27 #[.string (txt b.name), .string (txt b.key), .int .i64 b.kind, .int .u64 (b.num : Int), .string (txt b.text), .slice B g.len d] := by
    have h := Blk.new (w.alloc (.cells #[.string (txt a.name), .string (txt a.key), .int .i64 a.kind, .int .u64 (a.num : Int), .string (txt a.text), .slice A f.len c] 27)) 27 #[.string (txt b.name), .string (txt b.key), .int .i64 b.kind, .int .u64 (b.num : Int), .string (txt b.text), .slice B g.len d]
    rw [show (w.alloc (.cells #[.string (txt a.name), .string (txt a.key), .int .i64 a.kind, .int .u64 (a.num : Int), .string (txt a.text), .slice A f.len c] 27)).heap.size = w.heap.size + 1 by simp] at h
    exact h
  have HX := Lib.hid ((Blk.new w 27 #[.string (txt a.name), .string (txt a.key), .int .i64 a.kind, .int .u64 (a.num : Int), .string (txt a.text), .slice A f.len c]).alloc (.cells #[.string (txt b.name), .string (txt b.key), .int .i64 b.kind, .int .u64 (b.num : Int), .string (txt b.text), .slice B g.len d] 27))
  have HY := Lib.hid hb2
  have HB : Hid (Below w.heap.size w ((w.alloc (.cells #[.string (txt a.name), .string (txt a.key), .int .i64 a.kind, .int .u64 (a.num : Int), .string (txt a.text), .slice A f.len c] 27)).alloc (.cells #[.string (txt b.name), .string (txt b.key), .int .i64 b.kind, .int .u64 (b.num : Int), .string (txt b.text), .slice B g.len d] 27))) := Lib.hid (((Below.refl _ _).alloc (Nat.le_refl _) _).alloc (by simp) _)
  clear hb2
  have KA := Lib.hid HA
  have K1 : Hid (∀ W, Below w.heap.size w W → Calls Try.prog 9 #[.agg #[.string (txt a.name), .string (txt a.key), .int .i64 a.kind, .int .u64 (a.num : Int), .string (txt a.text), .slice A f.len c]] W (Ans9 (.bool true) W)) := Lib.hid (fun W hW => by have h := small_q hx hf W hW; rwa [h1] at h)
  have K2 : Hid (∀ W, Below w.heap.size w W → Calls Try.prog 9 #[.agg #[.string (txt b.name), .string (txt b.key), .int .i64 b.kind, .int .u64 (b.num : Int), .string (txt b.text), .slice B g.len d]] W (Ans9 (.bool true) W)) := Lib.hid (fun W hW => by have h := small_q hy hg W hW; rwa [h2] at h)
  have n1 : ¬ (20 : Int) < (N : Int) := by omega
  have KR : Hid (∀ W, Below w.heap.size w W → Calls Try.prog 12 #[.agg #[.string (txt a.name), .string (txt a.key), .int .i64 a.kind, .int .u64 (a.num : Int), .string (txt a.text), .slice A f.len c]] W (Ans9 (.bool true) W)) := Lib.hid (fun W hW => by have h := rright_q hx hf W hW; rwa [hr] at h)
  have KQ : Hid (∀ W, Below w.heap.size w W → Calls Try.prog 12 #[.agg #[.string (txt b.name), .string (txt b.key), .int .i64 b.kind, .int .u64 (b.num : Int), .string (txt b.text), .slice B g.len d]] W (Ans9 (.bool true) W)) := Lib.hid (fun W hW => by have h := rright_q hy hg W hW; rwa [hq] at h)
  have hln : l.length ≤ 1000000 := by omega
  have hs1 : of_.size ≤ 1000000 := by have h := GetX_few (a, f) l; rw [hG] at h; simp only at h; omega
  have hs2 : mf.size ≤ 100000 := by have h := SetX_few (a, f) (b, g) l; have := of_decide_eq_true h1; have := of_decide_eq_true h2; rw [hS] at h; simp only at h; omega
  have hs3 : f.size ≤ 100000 := by have h := CutX_few (ma, mf) l; rw [hK] at h; simp only at h; omega
  have KG : Hid (∀ W, Below w.heap.size w W → Calls Try.prog 20 #[.agg #[.string (txt a.name), .string (txt a.key), .int .i64 a.kind, .int .u64 (a.num : Int), .string (txt a.text), .slice A f.len c], .slice V N m] W (RTreP (oa, of_) (.bool false) W)) := Lib.hid (fun W hW => (by have h := get_q C (Below.refl _ _) hx hv hf hln W hW; rw [hG] at h; exact h.mono fun _ _ h => h.r))
  have KS : Hid (∀ W, Below w.heap.size w W → Calls Try.prog 22 #[.agg #[.string (txt a.name), .string (txt a.key), .int .i64 a.kind, .int .u64 (a.num : Int), .string (txt a.text), .slice A f.len c], .slice V N m, .agg #[.string (txt b.name), .string (txt b.key), .int .i64 b.kind, .int .u64 (b.num : Int), .string (txt b.text), .slice B g.len d]] W (RTreP (ma, mf) (.int .i64 0) W)) := Lib.hid (fun W hW => (by have h := set_q C (Below.refl _ _) hx hy hv hf hg hr hln W hW; rw [hS] at h; exact h.mono fun _ _ h => h.r))
  obtain ⟨zk, hzk⟩ : ∃ z, z = sizeX (a, f) := ⟨_, rfl⟩
  obtain ⟨zm, hzm⟩ : ∃ z, z = sizeX (ma, mf) := ⟨_, rfl⟩
  obtain ⟨zx, hzx⟩ : ∃ z, z = sizeX (b, g) := ⟨_, rfl⟩
  have jw : IntKind.i64.wrap ((zm : Int) - (zx : Int)) = (zk : Int) := by
    have hb1 : zm ≤ 100001 := by rw [hzm]; simp only [sizeX]; omega
    have hb2 : (zm : Int) - (zx : Int) = (zk : Int) := by omega
    rw [hb2]
    exact Go.IntWalk.i64_in _ (by omega)
  have HC := Lib.hid C
  have HV := Lib.hid hv
  have HLX := Lib.hid hx
  have HLY := Lib.hid hy
  have HSZ := Lib.hid (And.intro hs1 (And.intro (show mf.size ≤ 1000000 by omega) (And.intro (show f.size ≤ 1000000 by omega) (And.intro hf hg))))
  have HLN := Lib.hid hln
  have HM := Lib.hid hM
  have HRM := Lib.hid hRm
  have HK := Lib.hid hK
  have HQ := Lib.hid hQ
  have HRK := Lib.hid hRk
  have HJ := Lib.hid jw
  have HZK := Lib.hid (And.intro hzk (And.intro hzm hzx))
  clear C HA hx hy hv hf hg h1 h2 hN hl hr hq hG hS hM hRm hK hQ hRk hZ hln hs1 hs2 hs3 hzk hzm hzx jw
  go_enter Try.func5, Try.ntmps5
  go_wp2_with fail
  refine (KA.out _ HB.out).mono ?_
  rintro r w1 ⟨rfl, hb⟩
  replace HX := Lib.hid (HX.out.below hb HX.out.lt)
  replace HY := Lib.hid (HY.out.below hb HY.out.lt)
  replace HB := Lib.hid (HB.out.trans (hb.mono HB.out.size))
  clear hb
  have ld0_0 := (HX.out.cell 0).trans rfl
  have ld0_1 := (HX.out.cell 1).trans rfl
  have ld0_2 := (HX.out.cell 2).trans rfl
  have ld0_3 := (HX.out.cell 3).trans rfl
  have ld0_4 := (HX.out.cell 4).trans rfl
  have ld0_5 := (HX.out.cell 5).trans rfl
  go_wp2_with fail
  refine (K1.out _ HB.out).mono ?_
  rintro r w2 ⟨rfl, hb⟩
  replace HX := Lib.hid (HX.out.below hb HX.out.lt)
  replace HY := Lib.hid (HY.out.below hb HY.out.lt)
  replace HB := Lib.hid (HB.out.trans (hb.mono HB.out.size))
  clear ld0_0 ld0_1 ld0_2 ld0_3 ld0_4 ld0_5 hb
  have ld0_0 := (HY.out.cell 0).trans rfl
  have ld0_1 := (HY.out.cell 1).trans rfl
  have ld0_2 := (HY.out.cell 2).trans rfl
  have ld0_3 := (HY.out.cell 3).trans rfl
  have ld0_4 := (HY.out.cell 4).trans rfl
  have ld0_5 := (HY.out.cell 5).trans rfl
  go_wp2_with fail
  refine (K2.out _ HB.out).mono ?_
  rintro r w3 ⟨rfl, hb⟩
  replace HX := Lib.hid (HX.out.below hb HX.out.lt)
  replace HY := Lib.hid (HY.out.below hb HY.out.lt)
  replace HB := Lib.hid (HB.out.trans (hb.mono HB.out.size))
  clear ld0_0 ld0_1 ld0_2 ld0_3 ld0_4 ld0_5 hb
  have ld0_0 := (HX.out.cell 0).trans rfl
  have ld0_1 := (HX.out.cell 1).trans rfl
  have ld0_2 := (HX.out.cell 2).trans rfl
  have ld0_3 := (HX.out.cell 3).trans rfl
  have ld0_4 := (HX.out.cell 4).trans rfl
  have ld0_5 := (HX.out.cell 5).trans rfl
  go_wp2_with fail
  refine (KR.out _ HB.out).mono ?_
  rintro r w4 ⟨rfl, hb⟩
  replace HX := Lib.hid (HX.out.below hb HX.out.lt)
  replace HY := Lib.hid (HY.out.below hb HY.out.lt)
  replace HB := Lib.hid (HB.out.trans (hb.mono HB.out.size))
  clear ld0_0 ld0_1 ld0_2 ld0_3 ld0_4 ld0_5 hb
  have ld0_0 := (HY.out.cell 0).trans rfl
  have ld0_1 := (HY.out.cell 1).trans rfl
  have ld0_2 := (HY.out.cell 2).trans rfl
  have ld0_3 := (HY.out.cell 3).trans rfl
  have ld0_4 := (HY.out.cell 4).trans rfl
  have ld0_5 := (HY.out.cell 5).trans rfl
  go_wp2_with fail
  refine (KQ.out _ HB.out).mono ?_
  rintro r w5 ⟨rfl, hb⟩
  replace HX := Lib.hid (HX.out.below hb HX.out.lt)
  replace HY := Lib.hid (HY.out.below hb HY.out.lt)
  replace HB := Lib.hid (HB.out.trans (hb.mono HB.out.size))
  clear ld0_0 ld0_1 ld0_2 ld0_3 ld0_4 ld0_5 hb
  have ld0_0 := (HX.out.cell 0).trans rfl
  have ld0_1 := (HX.out.cell 1).trans rfl
  have ld0_2 := (HX.out.cell 2).trans rfl
  have ld0_3 := (HX.out.cell 3).trans rfl
  have ld0_4 := (HX.out.cell 4).trans rfl
  have ld0_5 := (HX.out.cell 5).trans rfl
  go_wp2_with fail
  refine (KG.out _ HB.out).mono ?_
  intro r w6 hr
  obtain ⟨Aoa, coa, rfl, hl, hb⟩ := hr.flat
  have hal : Below w6.heap.size w6 (w6.alloc (.cells #[.string (txt oa.name), .string (txt oa.key), .int .i64 oa.kind, .int .u64 (oa.num : Int), .string (txt oa.text), .slice Aoa of_.len coa] 27)) := (Below.refl _ _).alloc (Nat.le_refl _) _
  have hb2 := hb.trans (hal.mono hb.size)
  replace HX := Lib.hid (HX.out.below hb2 HX.out.lt)
  replace HY := Lib.hid (HY.out.below hb2 HY.out.lt)
  replace HB := Lib.hid (HB.out.trans (hb2.mono HB.out.size))
  have HXoa := Lib.hid (Blk.new w6 27 #[.string (txt oa.name), .string (txt oa.key), .int .i64 oa.kind, .int .u64 (oa.num : Int), .string (txt oa.text), .slice Aoa of_.len coa])
  have HLoa : Hid (LieN (w6.alloc (.cells #[.string (txt oa.name), .string (txt oa.key), .int .i64 oa.kind, .int .u64 (oa.num : Int), .string (txt oa.text), .slice Aoa of_.len coa] 27)) (ndC oa (.slice Aoa of_.len coa)) (oa, of_)) := Lib.hid (hl.below hal)
  clear ld0_0 ld0_1 ld0_2 ld0_3 ld0_4 ld0_5 hr hl hb hal hb2
  have ld0_0 := (HX.out.cell 0).trans rfl
  have ld0_1 := (HX.out.cell 1).trans rfl
  have ld0_2 := (HX.out.cell 2).trans rfl
  have ld0_3 := (HX.out.cell 3).trans rfl
  have ld0_4 := (HX.out.cell 4).trans rfl
  have ld0_5 := (HX.out.cell 5).trans rfl
  have ld1_0 := (HY.out.cell 0).trans rfl
  have ld1_1 := (HY.out.cell 1).trans rfl
  have ld1_2 := (HY.out.cell 2).trans rfl
  have ld1_3 := (HY.out.cell 3).trans rfl
  have ld1_4 := (HY.out.cell 4).trans rfl
  have ld1_5 := (HY.out.cell 5).trans rfl
  go_wp2_with fail
  refine (KS.out _ HB.out).mono ?_
  intro r w7 hr
  obtain ⟨Ama, cma, rfl, hl, hb⟩ := hr.flat
  have hal : Below w7.heap.size w7 (w7.alloc (.cells #[.string (txt ma.name), .string (txt ma.key), .int .i64 ma.kind, .int .u64 (ma.num : Int), .string (txt ma.text), .slice Ama mf.len cma] 27)) := (Below.refl _ _).alloc (Nat.le_refl _) _
  have hb2 := hb.trans (hal.mono hb.size)
  replace HX := Lib.hid (HX.out.below hb2 HX.out.lt)
  replace HY := Lib.hid (HY.out.below hb2 HY.out.lt)
  replace HXoa := Lib.hid (HXoa.out.below hb2 HXoa.out.lt)
  replace HLoa := Lib.hid (HLoa.out.below hb2)
  replace HB := Lib.hid (HB.out.trans (hb2.mono HB.out.size))
  have HXma := Lib.hid (Blk.new w7 27 #[.string (txt ma.name), .string (txt ma.key), .int .i64 ma.kind, .int .u64 (ma.num : Int), .string (txt ma.text), .slice Ama mf.len cma])
  have HLma : Hid (LieN (w7.alloc (.cells #[.string (txt ma.name), .string (txt ma.key), .int .i64 ma.kind, .int .u64 (ma.num : Int), .string (txt ma.text), .slice Ama mf.len cma] 27)) (ndC ma (.slice Ama mf.len cma)) (ma, mf)) := Lib.hid (hl.below hal)
  clear ld0_0 ld0_1 ld0_2 ld0_3 ld0_4 ld0_5 ld1_0 ld1_1 ld1_2 ld1_3 ld1_4 ld1_5 hr hl hb hal hb2
  have K5 : Hid (Calls Try.prog 20 #[.agg #[.string (txt ma.name), .string (txt ma.key), .int .i64 ma.kind, .int .u64 (ma.num : Int), .string (txt ma.text), .slice Ama mf.len cma], .slice V N m] (w7.alloc (.cells #[.string (txt ma.name), .string (txt ma.key), .int .i64 ma.kind, .int .u64 (ma.num : Int), .string (txt ma.text), .slice Ama mf.len cma] 27)) (RTreP (b, g) (.bool true) (w7.alloc (.cells #[.string (txt ma.name), .string (txt ma.key), .int .i64 ma.kind, .int .u64 (ma.num : Int), .string (txt ma.text), .slice Ama mf.len cma] 27)))) := Lib.hid (by have h := get_q HC.out HB.out HLma.out (HV.out.below HB.out) HSZ.out.2.1 HLN.out _ (Below.refl _ _); rw [HM.out] at h; exact h.mono fun _ _ h => h.r)
  have ld0_0 := (HXma.out.cell 0).trans rfl
  have ld0_1 := (HXma.out.cell 1).trans rfl
  have ld0_2 := (HXma.out.cell 2).trans rfl
  have ld0_3 := (HXma.out.cell 3).trans rfl
  have ld0_4 := (HXma.out.cell 4).trans rfl
  have ld0_5 := (HXma.out.cell 5).trans rfl
  go_wp2_with fail
  refine K5.out.mono ?_
  intro r w8 hr
  obtain ⟨Aya, cya, rfl, hl, hb⟩ := hr.flat
  have hal : Below w8.heap.size w8 (w8.alloc (.cells #[.string (txt b.name), .string (txt b.key), .int .i64 b.kind, .int .u64 (b.num : Int), .string (txt b.text), .slice Aya g.len cya] 27)) := (Below.refl _ _).alloc (Nat.le_refl _) _
  have hb2 := hb.trans (hal.mono hb.size)
  replace HX := Lib.hid (HX.out.below hb2 HX.out.lt)
  replace HY := Lib.hid (HY.out.below hb2 HY.out.lt)
  replace HXoa := Lib.hid (HXoa.out.below hb2 HXoa.out.lt)
  replace HXma := Lib.hid (HXma.out.below hb2 HXma.out.lt)
  replace HLoa := Lib.hid (HLoa.out.below hb2)
  replace HLma := Lib.hid (HLma.out.below hb2)
  replace HB := Lib.hid (HB.out.trans (hb2.mono HB.out.size))
  have HXya := Lib.hid (Blk.new w8 27 #[.string (txt b.name), .string (txt b.key), .int .i64 b.kind, .int .u64 (b.num : Int), .string (txt b.text), .slice Aya g.len cya])
  have HLya : Hid (LieN (w8.alloc (.cells #[.string (txt b.name), .string (txt b.key), .int .i64 b.kind, .int .u64 (b.num : Int), .string (txt b.text), .slice Aya g.len cya] 27)) (ndC b (.slice Aya g.len cya)) (b, g)) := Lib.hid (hl.below hal)
  clear ld0_0 ld0_1 ld0_2 ld0_3 ld0_4 ld0_5 hr hl hb hal hb2
  have ld0_0 := (HXya.out.cell 0).trans rfl
  have ld0_1 := (HXya.out.cell 1).trans rfl
  have ld0_2 := (HXya.out.cell 2).trans rfl
  have ld0_3 := (HXya.out.cell 3).trans rfl
  have ld0_4 := (HXya.out.cell 4).trans rfl
  have ld0_5 := (HXya.out.cell 5).trans rfl
  have ld1_0 := (HY.out.cell 0).trans rfl
  have ld1_1 := (HY.out.cell 1).trans rfl
  have ld1_2 := (HY.out.cell 2).trans rfl
  have ld1_3 := (HY.out.cell 3).trans rfl
  have ld1_4 := (HY.out.cell 4).trans rfl
  have ld1_5 := (HY.out.cell 5).trans rfl
  go_wp2_with fail
  refine (rsame_eq HLya.out (HLY.out.below HB.out) HSZ.out.2.2.2.2).mono ?_
  rintro r w9 ⟨rfl, hb⟩
  replace HX := Lib.hid (HX.out.below hb HX.out.lt)
  replace HY := Lib.hid (HY.out.below hb HY.out.lt)
  replace HXoa := Lib.hid (HXoa.out.below hb HXoa.out.lt)
  replace HXma := Lib.hid (HXma.out.below hb HXma.out.lt)
  replace HXya := Lib.hid (HXya.out.below hb HXya.out.lt)
  replace HLoa := Lib.hid (HLoa.out.below hb)
  replace HLma := Lib.hid (HLma.out.below hb)
  replace HLya := Lib.hid (HLya.out.below hb)
  replace HB := Lib.hid (HB.out.trans (hb.mono HB.out.size))
  clear ld0_0 ld0_1 ld0_2 ld0_3 ld0_4 ld0_5 ld1_0 ld1_1 ld1_2 ld1_3 ld1_4 ld1_5 hb
  have K6 : Hid (Calls Try.prog 11 #[.agg #[.string (txt ma.name), .string (txt ma.key), .int .i64 ma.kind, .int .u64 (ma.num : Int), .string (txt ma.text), .slice Ama mf.len cma]] w9 (Ans9 (.bool true) w9)) := Lib.hid (by have h := right_q HC.out HB.out HLma.out HSZ.out.2.1 _ (Below.refl _ _); rwa [HRM.out] at h)
  have ld0_0 := (HXma.out.cell 0).trans rfl
  have ld0_1 := (HXma.out.cell 1).trans rfl
  have ld0_2 := (HXma.out.cell 2).trans rfl
  have ld0_3 := (HXma.out.cell 3).trans rfl
  have ld0_4 := (HXma.out.cell 4).trans rfl
  have ld0_5 := (HXma.out.cell 5).trans rfl
  go_wp2_with fail
  refine K6.out.mono ?_
  rintro r w10 ⟨rfl, hb⟩
  replace HX := Lib.hid (HX.out.below hb HX.out.lt)
  replace HY := Lib.hid (HY.out.below hb HY.out.lt)
  replace HXoa := Lib.hid (HXoa.out.below hb HXoa.out.lt)
  replace HXma := Lib.hid (HXma.out.below hb HXma.out.lt)
  replace HXya := Lib.hid (HXya.out.below hb HXya.out.lt)
  replace HLoa := Lib.hid (HLoa.out.below hb)
  replace HLma := Lib.hid (HLma.out.below hb)
  replace HLya := Lib.hid (HLya.out.below hb)
  replace HB := Lib.hid (HB.out.trans (hb.mono HB.out.size))
  clear ld0_0 ld0_1 ld0_2 ld0_3 ld0_4 ld0_5 hb
  have K7 : Hid (Calls Try.prog 24 #[.agg #[.string (txt ma.name), .string (txt ma.key), .int .i64 ma.kind, .int .u64 (ma.num : Int), .string (txt ma.text), .slice Ama mf.len cma], .slice V N m] w10 (RTreP (a, f) (.int .i64 0) w10)) := Lib.hid (by have h := cut_q HC.out HB.out HLma.out (HV.out.below HB.out) HSZ.out.2.1 HRM.out HLN.out _ (Below.refl _ _); rw [HK.out] at h; exact h.mono fun _ _ h => h.r)
  have ld0_0 := (HXma.out.cell 0).trans rfl
  have ld0_1 := (HXma.out.cell 1).trans rfl
  have ld0_2 := (HXma.out.cell 2).trans rfl
  have ld0_3 := (HXma.out.cell 3).trans rfl
  have ld0_4 := (HXma.out.cell 4).trans rfl
  have ld0_5 := (HXma.out.cell 5).trans rfl
  go_wp2_with fail
  refine K7.out.mono ?_
  intro r w11 hr
  obtain ⟨Aka, cka, rfl, hl, hb⟩ := hr.flat
  have hal : Below w11.heap.size w11 (w11.alloc (.cells #[.string (txt a.name), .string (txt a.key), .int .i64 a.kind, .int .u64 (a.num : Int), .string (txt a.text), .slice Aka f.len cka] 27)) := (Below.refl _ _).alloc (Nat.le_refl _) _
  have hb2 := hb.trans (hal.mono hb.size)
  replace HX := Lib.hid (HX.out.below hb2 HX.out.lt)
  replace HY := Lib.hid (HY.out.below hb2 HY.out.lt)
  replace HXoa := Lib.hid (HXoa.out.below hb2 HXoa.out.lt)
  replace HXma := Lib.hid (HXma.out.below hb2 HXma.out.lt)
  replace HXya := Lib.hid (HXya.out.below hb2 HXya.out.lt)
  replace HLoa := Lib.hid (HLoa.out.below hb2)
  replace HLma := Lib.hid (HLma.out.below hb2)
  replace HLya := Lib.hid (HLya.out.below hb2)
  replace HB := Lib.hid (HB.out.trans (hb2.mono HB.out.size))
  have HXka := Lib.hid (Blk.new w11 27 #[.string (txt a.name), .string (txt a.key), .int .i64 a.kind, .int .u64 (a.num : Int), .string (txt a.text), .slice Aka f.len cka])
  have HLka : Hid (LieN (w11.alloc (.cells #[.string (txt a.name), .string (txt a.key), .int .i64 a.kind, .int .u64 (a.num : Int), .string (txt a.text), .slice Aka f.len cka] 27)) (ndC a (.slice Aka f.len cka)) (a, f)) := Lib.hid (hl.below hal)
  clear ld0_0 ld0_1 ld0_2 ld0_3 ld0_4 ld0_5 hr hl hb hal hb2
  have K8 : Hid (Calls Try.prog 20 #[.agg #[.string (txt a.name), .string (txt a.key), .int .i64 a.kind, .int .u64 (a.num : Int), .string (txt a.text), .slice Aka f.len cka], .slice V N m] (w11.alloc (.cells #[.string (txt a.name), .string (txt a.key), .int .i64 a.kind, .int .u64 (a.num : Int), .string (txt a.text), .slice Aka f.len cka] 27)) (RTreP (qa, qf) (.bool false) (w11.alloc (.cells #[.string (txt a.name), .string (txt a.key), .int .i64 a.kind, .int .u64 (a.num : Int), .string (txt a.text), .slice Aka f.len cka] 27)))) := Lib.hid (by have h := get_q HC.out HB.out HLka.out (HV.out.below HB.out) HSZ.out.2.2.1 HLN.out _ (Below.refl _ _); rw [HQ.out] at h; exact h.mono fun _ _ h => h.r)
  have ld0_0 := (HXka.out.cell 0).trans rfl
  have ld0_1 := (HXka.out.cell 1).trans rfl
  have ld0_2 := (HXka.out.cell 2).trans rfl
  have ld0_3 := (HXka.out.cell 3).trans rfl
  have ld0_4 := (HXka.out.cell 4).trans rfl
  have ld0_5 := (HXka.out.cell 5).trans rfl
  go_wp2_with fail
  refine K8.out.mono ?_
  intro r w12 hr
  obtain ⟨Aqa, cqa, rfl, hl, hb⟩ := hr.flat
  have hal : Below w12.heap.size w12 (w12.alloc (.cells #[.string (txt qa.name), .string (txt qa.key), .int .i64 qa.kind, .int .u64 (qa.num : Int), .string (txt qa.text), .slice Aqa qf.len cqa] 27)) := (Below.refl _ _).alloc (Nat.le_refl _) _
  have hb2 := hb.trans (hal.mono hb.size)
  replace HX := Lib.hid (HX.out.below hb2 HX.out.lt)
  replace HY := Lib.hid (HY.out.below hb2 HY.out.lt)
  replace HXoa := Lib.hid (HXoa.out.below hb2 HXoa.out.lt)
  replace HXma := Lib.hid (HXma.out.below hb2 HXma.out.lt)
  replace HXya := Lib.hid (HXya.out.below hb2 HXya.out.lt)
  replace HXka := Lib.hid (HXka.out.below hb2 HXka.out.lt)
  replace HLoa := Lib.hid (HLoa.out.below hb2)
  replace HLma := Lib.hid (HLma.out.below hb2)
  replace HLya := Lib.hid (HLya.out.below hb2)
  replace HLka := Lib.hid (HLka.out.below hb2)
  replace HB := Lib.hid (HB.out.trans (hb2.mono HB.out.size))
  have HXqa := Lib.hid (Blk.new w12 27 #[.string (txt qa.name), .string (txt qa.key), .int .i64 qa.kind, .int .u64 (qa.num : Int), .string (txt qa.text), .slice Aqa qf.len cqa])
  have HLqa : Hid (LieN (w12.alloc (.cells #[.string (txt qa.name), .string (txt qa.key), .int .i64 qa.kind, .int .u64 (qa.num : Int), .string (txt qa.text), .slice Aqa qf.len cqa] 27)) (ndC qa (.slice Aqa qf.len cqa)) (qa, qf)) := Lib.hid (hl.below hal)
  clear ld0_0 ld0_1 ld0_2 ld0_3 ld0_4 ld0_5 hr hl hb hal hb2
  go_wp2_with fail
  replace HX := Lib.hid (HX.out.below (Below.refl _ _).drew HX.out.lt)
  replace HY := Lib.hid (HY.out.below (Below.refl _ _).drew HY.out.lt)
  replace HXoa := Lib.hid (HXoa.out.below (Below.refl _ _).drew HXoa.out.lt)
  replace HXma := Lib.hid (HXma.out.below (Below.refl _ _).drew HXma.out.lt)
  replace HXya := Lib.hid (HXya.out.below (Below.refl _ _).drew HXya.out.lt)
  replace HXka := Lib.hid (HXka.out.below (Below.refl _ _).drew HXka.out.lt)
  replace HXqa := Lib.hid (HXqa.out.below (Below.refl _ _).drew HXqa.out.lt)
  replace HLoa := Lib.hid (HLoa.out.below (Below.refl _ _).drew)
  replace HLma := Lib.hid (HLma.out.below (Below.refl _ _).drew)
  replace HLya := Lib.hid (HLya.out.below (Below.refl _ _).drew)
  replace HLka := Lib.hid (HLka.out.below (Below.refl _ _).drew)
  replace HLqa := Lib.hid (HLqa.out.below (Below.refl _ _).drew)
  replace HB := Lib.hid HB.out.drew
  have Z1 : Hid (∀ W, Below (w12.alloc (.cells #[.string (txt qa.name), .string (txt qa.key), .int .i64 qa.kind, .int .u64 (qa.num : Int), .string (txt qa.text), .slice Aqa qf.len cqa] 27)).drew.heap.size (w12.alloc (.cells #[.string (txt qa.name), .string (txt qa.key), .int .i64 qa.kind, .int .u64 (qa.num : Int), .string (txt qa.text), .slice Aqa qf.len cqa] 27)).drew W → Calls Try.prog 11 #[.agg #[.string (txt a.name), .string (txt a.key), .int .i64 a.kind, .int .u64 (a.num : Int), .string (txt a.text), .slice Aka f.len cka]] W (Ans9 (.bool true) W)) := Lib.hid (fun W hW => by have h := right_q HC.out HB.out HLka.out HSZ.out.2.2.1 W hW; rwa [HRK.out] at h)
  have Z2 : Hid (∀ W, Below (w12.alloc (.cells #[.string (txt qa.name), .string (txt qa.key), .int .i64 qa.kind, .int .u64 (qa.num : Int), .string (txt qa.text), .slice Aqa qf.len cqa] 27)).drew.heap.size (w12.alloc (.cells #[.string (txt qa.name), .string (txt qa.key), .int .i64 qa.kind, .int .u64 (qa.num : Int), .string (txt qa.text), .slice Aqa qf.len cqa] 27)).drew W → Calls Try.prog 13 #[.agg #[.string (txt a.name), .string (txt a.key), .int .i64 a.kind, .int .u64 (a.num : Int), .string (txt a.text), .slice Aka f.len cka]] W (Ans9 (.int .i64 (zk : Int)) W)) := Lib.hid (fun W hW => by rw [HZK.out.1]; exact size_q HC.out HB.out HLka.out HSZ.out.2.2.1 W hW)
  have Z3 : Hid (∀ W, Below (w12.alloc (.cells #[.string (txt qa.name), .string (txt qa.key), .int .i64 qa.kind, .int .u64 (qa.num : Int), .string (txt qa.text), .slice Aqa qf.len cqa] 27)).drew.heap.size (w12.alloc (.cells #[.string (txt qa.name), .string (txt qa.key), .int .i64 qa.kind, .int .u64 (qa.num : Int), .string (txt qa.text), .slice Aqa qf.len cqa] 27)).drew W → Calls Try.prog 13 #[.agg #[.string (txt ma.name), .string (txt ma.key), .int .i64 ma.kind, .int .u64 (ma.num : Int), .string (txt ma.text), .slice Ama mf.len cma]] W (Ans9 (.int .i64 (zm : Int)) W)) := Lib.hid (fun W hW => by rw [HZK.out.2.1]; exact size_q HC.out HB.out HLma.out HSZ.out.2.1 W hW)
  have Z4 : Hid (∀ W, Below (w12.alloc (.cells #[.string (txt qa.name), .string (txt qa.key), .int .i64 qa.kind, .int .u64 (qa.num : Int), .string (txt qa.text), .slice Aqa qf.len cqa] 27)).drew.heap.size (w12.alloc (.cells #[.string (txt qa.name), .string (txt qa.key), .int .i64 qa.kind, .int .u64 (qa.num : Int), .string (txt qa.text), .slice Aqa qf.len cqa] 27)).drew W → Calls Try.prog 13 #[.agg #[.string (txt b.name), .string (txt b.key), .int .i64 b.kind, .int .u64 (b.num : Int), .string (txt b.text), .slice B g.len d]] W (Ans9 (.int .i64 (zx : Int)) W)) := Lib.hid (fun W hW => by rw [HZK.out.2.2]; exact size_q HC.out HB.out (HLY.out.below HB.out) HSZ.out.2.2.2.2 W hW)
  have HWc := Lib.hid (Below.refl (w12.alloc (.cells #[.string (txt qa.name), .string (txt qa.key), .int .i64 qa.kind, .int .u64 (qa.num : Int), .string (txt qa.text), .slice Aqa qf.len cqa] 27)).drew.heap.size (w12.alloc (.cells #[.string (txt qa.name), .string (txt qa.key), .int .i64 qa.kind, .int .u64 (qa.num : Int), .string (txt qa.text), .slice Aqa qf.len cqa] 27)).drew)
  have HS0 := Lib.hid (And.intro HXka.out (And.intro HXma.out HY.out))
  obtain ⟨bka, hbka⟩ : ∃ z, z = 0 := ⟨_, rfl⟩
  refine wp_region_noPanic ?_
  refine wp_region_held_drew (S := fun _ => True) (by kernel_rfl) trivial (fun hS => ?_)
  refine wpAnyH_take (i := 0) (oi := ?o1_0_1) (v := ?v1_0_1) ?i1_0_1 (by kernel_rfl) (by kernel_rfl) (by kernel_rfl) (fun _ _ _ h => h) (Or.inl ⟨?g1_0_1, ?y1_0_1⟩) hS ?_
  case i1_0_1 => simp only [List.getElem?_toArray, List.getElem?_cons_succ, List.getElem?_cons_zero]; rfl
  case g1_0_1 => rfl
  case y1_0_1 => (intro w hSw; (go_simp <;> with_reducible rfl))
  (try simp only [Act.put, List.setIfInBounds_toArray, List.set_cons_zero, List.set_cons_succ])
  refine wpAnyH_take (i := 1) (oi := ?o1_1_2) (v := ?v1_1_2) ?i1_1_2 (by kernel_rfl) (by kernel_rfl) (by kernel_rfl) (fun _ _ _ h => h) (Or.inl ⟨?g1_1_2, ?y1_1_2⟩) hS ?_
  case i1_1_2 => simp only [List.getElem?_toArray, List.getElem?_cons_succ, List.getElem?_cons_zero]; rfl
  case g1_1_2 => rfl
  case y1_1_2 => (intro w hSw; (go_simp <;> with_reducible rfl))
  (try simp only [Act.put, List.setIfInBounds_toArray, List.set_cons_zero, List.set_cons_succ])
  refine wpAnyH_take (i := 2) (oi := ?o1_2_3) (v := ?v1_2_3) ?i1_2_3 (by kernel_rfl) (by kernel_rfl) (by kernel_rfl) (fun _ _ _ h => h) (Or.inl ⟨?g1_2_3, ?y1_2_3⟩) hS ?_
  case i1_2_3 => simp only [List.getElem?_toArray, List.getElem?_cons_succ, List.getElem?_cons_zero]; rfl
  case g1_2_3 => rfl
  case y1_2_3 => (intro w hSw; (go_simp <;> with_reducible rfl))
  (try simp only [Act.put, List.setIfInBounds_toArray, List.set_cons_zero, List.set_cons_succ])
  refine wpAnyH_take (i := 3) (oi := ?o1_3_4) (v := ?v1_3_4) ?i1_3_4 (by kernel_rfl) (by kernel_rfl) (by kernel_rfl) (fun _ _ _ h => h) (Or.inl ⟨?g1_3_4, ?y1_3_4⟩) hS ?_
  case i1_3_4 => simp only [List.getElem?_toArray, List.getElem?_cons_succ, List.getElem?_cons_zero]; rfl
  case g1_3_4 => rfl
  case y1_3_4 => (intro w hSw; (go_simp <;> with_reducible rfl))
  (try simp only [Act.put, List.setIfInBounds_toArray, List.set_cons_zero, List.set_cons_succ])
  refine wpAnyH_take (i := 4) (oi := ?o1_4_5) (v := ?v1_4_5) ?i1_4_5 (by kernel_rfl) (by kernel_rfl) (by kernel_rfl) (fun _ _ _ h => h) (Or.inl ⟨?g1_4_5, ?y1_4_5⟩) hS ?_
  case i1_4_5 => simp only [List.getElem?_toArray, List.getElem?_cons_succ, List.getElem?_cons_zero]; rfl
  case g1_4_5 => rfl
  case y1_4_5 => (intro w hSw; (go_simp <;> with_reducible rfl))
  (try simp only [Act.put, List.setIfInBounds_toArray, List.set_cons_zero, List.set_cons_succ])
  refine wpAnyH_take (i := 5) (oi := ?o1_5_6) (v := ?v1_5_6) ?i1_5_6 (by kernel_rfl) (by kernel_rfl) (by kernel_rfl) (fun _ _ _ h => h) (Or.inl ⟨?g1_5_6, ?y1_5_6⟩) hS ?_
  case i1_5_6 => simp only [List.getElem?_toArray, List.getElem?_cons_succ, List.getElem?_cons_zero]; rfl
  case g1_5_6 => rfl
  case y1_5_6 => (intro w hSw; (go_simp <;> with_reducible rfl))
  (try simp only [Act.put, List.setIfInBounds_toArray, List.set_cons_zero, List.set_cons_succ])
  refine held_more (S' := fun w' => Blk w' w11.heap.size 27 #[.string (txt a.name), .string (txt a.key), .int .i64 a.kind, .int .u64 (a.num : Int), .string (txt a.text), .slice Aka f.len cka] ∧ Blk w' w7.heap.size 27 #[.string (txt ma.name), .string (txt ma.key), .int .i64 ma.kind, .int .u64 (ma.num : Int), .string (txt ma.text), .slice Ama mf.len cma] ∧ Blk w' (w.heap.size + 1) 27 #[.string (txt b.name), .string (txt b.key), .int .i64 b.kind, .int .u64 (b.num : Int), .string (txt b.text), .slice B g.len d]) (fun _ _ => trivial) _ _ _ _ ?_
  replace hS := HS0.out
  refine wpAnyH_take (i := 6) (oi := ?o1_6_7) (v := ?v1_6_7) ?i1_6_7 (by kernel_rfl) (by kernel_rfl) (by kernel_rfl) (fun _ _ _ h => h) (Or.inl ⟨?g1_6_7, ?y1_6_7⟩) hS ?_
  case i1_6_7 => simp only [List.getElem?_toArray, List.getElem?_cons_succ, List.getElem?_cons_zero]; rfl
  case g1_6_7 => rfl
  case y1_6_7 => (intro w hSw; have q0 := (hSw.1.cell 0).trans rfl; have q1 := (hSw.1.cell 1).trans rfl; have q2 := (hSw.1.cell 2).trans rfl; have q3 := (hSw.1.cell 3).trans rfl; have q4 := (hSw.1.cell 4).trans rfl; have q5 := (hSw.1.cell 5).trans rfl; (go_simp <;> with_reducible rfl))
  (try simp only [Act.put, List.setIfInBounds_toArray, List.set_cons_zero, List.set_cons_succ])
  refine wpAnyH_ready (rs := [7]) (by kernel_rfl) (by simp) ?_
  refine (AllReadyH.cons (o := ?or1_8_7) ?ir1_8_7 (fun K hK => ?str1_8_7) AllReadyH.nil)
  case ir1_8_7 => simp only [List.getElem?_toArray, List.getElem?_cons_succ, List.getElem?_cons_zero]; rfl
  rw [if_pos (by rfl)]
  go_simp
  refine (Z1.out _ HWc.out).mono ?_
  rintro r v7 ⟨rfl, hb⟩
  replace HS0 := Lib.hid (And.intro (HS0.out.1.below hb HS0.out.1.lt) (And.intro (HS0.out.2.1.below hb HS0.out.2.1.lt) (HS0.out.2.2.below hb HS0.out.2.2.lt)))
  replace HX := Lib.hid (HX.out.below hb HX.out.lt)
  replace HY := Lib.hid (HY.out.below hb HY.out.lt)
  replace HXoa := Lib.hid (HXoa.out.below hb HXoa.out.lt)
  replace HXma := Lib.hid (HXma.out.below hb HXma.out.lt)
  replace HXya := Lib.hid (HXya.out.below hb HXya.out.lt)
  replace HXka := Lib.hid (HXka.out.below hb HXka.out.lt)
  replace HXqa := Lib.hid (HXqa.out.below hb HXqa.out.lt)
  replace HLoa := Lib.hid (HLoa.out.below hb)
  replace HLma := Lib.hid (HLma.out.below hb)
  replace HLya := Lib.hid (HLya.out.below hb)
  replace HLka := Lib.hid (HLka.out.below hb)
  replace HLqa := Lib.hid (HLqa.out.below hb)
  replace HB := Lib.hid (HB.out.trans (hb.mono HB.out.size))
  replace HWc := Lib.hid (HWc.out.trans (hb.mono HWc.out.size))
  clear hb
  go_wp2_with fail
  refine hK.out _ _ ?sr1_8_7 (fun hS => ?_)
  case sr1_8_7 => (exact HS0.out)
  clear hK K
  (try simp only [Act.put, List.setIfInBounds_toArray, List.set_cons_zero, List.set_cons_succ])
  refine wpAnyH_take (i := 8) (oi := ?o1_8_9) (v := ?v1_8_9) ?i1_8_9 (by kernel_rfl) (by kernel_rfl) (by kernel_rfl) (fun _ _ _ h => h) (Or.inl ⟨?g1_8_9, ?y1_8_9⟩) hS ?_
  case i1_8_9 => simp only [List.getElem?_toArray, List.getElem?_cons_succ, List.getElem?_cons_zero]; rfl
  case g1_8_9 => rfl
  case y1_8_9 => (intro w hSw; (go_simp <;> with_reducible rfl))
  (try simp only [Act.put, List.setIfInBounds_toArray, List.set_cons_zero, List.set_cons_succ])
  refine wpAnyH_take (i := 9) (oi := ?o1_9_10) (v := ?v1_9_10) ?i1_9_10 (by kernel_rfl) (by kernel_rfl) (by kernel_rfl) (fun _ _ _ h => h) (Or.inl ⟨?g1_9_10, ?y1_9_10⟩) hS ?_
  case i1_9_10 => simp only [List.getElem?_toArray, List.getElem?_cons_succ, List.getElem?_cons_zero]; rfl
  case g1_9_10 => rfl
  case y1_9_10 => (intro w hSw; (go_simp <;> with_reducible rfl))
  (try simp only [Act.put, List.setIfInBounds_toArray, List.set_cons_zero, List.set_cons_succ])
  refine wpAnyH_take (i := 10) (oi := ?o1_10_11) (v := ?v1_10_11) ?i1_10_11 (by kernel_rfl) (by kernel_rfl) (by kernel_rfl) (fun _ _ _ h => h) (Or.inl ⟨?g1_10_11, ?y1_10_11⟩) hS ?_
  case i1_10_11 => simp only [List.getElem?_toArray, List.getElem?_cons_succ, List.getElem?_cons_zero]; rfl
  case g1_10_11 => rfl
  case y1_10_11 => (intro w hSw; (go_simp <;> with_reducible rfl))
  (try simp only [Act.put, List.setIfInBounds_toArray, List.set_cons_zero, List.set_cons_succ])
  refine wpAnyH_take (i := 11) (oi := ?o1_11_12) (v := ?v1_11_12) ?i1_11_12 (by kernel_rfl) (by kernel_rfl) (by kernel_rfl) (fun _ _ _ h => h) (Or.inl ⟨?g1_11_12, ?y1_11_12⟩) hS ?_
  case i1_11_12 => simp only [List.getElem?_toArray, List.getElem?_cons_succ, List.getElem?_cons_zero]; rfl
  case g1_11_12 => rfl
  case y1_11_12 => (intro w hSw; have q0 := (hSw.1.cell 0).trans rfl; have q1 := (hSw.1.cell 1).trans rfl; have q2 := (hSw.1.cell 2).trans rfl; have q3 := (hSw.1.cell 3).trans rfl; have q4 := (hSw.1.cell 4).trans rfl; have q5 := (hSw.1.cell 5).trans rfl; (go_simp <;> with_reducible rfl))
  (try simp only [Act.put, List.setIfInBounds_toArray, List.set_cons_zero, List.set_cons_succ])
  refine wpAnyH_take (i := 13) (oi := ?o1_13_13) (v := ?v1_13_13) ?i1_13_13 (by kernel_rfl) (by kernel_rfl) (by kernel_rfl) (fun _ _ _ h => h) (Or.inl ⟨?g1_13_13, ?y1_13_13⟩) hS ?_
  case i1_13_13 => simp only [List.getElem?_toArray, List.getElem?_cons_succ, List.getElem?_cons_zero]; rfl
  case g1_13_13 => rfl
  case y1_13_13 => (intro w hSw; have q0 := (hSw.2.1.cell 0).trans rfl; have q1 := (hSw.2.1.cell 1).trans rfl; have q2 := (hSw.2.1.cell 2).trans rfl; have q3 := (hSw.2.1.cell 3).trans rfl; have q4 := (hSw.2.1.cell 4).trans rfl; have q5 := (hSw.2.1.cell 5).trans rfl; (go_simp <;> with_reducible rfl))
  (try simp only [Act.put, List.setIfInBounds_toArray, List.set_cons_zero, List.set_cons_succ])
  refine wpAnyH_take (i := 15) (oi := ?o1_15_14) (v := ?v1_15_14) ?i1_15_14 (by kernel_rfl) (by kernel_rfl) (by kernel_rfl) (fun _ _ _ h => h) (Or.inl ⟨?g1_15_14, ?y1_15_14⟩) hS ?_
  case i1_15_14 => simp only [List.getElem?_toArray, List.getElem?_cons_succ, List.getElem?_cons_zero]; rfl
  case g1_15_14 => rfl
  case y1_15_14 => (intro w hSw; have q0 := (hSw.2.2.cell 0).trans rfl; have q1 := (hSw.2.2.cell 1).trans rfl; have q2 := (hSw.2.2.cell 2).trans rfl; have q3 := (hSw.2.2.cell 3).trans rfl; have q4 := (hSw.2.2.cell 4).trans rfl; have q5 := (hSw.2.2.cell 5).trans rfl; (go_simp <;> with_reducible rfl))
  (try simp only [Act.put, List.setIfInBounds_toArray, List.set_cons_zero, List.set_cons_succ])
  refine wpAnyH_ready (rs := [12]) (by kernel_rfl) (by simp) ?_
  refine (AllReadyH.cons (o := ?or1_15_12) ?ir1_15_12 (fun K hK => ?str1_15_12) AllReadyH.nil)
  case ir1_15_12 => simp only [List.getElem?_toArray, List.getElem?_cons_succ, List.getElem?_cons_zero]; rfl
  rw [if_pos (by rfl)]
  go_simp
  refine (Z2.out _ HWc.out).mono ?_
  rintro r v12 ⟨rfl, hb⟩
  replace HS0 := Lib.hid (And.intro (HS0.out.1.below hb HS0.out.1.lt) (And.intro (HS0.out.2.1.below hb HS0.out.2.1.lt) (HS0.out.2.2.below hb HS0.out.2.2.lt)))
  replace HX := Lib.hid (HX.out.below hb HX.out.lt)
  replace HY := Lib.hid (HY.out.below hb HY.out.lt)
  replace HXoa := Lib.hid (HXoa.out.below hb HXoa.out.lt)
  replace HXma := Lib.hid (HXma.out.below hb HXma.out.lt)
  replace HXya := Lib.hid (HXya.out.below hb HXya.out.lt)
  replace HXka := Lib.hid (HXka.out.below hb HXka.out.lt)
  replace HXqa := Lib.hid (HXqa.out.below hb HXqa.out.lt)
  replace HLoa := Lib.hid (HLoa.out.below hb)
  replace HLma := Lib.hid (HLma.out.below hb)
  replace HLya := Lib.hid (HLya.out.below hb)
  replace HLka := Lib.hid (HLka.out.below hb)
  replace HLqa := Lib.hid (HLqa.out.below hb)
  replace HB := Lib.hid (HB.out.trans (hb.mono HB.out.size))
  replace HWc := Lib.hid (HWc.out.trans (hb.mono HWc.out.size))
  clear hb
  go_wp2_with fail
  refine hK.out _ _ ?sr1_15_12 (fun hS => ?_)
  case sr1_15_12 => (exact HS0.out)
  clear hK K
  (try simp only [Act.put, List.setIfInBounds_toArray, List.set_cons_zero, List.set_cons_succ])
  refine wpAnyH_ready (rs := [14]) (by kernel_rfl) (by simp) ?_
  refine (AllReadyH.cons (o := ?or1_16_14) ?ir1_16_14 (fun K hK => ?str1_16_14) AllReadyH.nil)
  case ir1_16_14 => simp only [List.getElem?_toArray, List.getElem?_cons_succ, List.getElem?_cons_zero]; rfl
  rw [if_pos (by rfl)]
  go_simp
  refine (Z3.out _ HWc.out).mono ?_
  rintro r v14 ⟨rfl, hb⟩
  replace HS0 := Lib.hid (And.intro (HS0.out.1.below hb HS0.out.1.lt) (And.intro (HS0.out.2.1.below hb HS0.out.2.1.lt) (HS0.out.2.2.below hb HS0.out.2.2.lt)))
  replace HX := Lib.hid (HX.out.below hb HX.out.lt)
  replace HY := Lib.hid (HY.out.below hb HY.out.lt)
  replace HXoa := Lib.hid (HXoa.out.below hb HXoa.out.lt)
  replace HXma := Lib.hid (HXma.out.below hb HXma.out.lt)
  replace HXya := Lib.hid (HXya.out.below hb HXya.out.lt)
  replace HXka := Lib.hid (HXka.out.below hb HXka.out.lt)
  replace HXqa := Lib.hid (HXqa.out.below hb HXqa.out.lt)
  replace HLoa := Lib.hid (HLoa.out.below hb)
  replace HLma := Lib.hid (HLma.out.below hb)
  replace HLya := Lib.hid (HLya.out.below hb)
  replace HLka := Lib.hid (HLka.out.below hb)
  replace HLqa := Lib.hid (HLqa.out.below hb)
  replace HB := Lib.hid (HB.out.trans (hb.mono HB.out.size))
  replace HWc := Lib.hid (HWc.out.trans (hb.mono HWc.out.size))
  clear hb
  go_wp2_with fail
  refine hK.out _ _ ?sr1_16_14 (fun hS => ?_)
  case sr1_16_14 => (exact HS0.out)
  clear hK K
  (try simp only [Act.put, List.setIfInBounds_toArray, List.set_cons_zero, List.set_cons_succ])
  refine wpAnyH_ready (rs := [16]) (by kernel_rfl) (by simp) ?_
  refine (AllReadyH.cons (o := ?or1_17_16) ?ir1_17_16 (fun K hK => ?str1_17_16) AllReadyH.nil)
  case ir1_17_16 => simp only [List.getElem?_toArray, List.getElem?_cons_succ, List.getElem?_cons_zero]; rfl
  rw [if_pos (by rfl)]
  go_simp
  refine (Z4.out _ HWc.out).mono ?_
  rintro r v16 ⟨rfl, hb⟩
  replace HS0 := Lib.hid (And.intro (HS0.out.1.below hb HS0.out.1.lt) (And.intro (HS0.out.2.1.below hb HS0.out.2.1.lt) (HS0.out.2.2.below hb HS0.out.2.2.lt)))
  replace HX := Lib.hid (HX.out.below hb HX.out.lt)
  replace HY := Lib.hid (HY.out.below hb HY.out.lt)
  replace HXoa := Lib.hid (HXoa.out.below hb HXoa.out.lt)
  replace HXma := Lib.hid (HXma.out.below hb HXma.out.lt)
  replace HXya := Lib.hid (HXya.out.below hb HXya.out.lt)
  replace HXka := Lib.hid (HXka.out.below hb HXka.out.lt)
  replace HXqa := Lib.hid (HXqa.out.below hb HXqa.out.lt)
  replace HLoa := Lib.hid (HLoa.out.below hb)
  replace HLma := Lib.hid (HLma.out.below hb)
  replace HLya := Lib.hid (HLya.out.below hb)
  replace HLka := Lib.hid (HLka.out.below hb)
  replace HLqa := Lib.hid (HLqa.out.below hb)
  replace HB := Lib.hid (HB.out.trans (hb.mono HB.out.size))
  replace HWc := Lib.hid (HWc.out.trans (hb.mono HWc.out.size))
  clear hb
  go_wp2_with fail
  refine hK.out _ _ ?sr1_17_16 (fun hS => ?_)
  case sr1_17_16 => (exact HS0.out)
  clear hK K
  (try simp only [Act.put, List.setIfInBounds_toArray, List.set_cons_zero, List.set_cons_succ])
  refine wpAnyH_take (i := 17) (oi := ?o1_17_18) (v := ?v1_17_18) ?i1_17_18 (by kernel_rfl) (by kernel_rfl) (by kernel_rfl) (fun _ _ _ h => h) (Or.inl ⟨?g1_17_18, ?y1_17_18⟩) hS ?_
  case i1_17_18 => simp only [List.getElem?_toArray, List.getElem?_cons_succ, List.getElem?_cons_zero]; rfl
  case g1_17_18 => rfl
  case y1_17_18 => (intro w hSw; have jw := HJ.out; (go_simp <;> with_reducible rfl))
  (try simp only [Act.put, List.setIfInBounds_toArray, List.set_cons_zero, List.set_cons_succ])
  refine wpAnyH_take (i := 18) (oi := ?o1_18_19) (v := ?v1_18_19) ?i1_18_19 (by kernel_rfl) (by kernel_rfl) (by kernel_rfl) (fun _ _ _ h => h) (Or.inl ⟨?g1_18_19, ?y1_18_19⟩) hS ?_
  case i1_18_19 => simp only [List.getElem?_toArray, List.getElem?_cons_succ, List.getElem?_cons_zero]; rfl
  case g1_18_19 => rfl
  case y1_18_19 => (intro w hSw; have jw := HJ.out; (go_simp <;> with_reducible rfl))
  (try simp only [Act.put, List.setIfInBounds_toArray, List.set_cons_zero, List.set_cons_succ])
  refine wpAnyH_take (i := 19) (oi := ?o1_19_20) (v := ?v1_19_20) ?i1_19_20 (by kernel_rfl) (by kernel_rfl) (by kernel_rfl) (fun _ _ _ h => h) (Or.inl ⟨?g1_19_20, ?y1_19_20⟩) hS ?_
  case i1_19_20 => simp only [List.getElem?_toArray, List.getElem?_cons_succ, List.getElem?_cons_zero]; rfl
  case g1_19_20 => rfl
  case y1_19_20 => (intro w hSw; (go_simp <;> with_reducible rfl))
  (try simp only [Act.put, List.setIfInBounds_toArray, List.set_cons_zero, List.set_cons_succ])
  refine wpAnyH_done (by kernel_rfl) ?_ _
  refine NoPanic.normal ?_
  clear hS
  have ld0_0 := (HXka.out.cell 0).trans rfl
  have ld0_1 := (HXka.out.cell 1).trans rfl
  have ld0_2 := (HXka.out.cell 2).trans rfl
  have ld0_3 := (HXka.out.cell 3).trans rfl
  have ld0_4 := (HXka.out.cell 4).trans rfl
  have ld0_5 := (HXka.out.cell 5).trans rfl
  have ld1_0 := (HX.out.cell 0).trans rfl
  have ld1_1 := (HX.out.cell 1).trans rfl
  have ld1_2 := (HX.out.cell 2).trans rfl
  have ld1_3 := (HX.out.cell 3).trans rfl
  have ld1_4 := (HX.out.cell 4).trans rfl
  have ld1_5 := (HX.out.cell 5).trans rfl
  go_wp2_with fail
  refine (rsame_eq HLka.out (HLX.out.below HB.out) HSZ.out.2.2.2.1).mono ?_
  rintro r w21 ⟨rfl, hb⟩
  replace HX := Lib.hid (HX.out.below hb HX.out.lt)
  replace HY := Lib.hid (HY.out.below hb HY.out.lt)
  replace HXoa := Lib.hid (HXoa.out.below hb HXoa.out.lt)
  replace HXma := Lib.hid (HXma.out.below hb HXma.out.lt)
  replace HXya := Lib.hid (HXya.out.below hb HXya.out.lt)
  replace HXka := Lib.hid (HXka.out.below hb HXka.out.lt)
  replace HXqa := Lib.hid (HXqa.out.below hb HXqa.out.lt)
  replace HLoa := Lib.hid (HLoa.out.below hb)
  replace HLma := Lib.hid (HLma.out.below hb)
  replace HLya := Lib.hid (HLya.out.below hb)
  replace HLka := Lib.hid (HLka.out.below hb)
  replace HLqa := Lib.hid (HLqa.out.below hb)
  replace HB := Lib.hid (HB.out.trans (hb.mono HB.out.size))
  clear ld0_0 ld0_1 ld0_2 ld0_3 ld0_4 ld0_5 ld1_0 ld1_1 ld1_2 ld1_3 ld1_4 ld1_5 hb
  go_wp2
  go_ret
  exact ⟨rfl, HB.out⟩
set_option maxRecDepth 100000 in
set_option maxHeartbeats 8000000 in
theorem treeBack_old (a b : NdD) (f g : NdF) (A B : Option Addr) (c d : Nat) (l : List Stp) (V : Option Addr) (N m : Nat) (w : World) (hx : LieN w (ndC a (.slice A f.len c)) (a, f)) (hy : LieN w (ndC b (.slice B g.len d)) (b, g)) (hv : WayV w.heap.size w (.slice V N m) l) (hN : N = l.length) (hf : f.size ≤ 1000000) (hg : g.size ≤ 1000000) (C : TreC w) (HA : Awake9 w) (h1 : decide (f.size + 1 ≤ 300) = true) (h2 : decide (g.size + 1 ≤ 300) = true) (hl : ¬ 20 < N) (hr : rgtX (a, f) = true) (hq : rgtX (b, g) = true) (oa ma qa ka : NdD) (of_ mf qf kf : NdF) (hG : GetX (a, f) l = ((oa, of_), true)) (hS : SetX (a, f) l (b, g) = ((ma, mf), 0)) (hM : GetX (ma, mf) l = ((b, g), true)) (hRm : rgtX (ma, mf) = true) (hK : CutX (ma, mf) l = ((ka, kf), 0)) (hQ : GetX (ka, kf) l = ((qa, qf), false)) (hRk : rgtX (ka, kf) = true) (hZ : sizeX (ka, kf) + sizeX (b, g) = sizeX (ma, mf)) (hO : SetX (ka, kf) l (oa, of_) = ((a, f), 0)) :
    Calls Try.prog 5 #[.agg #[.string (txt a.name), .string (txt a.key), .int .i64 a.kind, .int .u64 (a.num : Int), .string (txt a.text), .slice A f.len c], .slice V N m, .agg #[.string (txt b.name), .string (txt b.key), .int .i64 b.kind, .int .u64 (b.num : Int), .string (txt b.text), .slice B g.len d]] w (Ans9 (.bool true) w) := by
  have hb2 : Blk ((w.alloc (.cells #[.string (txt a.name), .string (txt a.key), .int .i64 a.kind, .int .u64 (a.num : Int), .string (txt a.text), .slice A f.len c] 27)).alloc (.cells #[.string (txt b.name), .string (txt b.key), .int .i64 b.kind, .int .u64 (b.num : Int), .string (txt b.text), .slice B g.len d] 27)) (w.heap.size + 1) 27 #[.string (txt b.name), .string (txt b.key), .int .i64 b.kind, .int .u64 (b.num : Int), .string (txt b.text), .slice B g.len d] := by
    have h := Blk.new (w.alloc (.cells #[.string (txt a.name), .string (txt a.key), .int .i64 a.kind, .int .u64 (a.num : Int), .string (txt a.text), .slice A f.len c] 27)) 27 #[.string (txt b.name), .string (txt b.key), .int .i64 b.kind, .int .u64 (b.num : Int), .string (txt b.text), .slice B g.len d]
    rw [show (w.alloc (.cells #[.string (txt a.name), .string (txt a.key), .int .i64 a.kind, .int .u64 (a.num : Int), .string (txt a.text), .slice A f.len c] 27)).heap.size = w.heap.size + 1 by simp] at h
    exact h
  have HX := Lib.hid ((Blk.new w 27 #[.string (txt a.name), .string (txt a.key), .int .i64 a.kind, .int .u64 (a.num : Int), .string (txt a.text), .slice A f.len c]).alloc (.cells #[.string (txt b.name), .string (txt b.key), .int .i64 b.kind, .int .u64 (b.num : Int), .string (txt b.text), .slice B g.len d] 27))
  have HY := Lib.hid hb2
  have HB : Hid (Below w.heap.size w ((w.alloc (.cells #[.string (txt a.name), .string (txt a.key), .int .i64 a.kind, .int .u64 (a.num : Int), .string (txt a.text), .slice A f.len c] 27)).alloc (.cells #[.string (txt b.name), .string (txt b.key), .int .i64 b.kind, .int .u64 (b.num : Int), .string (txt b.text), .slice B g.len d] 27))) := Lib.hid (((Below.refl _ _).alloc (Nat.le_refl _) _).alloc (by simp) _)
  clear hb2
  have KA := Lib.hid HA
  have K1 : Hid (∀ W, Below w.heap.size w W → Calls Try.prog 9 #[.agg #[.string (txt a.name), .string (txt a.key), .int .i64 a.kind, .int .u64 (a.num : Int), .string (txt a.text), .slice A f.len c]] W (Ans9 (.bool true) W)) := Lib.hid (fun W hW => by have h := small_q hx hf W hW; rwa [h1] at h)
  have K2 : Hid (∀ W, Below w.heap.size w W → Calls Try.prog 9 #[.agg #[.string (txt b.name), .string (txt b.key), .int .i64 b.kind, .int .u64 (b.num : Int), .string (txt b.text), .slice B g.len d]] W (Ans9 (.bool true) W)) := Lib.hid (fun W hW => by have h := small_q hy hg W hW; rwa [h2] at h)
  have n1 : ¬ (20 : Int) < (N : Int) := by omega
  have KR : Hid (∀ W, Below w.heap.size w W → Calls Try.prog 12 #[.agg #[.string (txt a.name), .string (txt a.key), .int .i64 a.kind, .int .u64 (a.num : Int), .string (txt a.text), .slice A f.len c]] W (Ans9 (.bool true) W)) := Lib.hid (fun W hW => by have h := rright_q hx hf W hW; rwa [hr] at h)
  have KQ : Hid (∀ W, Below w.heap.size w W → Calls Try.prog 12 #[.agg #[.string (txt b.name), .string (txt b.key), .int .i64 b.kind, .int .u64 (b.num : Int), .string (txt b.text), .slice B g.len d]] W (Ans9 (.bool true) W)) := Lib.hid (fun W hW => by have h := rright_q hy hg W hW; rwa [hq] at h)
  have hln : l.length ≤ 1000000 := by omega
  have hs1 : of_.size ≤ 1000000 := by have h := GetX_few (a, f) l; rw [hG] at h; simp only at h; omega
  have hs2 : mf.size ≤ 100000 := by have h := SetX_few (a, f) (b, g) l; have := of_decide_eq_true h1; have := of_decide_eq_true h2; rw [hS] at h; simp only at h; omega
  have hs3 : kf.size ≤ 100000 := by have h := CutX_few (ma, mf) l; rw [hK] at h; simp only at h; omega
  have KG : Hid (∀ W, Below w.heap.size w W → Calls Try.prog 20 #[.agg #[.string (txt a.name), .string (txt a.key), .int .i64 a.kind, .int .u64 (a.num : Int), .string (txt a.text), .slice A f.len c], .slice V N m] W (RTreP (oa, of_) (.bool true) W)) := Lib.hid (fun W hW => (by have h := get_q C (Below.refl _ _) hx hv hf hln W hW; rw [hG] at h; exact h.mono fun _ _ h => h.r))
  have KS : Hid (∀ W, Below w.heap.size w W → Calls Try.prog 22 #[.agg #[.string (txt a.name), .string (txt a.key), .int .i64 a.kind, .int .u64 (a.num : Int), .string (txt a.text), .slice A f.len c], .slice V N m, .agg #[.string (txt b.name), .string (txt b.key), .int .i64 b.kind, .int .u64 (b.num : Int), .string (txt b.text), .slice B g.len d]] W (RTreP (ma, mf) (.int .i64 0) W)) := Lib.hid (fun W hW => (by have h := set_q C (Below.refl _ _) hx hy hv hf hg hr hln W hW; rw [hS] at h; exact h.mono fun _ _ h => h.r))
  obtain ⟨zk, hzk⟩ : ∃ z, z = sizeX (ka, kf) := ⟨_, rfl⟩
  obtain ⟨zm, hzm⟩ : ∃ z, z = sizeX (ma, mf) := ⟨_, rfl⟩
  obtain ⟨zx, hzx⟩ : ∃ z, z = sizeX (b, g) := ⟨_, rfl⟩
  have jw : IntKind.i64.wrap ((zm : Int) - (zx : Int)) = (zk : Int) := by
    have hb1 : zm ≤ 100001 := by rw [hzm]; simp only [sizeX]; omega
    have hb2 : (zm : Int) - (zx : Int) = (zk : Int) := by omega
    rw [hb2]
    exact Go.IntWalk.i64_in _ (by omega)
  have HC := Lib.hid C
  have HV := Lib.hid hv
  have HLX := Lib.hid hx
  have HLY := Lib.hid hy
  have HSZ := Lib.hid (And.intro hs1 (And.intro (show mf.size ≤ 1000000 by omega) (And.intro (show kf.size ≤ 1000000 by omega) (And.intro hf hg))))
  have HLN := Lib.hid hln
  have HM := Lib.hid hM
  have HRM := Lib.hid hRm
  have HK := Lib.hid hK
  have HQ := Lib.hid hQ
  have HRK := Lib.hid hRk
  have HJ := Lib.hid jw
  have HZK := Lib.hid (And.intro hzk (And.intro hzm hzx))
  have HO := Lib.hid hO
  clear hO
  clear C HA hx hy hv hf hg h1 h2 hN hl hr hq hG hS hM hRm hK hQ hRk hZ hln hs1 hs2 hs3 hzk hzm hzx jw
  go_enter Try.func5, Try.ntmps5
  go_wp2_with fail
  refine (KA.out _ HB.out).mono ?_
  rintro r w1 ⟨rfl, hb⟩
  replace HX := Lib.hid (HX.out.below hb HX.out.lt)
  replace HY := Lib.hid (HY.out.below hb HY.out.lt)
  replace HB := Lib.hid (HB.out.trans (hb.mono HB.out.size))
  clear hb
  have ld0_0 := (HX.out.cell 0).trans rfl
  have ld0_1 := (HX.out.cell 1).trans rfl
  have ld0_2 := (HX.out.cell 2).trans rfl
  have ld0_3 := (HX.out.cell 3).trans rfl
  have ld0_4 := (HX.out.cell 4).trans rfl
  have ld0_5 := (HX.out.cell 5).trans rfl
  go_wp2_with fail
  refine (K1.out _ HB.out).mono ?_
  rintro r w2 ⟨rfl, hb⟩
  replace HX := Lib.hid (HX.out.below hb HX.out.lt)
  replace HY := Lib.hid (HY.out.below hb HY.out.lt)
  replace HB := Lib.hid (HB.out.trans (hb.mono HB.out.size))
  clear ld0_0 ld0_1 ld0_2 ld0_3 ld0_4 ld0_5 hb
  have ld0_0 := (HY.out.cell 0).trans rfl
  have ld0_1 := (HY.out.cell 1).trans rfl
  have ld0_2 := (HY.out.cell 2).trans rfl
  have ld0_3 := (HY.out.cell 3).trans rfl
  have ld0_4 := (HY.out.cell 4).trans rfl
  have ld0_5 := (HY.out.cell 5).trans rfl
  go_wp2_with fail
  refine (K2.out _ HB.out).mono ?_
  rintro r w3 ⟨rfl, hb⟩
  replace HX := Lib.hid (HX.out.below hb HX.out.lt)
  replace HY := Lib.hid (HY.out.below hb HY.out.lt)
  replace HB := Lib.hid (HB.out.trans (hb.mono HB.out.size))
  clear ld0_0 ld0_1 ld0_2 ld0_3 ld0_4 ld0_5 hb
  have ld0_0 := (HX.out.cell 0).trans rfl
  have ld0_1 := (HX.out.cell 1).trans rfl
  have ld0_2 := (HX.out.cell 2).trans rfl
  have ld0_3 := (HX.out.cell 3).trans rfl
  have ld0_4 := (HX.out.cell 4).trans rfl
  have ld0_5 := (HX.out.cell 5).trans rfl
  go_wp2_with fail
  refine (KR.out _ HB.out).mono ?_
  rintro r w4 ⟨rfl, hb⟩
  replace HX := Lib.hid (HX.out.below hb HX.out.lt)
  replace HY := Lib.hid (HY.out.below hb HY.out.lt)
  replace HB := Lib.hid (HB.out.trans (hb.mono HB.out.size))
  clear ld0_0 ld0_1 ld0_2 ld0_3 ld0_4 ld0_5 hb
  have ld0_0 := (HY.out.cell 0).trans rfl
  have ld0_1 := (HY.out.cell 1).trans rfl
  have ld0_2 := (HY.out.cell 2).trans rfl
  have ld0_3 := (HY.out.cell 3).trans rfl
  have ld0_4 := (HY.out.cell 4).trans rfl
  have ld0_5 := (HY.out.cell 5).trans rfl
  go_wp2_with fail
  refine (KQ.out _ HB.out).mono ?_
  rintro r w5 ⟨rfl, hb⟩
  replace HX := Lib.hid (HX.out.below hb HX.out.lt)
  replace HY := Lib.hid (HY.out.below hb HY.out.lt)
  replace HB := Lib.hid (HB.out.trans (hb.mono HB.out.size))
  clear ld0_0 ld0_1 ld0_2 ld0_3 ld0_4 ld0_5 hb
  have ld0_0 := (HX.out.cell 0).trans rfl
  have ld0_1 := (HX.out.cell 1).trans rfl
  have ld0_2 := (HX.out.cell 2).trans rfl
  have ld0_3 := (HX.out.cell 3).trans rfl
  have ld0_4 := (HX.out.cell 4).trans rfl
  have ld0_5 := (HX.out.cell 5).trans rfl
  go_wp2_with fail
  refine (KG.out _ HB.out).mono ?_
  intro r w6 hr
  obtain ⟨Aoa, coa, rfl, hl, hb⟩ := hr.flat
  have hal : Below w6.heap.size w6 (w6.alloc (.cells #[.string (txt oa.name), .string (txt oa.key), .int .i64 oa.kind, .int .u64 (oa.num : Int), .string (txt oa.text), .slice Aoa of_.len coa] 27)) := (Below.refl _ _).alloc (Nat.le_refl _) _
  have hb2 := hb.trans (hal.mono hb.size)
  replace HX := Lib.hid (HX.out.below hb2 HX.out.lt)
  replace HY := Lib.hid (HY.out.below hb2 HY.out.lt)
  replace HB := Lib.hid (HB.out.trans (hb2.mono HB.out.size))
  have HXoa := Lib.hid (Blk.new w6 27 #[.string (txt oa.name), .string (txt oa.key), .int .i64 oa.kind, .int .u64 (oa.num : Int), .string (txt oa.text), .slice Aoa of_.len coa])
  have HLoa : Hid (LieN (w6.alloc (.cells #[.string (txt oa.name), .string (txt oa.key), .int .i64 oa.kind, .int .u64 (oa.num : Int), .string (txt oa.text), .slice Aoa of_.len coa] 27)) (ndC oa (.slice Aoa of_.len coa)) (oa, of_)) := Lib.hid (hl.below hal)
  clear ld0_0 ld0_1 ld0_2 ld0_3 ld0_4 ld0_5 hr hl hb hal hb2
  have ld0_0 := (HX.out.cell 0).trans rfl
  have ld0_1 := (HX.out.cell 1).trans rfl
  have ld0_2 := (HX.out.cell 2).trans rfl
  have ld0_3 := (HX.out.cell 3).trans rfl
  have ld0_4 := (HX.out.cell 4).trans rfl
  have ld0_5 := (HX.out.cell 5).trans rfl
  have ld1_0 := (HY.out.cell 0).trans rfl
  have ld1_1 := (HY.out.cell 1).trans rfl
  have ld1_2 := (HY.out.cell 2).trans rfl
  have ld1_3 := (HY.out.cell 3).trans rfl
  have ld1_4 := (HY.out.cell 4).trans rfl
  have ld1_5 := (HY.out.cell 5).trans rfl
  go_wp2_with fail
  refine (KS.out _ HB.out).mono ?_
  intro r w7 hr
  obtain ⟨Ama, cma, rfl, hl, hb⟩ := hr.flat
  have hal : Below w7.heap.size w7 (w7.alloc (.cells #[.string (txt ma.name), .string (txt ma.key), .int .i64 ma.kind, .int .u64 (ma.num : Int), .string (txt ma.text), .slice Ama mf.len cma] 27)) := (Below.refl _ _).alloc (Nat.le_refl _) _
  have hb2 := hb.trans (hal.mono hb.size)
  replace HX := Lib.hid (HX.out.below hb2 HX.out.lt)
  replace HY := Lib.hid (HY.out.below hb2 HY.out.lt)
  replace HXoa := Lib.hid (HXoa.out.below hb2 HXoa.out.lt)
  replace HLoa := Lib.hid (HLoa.out.below hb2)
  replace HB := Lib.hid (HB.out.trans (hb2.mono HB.out.size))
  have HXma := Lib.hid (Blk.new w7 27 #[.string (txt ma.name), .string (txt ma.key), .int .i64 ma.kind, .int .u64 (ma.num : Int), .string (txt ma.text), .slice Ama mf.len cma])
  have HLma : Hid (LieN (w7.alloc (.cells #[.string (txt ma.name), .string (txt ma.key), .int .i64 ma.kind, .int .u64 (ma.num : Int), .string (txt ma.text), .slice Ama mf.len cma] 27)) (ndC ma (.slice Ama mf.len cma)) (ma, mf)) := Lib.hid (hl.below hal)
  clear ld0_0 ld0_1 ld0_2 ld0_3 ld0_4 ld0_5 ld1_0 ld1_1 ld1_2 ld1_3 ld1_4 ld1_5 hr hl hb hal hb2
  have K5 : Hid (Calls Try.prog 20 #[.agg #[.string (txt ma.name), .string (txt ma.key), .int .i64 ma.kind, .int .u64 (ma.num : Int), .string (txt ma.text), .slice Ama mf.len cma], .slice V N m] (w7.alloc (.cells #[.string (txt ma.name), .string (txt ma.key), .int .i64 ma.kind, .int .u64 (ma.num : Int), .string (txt ma.text), .slice Ama mf.len cma] 27)) (RTreP (b, g) (.bool true) (w7.alloc (.cells #[.string (txt ma.name), .string (txt ma.key), .int .i64 ma.kind, .int .u64 (ma.num : Int), .string (txt ma.text), .slice Ama mf.len cma] 27)))) := Lib.hid (by have h := get_q HC.out HB.out HLma.out (HV.out.below HB.out) HSZ.out.2.1 HLN.out _ (Below.refl _ _); rw [HM.out] at h; exact h.mono fun _ _ h => h.r)
  have ld0_0 := (HXma.out.cell 0).trans rfl
  have ld0_1 := (HXma.out.cell 1).trans rfl
  have ld0_2 := (HXma.out.cell 2).trans rfl
  have ld0_3 := (HXma.out.cell 3).trans rfl
  have ld0_4 := (HXma.out.cell 4).trans rfl
  have ld0_5 := (HXma.out.cell 5).trans rfl
  go_wp2_with fail
  refine K5.out.mono ?_
  intro r w8 hr
  obtain ⟨Aya, cya, rfl, hl, hb⟩ := hr.flat
  have hal : Below w8.heap.size w8 (w8.alloc (.cells #[.string (txt b.name), .string (txt b.key), .int .i64 b.kind, .int .u64 (b.num : Int), .string (txt b.text), .slice Aya g.len cya] 27)) := (Below.refl _ _).alloc (Nat.le_refl _) _
  have hb2 := hb.trans (hal.mono hb.size)
  replace HX := Lib.hid (HX.out.below hb2 HX.out.lt)
  replace HY := Lib.hid (HY.out.below hb2 HY.out.lt)
  replace HXoa := Lib.hid (HXoa.out.below hb2 HXoa.out.lt)
  replace HXma := Lib.hid (HXma.out.below hb2 HXma.out.lt)
  replace HLoa := Lib.hid (HLoa.out.below hb2)
  replace HLma := Lib.hid (HLma.out.below hb2)
  replace HB := Lib.hid (HB.out.trans (hb2.mono HB.out.size))
  have HXya := Lib.hid (Blk.new w8 27 #[.string (txt b.name), .string (txt b.key), .int .i64 b.kind, .int .u64 (b.num : Int), .string (txt b.text), .slice Aya g.len cya])
  have HLya : Hid (LieN (w8.alloc (.cells #[.string (txt b.name), .string (txt b.key), .int .i64 b.kind, .int .u64 (b.num : Int), .string (txt b.text), .slice Aya g.len cya] 27)) (ndC b (.slice Aya g.len cya)) (b, g)) := Lib.hid (hl.below hal)
  clear ld0_0 ld0_1 ld0_2 ld0_3 ld0_4 ld0_5 hr hl hb hal hb2
  have ld0_0 := (HXya.out.cell 0).trans rfl
  have ld0_1 := (HXya.out.cell 1).trans rfl
  have ld0_2 := (HXya.out.cell 2).trans rfl
  have ld0_3 := (HXya.out.cell 3).trans rfl
  have ld0_4 := (HXya.out.cell 4).trans rfl
  have ld0_5 := (HXya.out.cell 5).trans rfl
  have ld1_0 := (HY.out.cell 0).trans rfl
  have ld1_1 := (HY.out.cell 1).trans rfl
  have ld1_2 := (HY.out.cell 2).trans rfl
  have ld1_3 := (HY.out.cell 3).trans rfl
  have ld1_4 := (HY.out.cell 4).trans rfl
  have ld1_5 := (HY.out.cell 5).trans rfl
  go_wp2_with fail
  refine (rsame_eq HLya.out (HLY.out.below HB.out) HSZ.out.2.2.2.2).mono ?_
  rintro r w9 ⟨rfl, hb⟩
  replace HX := Lib.hid (HX.out.below hb HX.out.lt)
  replace HY := Lib.hid (HY.out.below hb HY.out.lt)
  replace HXoa := Lib.hid (HXoa.out.below hb HXoa.out.lt)
  replace HXma := Lib.hid (HXma.out.below hb HXma.out.lt)
  replace HXya := Lib.hid (HXya.out.below hb HXya.out.lt)
  replace HLoa := Lib.hid (HLoa.out.below hb)
  replace HLma := Lib.hid (HLma.out.below hb)
  replace HLya := Lib.hid (HLya.out.below hb)
  replace HB := Lib.hid (HB.out.trans (hb.mono HB.out.size))
  clear ld0_0 ld0_1 ld0_2 ld0_3 ld0_4 ld0_5 ld1_0 ld1_1 ld1_2 ld1_3 ld1_4 ld1_5 hb
  have K6 : Hid (Calls Try.prog 11 #[.agg #[.string (txt ma.name), .string (txt ma.key), .int .i64 ma.kind, .int .u64 (ma.num : Int), .string (txt ma.text), .slice Ama mf.len cma]] w9 (Ans9 (.bool true) w9)) := Lib.hid (by have h := right_q HC.out HB.out HLma.out HSZ.out.2.1 _ (Below.refl _ _); rwa [HRM.out] at h)
  have ld0_0 := (HXma.out.cell 0).trans rfl
  have ld0_1 := (HXma.out.cell 1).trans rfl
  have ld0_2 := (HXma.out.cell 2).trans rfl
  have ld0_3 := (HXma.out.cell 3).trans rfl
  have ld0_4 := (HXma.out.cell 4).trans rfl
  have ld0_5 := (HXma.out.cell 5).trans rfl
  go_wp2_with fail
  refine K6.out.mono ?_
  rintro r w10 ⟨rfl, hb⟩
  replace HX := Lib.hid (HX.out.below hb HX.out.lt)
  replace HY := Lib.hid (HY.out.below hb HY.out.lt)
  replace HXoa := Lib.hid (HXoa.out.below hb HXoa.out.lt)
  replace HXma := Lib.hid (HXma.out.below hb HXma.out.lt)
  replace HXya := Lib.hid (HXya.out.below hb HXya.out.lt)
  replace HLoa := Lib.hid (HLoa.out.below hb)
  replace HLma := Lib.hid (HLma.out.below hb)
  replace HLya := Lib.hid (HLya.out.below hb)
  replace HB := Lib.hid (HB.out.trans (hb.mono HB.out.size))
  clear ld0_0 ld0_1 ld0_2 ld0_3 ld0_4 ld0_5 hb
  have K7 : Hid (Calls Try.prog 24 #[.agg #[.string (txt ma.name), .string (txt ma.key), .int .i64 ma.kind, .int .u64 (ma.num : Int), .string (txt ma.text), .slice Ama mf.len cma], .slice V N m] w10 (RTreP (ka, kf) (.int .i64 0) w10)) := Lib.hid (by have h := cut_q HC.out HB.out HLma.out (HV.out.below HB.out) HSZ.out.2.1 HRM.out HLN.out _ (Below.refl _ _); rw [HK.out] at h; exact h.mono fun _ _ h => h.r)
  have ld0_0 := (HXma.out.cell 0).trans rfl
  have ld0_1 := (HXma.out.cell 1).trans rfl
  have ld0_2 := (HXma.out.cell 2).trans rfl
  have ld0_3 := (HXma.out.cell 3).trans rfl
  have ld0_4 := (HXma.out.cell 4).trans rfl
  have ld0_5 := (HXma.out.cell 5).trans rfl
  go_wp2_with fail
  refine K7.out.mono ?_
  intro r w11 hr
  obtain ⟨Aka, cka, rfl, hl, hb⟩ := hr.flat
  have hal : Below w11.heap.size w11 (w11.alloc (.cells #[.string (txt ka.name), .string (txt ka.key), .int .i64 ka.kind, .int .u64 (ka.num : Int), .string (txt ka.text), .slice Aka kf.len cka] 27)) := (Below.refl _ _).alloc (Nat.le_refl _) _
  have hb2 := hb.trans (hal.mono hb.size)
  replace HX := Lib.hid (HX.out.below hb2 HX.out.lt)
  replace HY := Lib.hid (HY.out.below hb2 HY.out.lt)
  replace HXoa := Lib.hid (HXoa.out.below hb2 HXoa.out.lt)
  replace HXma := Lib.hid (HXma.out.below hb2 HXma.out.lt)
  replace HXya := Lib.hid (HXya.out.below hb2 HXya.out.lt)
  replace HLoa := Lib.hid (HLoa.out.below hb2)
  replace HLma := Lib.hid (HLma.out.below hb2)
  replace HLya := Lib.hid (HLya.out.below hb2)
  replace HB := Lib.hid (HB.out.trans (hb2.mono HB.out.size))
  have HXka := Lib.hid (Blk.new w11 27 #[.string (txt ka.name), .string (txt ka.key), .int .i64 ka.kind, .int .u64 (ka.num : Int), .string (txt ka.text), .slice Aka kf.len cka])
  have HLka : Hid (LieN (w11.alloc (.cells #[.string (txt ka.name), .string (txt ka.key), .int .i64 ka.kind, .int .u64 (ka.num : Int), .string (txt ka.text), .slice Aka kf.len cka] 27)) (ndC ka (.slice Aka kf.len cka)) (ka, kf)) := Lib.hid (hl.below hal)
  clear ld0_0 ld0_1 ld0_2 ld0_3 ld0_4 ld0_5 hr hl hb hal hb2
  have K8 : Hid (Calls Try.prog 20 #[.agg #[.string (txt ka.name), .string (txt ka.key), .int .i64 ka.kind, .int .u64 (ka.num : Int), .string (txt ka.text), .slice Aka kf.len cka], .slice V N m] (w11.alloc (.cells #[.string (txt ka.name), .string (txt ka.key), .int .i64 ka.kind, .int .u64 (ka.num : Int), .string (txt ka.text), .slice Aka kf.len cka] 27)) (RTreP (qa, qf) (.bool false) (w11.alloc (.cells #[.string (txt ka.name), .string (txt ka.key), .int .i64 ka.kind, .int .u64 (ka.num : Int), .string (txt ka.text), .slice Aka kf.len cka] 27)))) := Lib.hid (by have h := get_q HC.out HB.out HLka.out (HV.out.below HB.out) HSZ.out.2.2.1 HLN.out _ (Below.refl _ _); rw [HQ.out] at h; exact h.mono fun _ _ h => h.r)
  have ld0_0 := (HXka.out.cell 0).trans rfl
  have ld0_1 := (HXka.out.cell 1).trans rfl
  have ld0_2 := (HXka.out.cell 2).trans rfl
  have ld0_3 := (HXka.out.cell 3).trans rfl
  have ld0_4 := (HXka.out.cell 4).trans rfl
  have ld0_5 := (HXka.out.cell 5).trans rfl
  go_wp2_with fail
  refine K8.out.mono ?_
  intro r w12 hr
  obtain ⟨Aqa, cqa, rfl, hl, hb⟩ := hr.flat
  have hal : Below w12.heap.size w12 (w12.alloc (.cells #[.string (txt qa.name), .string (txt qa.key), .int .i64 qa.kind, .int .u64 (qa.num : Int), .string (txt qa.text), .slice Aqa qf.len cqa] 27)) := (Below.refl _ _).alloc (Nat.le_refl _) _
  have hb2 := hb.trans (hal.mono hb.size)
  replace HX := Lib.hid (HX.out.below hb2 HX.out.lt)
  replace HY := Lib.hid (HY.out.below hb2 HY.out.lt)
  replace HXoa := Lib.hid (HXoa.out.below hb2 HXoa.out.lt)
  replace HXma := Lib.hid (HXma.out.below hb2 HXma.out.lt)
  replace HXya := Lib.hid (HXya.out.below hb2 HXya.out.lt)
  replace HXka := Lib.hid (HXka.out.below hb2 HXka.out.lt)
  replace HLoa := Lib.hid (HLoa.out.below hb2)
  replace HLma := Lib.hid (HLma.out.below hb2)
  replace HLya := Lib.hid (HLya.out.below hb2)
  replace HLka := Lib.hid (HLka.out.below hb2)
  replace HB := Lib.hid (HB.out.trans (hb2.mono HB.out.size))
  have HXqa := Lib.hid (Blk.new w12 27 #[.string (txt qa.name), .string (txt qa.key), .int .i64 qa.kind, .int .u64 (qa.num : Int), .string (txt qa.text), .slice Aqa qf.len cqa])
  have HLqa : Hid (LieN (w12.alloc (.cells #[.string (txt qa.name), .string (txt qa.key), .int .i64 qa.kind, .int .u64 (qa.num : Int), .string (txt qa.text), .slice Aqa qf.len cqa] 27)) (ndC qa (.slice Aqa qf.len cqa)) (qa, qf)) := Lib.hid (hl.below hal)
  clear ld0_0 ld0_1 ld0_2 ld0_3 ld0_4 ld0_5 hr hl hb hal hb2
  go_wp2_with fail
  replace HX := Lib.hid (HX.out.below (Below.refl _ _).drew HX.out.lt)
  replace HY := Lib.hid (HY.out.below (Below.refl _ _).drew HY.out.lt)
  replace HXoa := Lib.hid (HXoa.out.below (Below.refl _ _).drew HXoa.out.lt)
  replace HXma := Lib.hid (HXma.out.below (Below.refl _ _).drew HXma.out.lt)
  replace HXya := Lib.hid (HXya.out.below (Below.refl _ _).drew HXya.out.lt)
  replace HXka := Lib.hid (HXka.out.below (Below.refl _ _).drew HXka.out.lt)
  replace HXqa := Lib.hid (HXqa.out.below (Below.refl _ _).drew HXqa.out.lt)
  replace HLoa := Lib.hid (HLoa.out.below (Below.refl _ _).drew)
  replace HLma := Lib.hid (HLma.out.below (Below.refl _ _).drew)
  replace HLya := Lib.hid (HLya.out.below (Below.refl _ _).drew)
  replace HLka := Lib.hid (HLka.out.below (Below.refl _ _).drew)
  replace HLqa := Lib.hid (HLqa.out.below (Below.refl _ _).drew)
  replace HB := Lib.hid HB.out.drew
  have Z1 : Hid (∀ W, Below (w12.alloc (.cells #[.string (txt qa.name), .string (txt qa.key), .int .i64 qa.kind, .int .u64 (qa.num : Int), .string (txt qa.text), .slice Aqa qf.len cqa] 27)).drew.heap.size (w12.alloc (.cells #[.string (txt qa.name), .string (txt qa.key), .int .i64 qa.kind, .int .u64 (qa.num : Int), .string (txt qa.text), .slice Aqa qf.len cqa] 27)).drew W → Calls Try.prog 11 #[.agg #[.string (txt ka.name), .string (txt ka.key), .int .i64 ka.kind, .int .u64 (ka.num : Int), .string (txt ka.text), .slice Aka kf.len cka]] W (Ans9 (.bool true) W)) := Lib.hid (fun W hW => by have h := right_q HC.out HB.out HLka.out HSZ.out.2.2.1 W hW; rwa [HRK.out] at h)
  have Z2 : Hid (∀ W, Below (w12.alloc (.cells #[.string (txt qa.name), .string (txt qa.key), .int .i64 qa.kind, .int .u64 (qa.num : Int), .string (txt qa.text), .slice Aqa qf.len cqa] 27)).drew.heap.size (w12.alloc (.cells #[.string (txt qa.name), .string (txt qa.key), .int .i64 qa.kind, .int .u64 (qa.num : Int), .string (txt qa.text), .slice Aqa qf.len cqa] 27)).drew W → Calls Try.prog 13 #[.agg #[.string (txt ka.name), .string (txt ka.key), .int .i64 ka.kind, .int .u64 (ka.num : Int), .string (txt ka.text), .slice Aka kf.len cka]] W (Ans9 (.int .i64 (zk : Int)) W)) := Lib.hid (fun W hW => by rw [HZK.out.1]; exact size_q HC.out HB.out HLka.out HSZ.out.2.2.1 W hW)
  have Z3 : Hid (∀ W, Below (w12.alloc (.cells #[.string (txt qa.name), .string (txt qa.key), .int .i64 qa.kind, .int .u64 (qa.num : Int), .string (txt qa.text), .slice Aqa qf.len cqa] 27)).drew.heap.size (w12.alloc (.cells #[.string (txt qa.name), .string (txt qa.key), .int .i64 qa.kind, .int .u64 (qa.num : Int), .string (txt qa.text), .slice Aqa qf.len cqa] 27)).drew W → Calls Try.prog 13 #[.agg #[.string (txt ma.name), .string (txt ma.key), .int .i64 ma.kind, .int .u64 (ma.num : Int), .string (txt ma.text), .slice Ama mf.len cma]] W (Ans9 (.int .i64 (zm : Int)) W)) := Lib.hid (fun W hW => by rw [HZK.out.2.1]; exact size_q HC.out HB.out HLma.out HSZ.out.2.1 W hW)
  have Z4 : Hid (∀ W, Below (w12.alloc (.cells #[.string (txt qa.name), .string (txt qa.key), .int .i64 qa.kind, .int .u64 (qa.num : Int), .string (txt qa.text), .slice Aqa qf.len cqa] 27)).drew.heap.size (w12.alloc (.cells #[.string (txt qa.name), .string (txt qa.key), .int .i64 qa.kind, .int .u64 (qa.num : Int), .string (txt qa.text), .slice Aqa qf.len cqa] 27)).drew W → Calls Try.prog 13 #[.agg #[.string (txt b.name), .string (txt b.key), .int .i64 b.kind, .int .u64 (b.num : Int), .string (txt b.text), .slice B g.len d]] W (Ans9 (.int .i64 (zx : Int)) W)) := Lib.hid (fun W hW => by rw [HZK.out.2.2]; exact size_q HC.out HB.out (HLY.out.below HB.out) HSZ.out.2.2.2.2 W hW)
  have HWc := Lib.hid (Below.refl (w12.alloc (.cells #[.string (txt qa.name), .string (txt qa.key), .int .i64 qa.kind, .int .u64 (qa.num : Int), .string (txt qa.text), .slice Aqa qf.len cqa] 27)).drew.heap.size (w12.alloc (.cells #[.string (txt qa.name), .string (txt qa.key), .int .i64 qa.kind, .int .u64 (qa.num : Int), .string (txt qa.text), .slice Aqa qf.len cqa] 27)).drew)
  have HS0 := Lib.hid (And.intro HXka.out (And.intro HXma.out HY.out))
  obtain ⟨bka, hbka⟩ : ∃ z, z = 0 := ⟨_, rfl⟩
  refine wp_region_noPanic ?_
  refine wp_region_held_drew (S := fun _ => True) (by kernel_rfl) trivial (fun hS => ?_)
  refine wpAnyH_take (i := 0) (oi := ?o2_0_1) (v := ?v2_0_1) ?i2_0_1 (by kernel_rfl) (by kernel_rfl) (by kernel_rfl) (fun _ _ _ h => h) (Or.inl ⟨?g2_0_1, ?y2_0_1⟩) hS ?_
  case i2_0_1 => simp only [List.getElem?_toArray, List.getElem?_cons_succ, List.getElem?_cons_zero]; rfl
  case g2_0_1 => rfl
  case y2_0_1 => (intro w hSw; (go_simp <;> with_reducible rfl))
  (try simp only [Act.put, List.setIfInBounds_toArray, List.set_cons_zero, List.set_cons_succ])
  refine wpAnyH_take (i := 1) (oi := ?o2_1_2) (v := ?v2_1_2) ?i2_1_2 (by kernel_rfl) (by kernel_rfl) (by kernel_rfl) (fun _ _ _ h => h) (Or.inl ⟨?g2_1_2, ?y2_1_2⟩) hS ?_
  case i2_1_2 => simp only [List.getElem?_toArray, List.getElem?_cons_succ, List.getElem?_cons_zero]; rfl
  case g2_1_2 => rfl
  case y2_1_2 => (intro w hSw; (go_simp <;> with_reducible rfl))
  (try simp only [Act.put, List.setIfInBounds_toArray, List.set_cons_zero, List.set_cons_succ])
  refine wpAnyH_take (i := 2) (oi := ?o2_2_3) (v := ?v2_2_3) ?i2_2_3 (by kernel_rfl) (by kernel_rfl) (by kernel_rfl) (fun _ _ _ h => h) (Or.inl ⟨?g2_2_3, ?y2_2_3⟩) hS ?_
  case i2_2_3 => simp only [List.getElem?_toArray, List.getElem?_cons_succ, List.getElem?_cons_zero]; rfl
  case g2_2_3 => rfl
  case y2_2_3 => (intro w hSw; (go_simp <;> with_reducible rfl))
  (try simp only [Act.put, List.setIfInBounds_toArray, List.set_cons_zero, List.set_cons_succ])
  refine wpAnyH_take (i := 3) (oi := ?o2_3_4) (v := ?v2_3_4) ?i2_3_4 (by kernel_rfl) (by kernel_rfl) (by kernel_rfl) (fun _ _ _ h => h) (Or.inl ⟨?g2_3_4, ?y2_3_4⟩) hS ?_
  case i2_3_4 => simp only [List.getElem?_toArray, List.getElem?_cons_succ, List.getElem?_cons_zero]; rfl
  case g2_3_4 => rfl
  case y2_3_4 => (intro w hSw; (go_simp <;> with_reducible rfl))
  (try simp only [Act.put, List.setIfInBounds_toArray, List.set_cons_zero, List.set_cons_succ])
  refine wpAnyH_take (i := 4) (oi := ?o2_4_5) (v := ?v2_4_5) ?i2_4_5 (by kernel_rfl) (by kernel_rfl) (by kernel_rfl) (fun _ _ _ h => h) (Or.inl ⟨?g2_4_5, ?y2_4_5⟩) hS ?_
  case i2_4_5 => simp only [List.getElem?_toArray, List.getElem?_cons_succ, List.getElem?_cons_zero]; rfl
  case g2_4_5 => rfl
  case y2_4_5 => (intro w hSw; (go_simp <;> with_reducible rfl))
  (try simp only [Act.put, List.setIfInBounds_toArray, List.set_cons_zero, List.set_cons_succ])
  refine wpAnyH_take (i := 5) (oi := ?o2_5_6) (v := ?v2_5_6) ?i2_5_6 (by kernel_rfl) (by kernel_rfl) (by kernel_rfl) (fun _ _ _ h => h) (Or.inl ⟨?g2_5_6, ?y2_5_6⟩) hS ?_
  case i2_5_6 => simp only [List.getElem?_toArray, List.getElem?_cons_succ, List.getElem?_cons_zero]; rfl
  case g2_5_6 => rfl
  case y2_5_6 => (intro w hSw; (go_simp <;> with_reducible rfl))
  (try simp only [Act.put, List.setIfInBounds_toArray, List.set_cons_zero, List.set_cons_succ])
  refine held_more (S' := fun w' => Blk w' w11.heap.size 27 #[.string (txt ka.name), .string (txt ka.key), .int .i64 ka.kind, .int .u64 (ka.num : Int), .string (txt ka.text), .slice Aka kf.len cka] ∧ Blk w' w7.heap.size 27 #[.string (txt ma.name), .string (txt ma.key), .int .i64 ma.kind, .int .u64 (ma.num : Int), .string (txt ma.text), .slice Ama mf.len cma] ∧ Blk w' (w.heap.size + 1) 27 #[.string (txt b.name), .string (txt b.key), .int .i64 b.kind, .int .u64 (b.num : Int), .string (txt b.text), .slice B g.len d]) (fun _ _ => trivial) _ _ _ _ ?_
  replace hS := HS0.out
  refine wpAnyH_take (i := 6) (oi := ?o2_6_7) (v := ?v2_6_7) ?i2_6_7 (by kernel_rfl) (by kernel_rfl) (by kernel_rfl) (fun _ _ _ h => h) (Or.inl ⟨?g2_6_7, ?y2_6_7⟩) hS ?_
  case i2_6_7 => simp only [List.getElem?_toArray, List.getElem?_cons_succ, List.getElem?_cons_zero]; rfl
  case g2_6_7 => rfl
  case y2_6_7 => (intro w hSw; have q0 := (hSw.1.cell 0).trans rfl; have q1 := (hSw.1.cell 1).trans rfl; have q2 := (hSw.1.cell 2).trans rfl; have q3 := (hSw.1.cell 3).trans rfl; have q4 := (hSw.1.cell 4).trans rfl; have q5 := (hSw.1.cell 5).trans rfl; (go_simp <;> with_reducible rfl))
  (try simp only [Act.put, List.setIfInBounds_toArray, List.set_cons_zero, List.set_cons_succ])
  refine wpAnyH_ready (rs := [7]) (by kernel_rfl) (by simp) ?_
  refine (AllReadyH.cons (o := ?or2_8_7) ?ir2_8_7 (fun K hK => ?str2_8_7) AllReadyH.nil)
  case ir2_8_7 => simp only [List.getElem?_toArray, List.getElem?_cons_succ, List.getElem?_cons_zero]; rfl
  rw [if_pos (by rfl)]
  go_simp
  refine (Z1.out _ HWc.out).mono ?_
  rintro r v7 ⟨rfl, hb⟩
  replace HS0 := Lib.hid (And.intro (HS0.out.1.below hb HS0.out.1.lt) (And.intro (HS0.out.2.1.below hb HS0.out.2.1.lt) (HS0.out.2.2.below hb HS0.out.2.2.lt)))
  replace HX := Lib.hid (HX.out.below hb HX.out.lt)
  replace HY := Lib.hid (HY.out.below hb HY.out.lt)
  replace HXoa := Lib.hid (HXoa.out.below hb HXoa.out.lt)
  replace HXma := Lib.hid (HXma.out.below hb HXma.out.lt)
  replace HXya := Lib.hid (HXya.out.below hb HXya.out.lt)
  replace HXka := Lib.hid (HXka.out.below hb HXka.out.lt)
  replace HXqa := Lib.hid (HXqa.out.below hb HXqa.out.lt)
  replace HLoa := Lib.hid (HLoa.out.below hb)
  replace HLma := Lib.hid (HLma.out.below hb)
  replace HLya := Lib.hid (HLya.out.below hb)
  replace HLka := Lib.hid (HLka.out.below hb)
  replace HLqa := Lib.hid (HLqa.out.below hb)
  replace HB := Lib.hid (HB.out.trans (hb.mono HB.out.size))
  replace HWc := Lib.hid (HWc.out.trans (hb.mono HWc.out.size))
  clear hb
  go_wp2_with fail
  refine hK.out _ _ ?sr2_8_7 (fun hS => ?_)
  case sr2_8_7 => (exact HS0.out)
  clear hK K
  (try simp only [Act.put, List.setIfInBounds_toArray, List.set_cons_zero, List.set_cons_succ])
  refine wpAnyH_take (i := 8) (oi := ?o2_8_9) (v := ?v2_8_9) ?i2_8_9 (by kernel_rfl) (by kernel_rfl) (by kernel_rfl) (fun _ _ _ h => h) (Or.inl ⟨?g2_8_9, ?y2_8_9⟩) hS ?_
  case i2_8_9 => simp only [List.getElem?_toArray, List.getElem?_cons_succ, List.getElem?_cons_zero]; rfl
  case g2_8_9 => rfl
  case y2_8_9 => (intro w hSw; (go_simp <;> with_reducible rfl))
  (try simp only [Act.put, List.setIfInBounds_toArray, List.set_cons_zero, List.set_cons_succ])
  refine wpAnyH_take (i := 9) (oi := ?o2_9_10) (v := ?v2_9_10) ?i2_9_10 (by kernel_rfl) (by kernel_rfl) (by kernel_rfl) (fun _ _ _ h => h) (Or.inl ⟨?g2_9_10, ?y2_9_10⟩) hS ?_
  case i2_9_10 => simp only [List.getElem?_toArray, List.getElem?_cons_succ, List.getElem?_cons_zero]; rfl
  case g2_9_10 => rfl
  case y2_9_10 => (intro w hSw; (go_simp <;> with_reducible rfl))
  (try simp only [Act.put, List.setIfInBounds_toArray, List.set_cons_zero, List.set_cons_succ])
  refine wpAnyH_take (i := 10) (oi := ?o2_10_11) (v := ?v2_10_11) ?i2_10_11 (by kernel_rfl) (by kernel_rfl) (by kernel_rfl) (fun _ _ _ h => h) (Or.inl ⟨?g2_10_11, ?y2_10_11⟩) hS ?_
  case i2_10_11 => simp only [List.getElem?_toArray, List.getElem?_cons_succ, List.getElem?_cons_zero]; rfl
  case g2_10_11 => rfl
  case y2_10_11 => (intro w hSw; (go_simp <;> with_reducible rfl))
  (try simp only [Act.put, List.setIfInBounds_toArray, List.set_cons_zero, List.set_cons_succ])
  refine wpAnyH_take (i := 11) (oi := ?o2_11_12) (v := ?v2_11_12) ?i2_11_12 (by kernel_rfl) (by kernel_rfl) (by kernel_rfl) (fun _ _ _ h => h) (Or.inl ⟨?g2_11_12, ?y2_11_12⟩) hS ?_
  case i2_11_12 => simp only [List.getElem?_toArray, List.getElem?_cons_succ, List.getElem?_cons_zero]; rfl
  case g2_11_12 => rfl
  case y2_11_12 => (intro w hSw; have q0 := (hSw.1.cell 0).trans rfl; have q1 := (hSw.1.cell 1).trans rfl; have q2 := (hSw.1.cell 2).trans rfl; have q3 := (hSw.1.cell 3).trans rfl; have q4 := (hSw.1.cell 4).trans rfl; have q5 := (hSw.1.cell 5).trans rfl; (go_simp <;> with_reducible rfl))
  (try simp only [Act.put, List.setIfInBounds_toArray, List.set_cons_zero, List.set_cons_succ])
  refine wpAnyH_take (i := 13) (oi := ?o2_13_13) (v := ?v2_13_13) ?i2_13_13 (by kernel_rfl) (by kernel_rfl) (by kernel_rfl) (fun _ _ _ h => h) (Or.inl ⟨?g2_13_13, ?y2_13_13⟩) hS ?_
  case i2_13_13 => simp only [List.getElem?_toArray, List.getElem?_cons_succ, List.getElem?_cons_zero]; rfl
  case g2_13_13 => rfl
  case y2_13_13 => (intro w hSw; have q0 := (hSw.2.1.cell 0).trans rfl; have q1 := (hSw.2.1.cell 1).trans rfl; have q2 := (hSw.2.1.cell 2).trans rfl; have q3 := (hSw.2.1.cell 3).trans rfl; have q4 := (hSw.2.1.cell 4).trans rfl; have q5 := (hSw.2.1.cell 5).trans rfl; (go_simp <;> with_reducible rfl))
  (try simp only [Act.put, List.setIfInBounds_toArray, List.set_cons_zero, List.set_cons_succ])
  refine wpAnyH_take (i := 15) (oi := ?o2_15_14) (v := ?v2_15_14) ?i2_15_14 (by kernel_rfl) (by kernel_rfl) (by kernel_rfl) (fun _ _ _ h => h) (Or.inl ⟨?g2_15_14, ?y2_15_14⟩) hS ?_
  case i2_15_14 => simp only [List.getElem?_toArray, List.getElem?_cons_succ, List.getElem?_cons_zero]; rfl
  case g2_15_14 => rfl
  case y2_15_14 => (intro w hSw; have q0 := (hSw.2.2.cell 0).trans rfl; have q1 := (hSw.2.2.cell 1).trans rfl; have q2 := (hSw.2.2.cell 2).trans rfl; have q3 := (hSw.2.2.cell 3).trans rfl; have q4 := (hSw.2.2.cell 4).trans rfl; have q5 := (hSw.2.2.cell 5).trans rfl; (go_simp <;> with_reducible rfl))
  (try simp only [Act.put, List.setIfInBounds_toArray, List.set_cons_zero, List.set_cons_succ])
  refine wpAnyH_ready (rs := [12]) (by kernel_rfl) (by simp) ?_
  refine (AllReadyH.cons (o := ?or2_15_12) ?ir2_15_12 (fun K hK => ?str2_15_12) AllReadyH.nil)
  case ir2_15_12 => simp only [List.getElem?_toArray, List.getElem?_cons_succ, List.getElem?_cons_zero]; rfl
  rw [if_pos (by rfl)]
  go_simp
  refine (Z2.out _ HWc.out).mono ?_
  rintro r v12 ⟨rfl, hb⟩
  replace HS0 := Lib.hid (And.intro (HS0.out.1.below hb HS0.out.1.lt) (And.intro (HS0.out.2.1.below hb HS0.out.2.1.lt) (HS0.out.2.2.below hb HS0.out.2.2.lt)))
  replace HX := Lib.hid (HX.out.below hb HX.out.lt)
  replace HY := Lib.hid (HY.out.below hb HY.out.lt)
  replace HXoa := Lib.hid (HXoa.out.below hb HXoa.out.lt)
  replace HXma := Lib.hid (HXma.out.below hb HXma.out.lt)
  replace HXya := Lib.hid (HXya.out.below hb HXya.out.lt)
  replace HXka := Lib.hid (HXka.out.below hb HXka.out.lt)
  replace HXqa := Lib.hid (HXqa.out.below hb HXqa.out.lt)
  replace HLoa := Lib.hid (HLoa.out.below hb)
  replace HLma := Lib.hid (HLma.out.below hb)
  replace HLya := Lib.hid (HLya.out.below hb)
  replace HLka := Lib.hid (HLka.out.below hb)
  replace HLqa := Lib.hid (HLqa.out.below hb)
  replace HB := Lib.hid (HB.out.trans (hb.mono HB.out.size))
  replace HWc := Lib.hid (HWc.out.trans (hb.mono HWc.out.size))
  clear hb
  go_wp2_with fail
  refine hK.out _ _ ?sr2_15_12 (fun hS => ?_)
  case sr2_15_12 => (exact HS0.out)
  clear hK K
  (try simp only [Act.put, List.setIfInBounds_toArray, List.set_cons_zero, List.set_cons_succ])
  refine wpAnyH_ready (rs := [14]) (by kernel_rfl) (by simp) ?_
  refine (AllReadyH.cons (o := ?or2_16_14) ?ir2_16_14 (fun K hK => ?str2_16_14) AllReadyH.nil)
  case ir2_16_14 => simp only [List.getElem?_toArray, List.getElem?_cons_succ, List.getElem?_cons_zero]; rfl
  rw [if_pos (by rfl)]
  go_simp
  refine (Z3.out _ HWc.out).mono ?_
  rintro r v14 ⟨rfl, hb⟩
  replace HS0 := Lib.hid (And.intro (HS0.out.1.below hb HS0.out.1.lt) (And.intro (HS0.out.2.1.below hb HS0.out.2.1.lt) (HS0.out.2.2.below hb HS0.out.2.2.lt)))
  replace HX := Lib.hid (HX.out.below hb HX.out.lt)
  replace HY := Lib.hid (HY.out.below hb HY.out.lt)
  replace HXoa := Lib.hid (HXoa.out.below hb HXoa.out.lt)
  replace HXma := Lib.hid (HXma.out.below hb HXma.out.lt)
  replace HXya := Lib.hid (HXya.out.below hb HXya.out.lt)
  replace HXka := Lib.hid (HXka.out.below hb HXka.out.lt)
  replace HXqa := Lib.hid (HXqa.out.below hb HXqa.out.lt)
  replace HLoa := Lib.hid (HLoa.out.below hb)
  replace HLma := Lib.hid (HLma.out.below hb)
  replace HLya := Lib.hid (HLya.out.below hb)
  replace HLka := Lib.hid (HLka.out.below hb)
  replace HLqa := Lib.hid (HLqa.out.below hb)
  replace HB := Lib.hid (HB.out.trans (hb.mono HB.out.size))
  replace HWc := Lib.hid (HWc.out.trans (hb.mono HWc.out.size))
  clear hb
  go_wp2_with fail
  refine hK.out _ _ ?sr2_16_14 (fun hS => ?_)
  case sr2_16_14 => (exact HS0.out)
  clear hK K
  (try simp only [Act.put, List.setIfInBounds_toArray, List.set_cons_zero, List.set_cons_succ])
  refine wpAnyH_ready (rs := [16]) (by kernel_rfl) (by simp) ?_
  refine (AllReadyH.cons (o := ?or2_17_16) ?ir2_17_16 (fun K hK => ?str2_17_16) AllReadyH.nil)
  case ir2_17_16 => simp only [List.getElem?_toArray, List.getElem?_cons_succ, List.getElem?_cons_zero]; rfl
  rw [if_pos (by rfl)]
  go_simp
  refine (Z4.out _ HWc.out).mono ?_
  rintro r v16 ⟨rfl, hb⟩
  replace HS0 := Lib.hid (And.intro (HS0.out.1.below hb HS0.out.1.lt) (And.intro (HS0.out.2.1.below hb HS0.out.2.1.lt) (HS0.out.2.2.below hb HS0.out.2.2.lt)))
  replace HX := Lib.hid (HX.out.below hb HX.out.lt)
  replace HY := Lib.hid (HY.out.below hb HY.out.lt)
  replace HXoa := Lib.hid (HXoa.out.below hb HXoa.out.lt)
  replace HXma := Lib.hid (HXma.out.below hb HXma.out.lt)
  replace HXya := Lib.hid (HXya.out.below hb HXya.out.lt)
  replace HXka := Lib.hid (HXka.out.below hb HXka.out.lt)
  replace HXqa := Lib.hid (HXqa.out.below hb HXqa.out.lt)
  replace HLoa := Lib.hid (HLoa.out.below hb)
  replace HLma := Lib.hid (HLma.out.below hb)
  replace HLya := Lib.hid (HLya.out.below hb)
  replace HLka := Lib.hid (HLka.out.below hb)
  replace HLqa := Lib.hid (HLqa.out.below hb)
  replace HB := Lib.hid (HB.out.trans (hb.mono HB.out.size))
  replace HWc := Lib.hid (HWc.out.trans (hb.mono HWc.out.size))
  clear hb
  go_wp2_with fail
  refine hK.out _ _ ?sr2_17_16 (fun hS => ?_)
  case sr2_17_16 => (exact HS0.out)
  clear hK K
  (try simp only [Act.put, List.setIfInBounds_toArray, List.set_cons_zero, List.set_cons_succ])
  refine wpAnyH_take (i := 17) (oi := ?o2_17_18) (v := ?v2_17_18) ?i2_17_18 (by kernel_rfl) (by kernel_rfl) (by kernel_rfl) (fun _ _ _ h => h) (Or.inl ⟨?g2_17_18, ?y2_17_18⟩) hS ?_
  case i2_17_18 => simp only [List.getElem?_toArray, List.getElem?_cons_succ, List.getElem?_cons_zero]; rfl
  case g2_17_18 => rfl
  case y2_17_18 => (intro w hSw; have jw := HJ.out; (go_simp <;> with_reducible rfl))
  (try simp only [Act.put, List.setIfInBounds_toArray, List.set_cons_zero, List.set_cons_succ])
  refine wpAnyH_take (i := 18) (oi := ?o2_18_19) (v := ?v2_18_19) ?i2_18_19 (by kernel_rfl) (by kernel_rfl) (by kernel_rfl) (fun _ _ _ h => h) (Or.inl ⟨?g2_18_19, ?y2_18_19⟩) hS ?_
  case i2_18_19 => simp only [List.getElem?_toArray, List.getElem?_cons_succ, List.getElem?_cons_zero]; rfl
  case g2_18_19 => rfl
  case y2_18_19 => (intro w hSw; have jw := HJ.out; (go_simp <;> with_reducible rfl))
  (try simp only [Act.put, List.setIfInBounds_toArray, List.set_cons_zero, List.set_cons_succ])
  refine wpAnyH_take (i := 19) (oi := ?o2_19_20) (v := ?v2_19_20) ?i2_19_20 (by kernel_rfl) (by kernel_rfl) (by kernel_rfl) (fun _ _ _ h => h) (Or.inl ⟨?g2_19_20, ?y2_19_20⟩) hS ?_
  case i2_19_20 => simp only [List.getElem?_toArray, List.getElem?_cons_succ, List.getElem?_cons_zero]; rfl
  case g2_19_20 => rfl
  case y2_19_20 => (intro w hSw; (go_simp <;> with_reducible rfl))
  (try simp only [Act.put, List.setIfInBounds_toArray, List.set_cons_zero, List.set_cons_succ])
  refine wpAnyH_done (by kernel_rfl) ?_ _
  refine NoPanic.normal ?_
  clear hS
  have K9 : Hid (Calls Try.prog 22 #[.agg #[.string (txt ka.name), .string (txt ka.key), .int .i64 ka.kind, .int .u64 (ka.num : Int), .string (txt ka.text), .slice Aka kf.len cka], .slice V N m, .agg #[.string (txt oa.name), .string (txt oa.key), .int .i64 oa.kind, .int .u64 (oa.num : Int), .string (txt oa.text), .slice Aoa of_.len coa]] v16 (RTreP (a, f) (.int .i64 0) v16)) := Lib.hid (by have h := set_q HC.out HB.out HLka.out HLoa.out (HV.out.below HB.out) HSZ.out.2.2.1 HSZ.out.1 HRK.out HLN.out _ (Below.refl _ _); rw [HO.out] at h; exact h.mono fun _ _ h => h.r)
  have ld0_0 := (HXka.out.cell 0).trans rfl
  have ld0_1 := (HXka.out.cell 1).trans rfl
  have ld0_2 := (HXka.out.cell 2).trans rfl
  have ld0_3 := (HXka.out.cell 3).trans rfl
  have ld0_4 := (HXka.out.cell 4).trans rfl
  have ld0_5 := (HXka.out.cell 5).trans rfl
  have ld1_0 := (HXoa.out.cell 0).trans rfl
  have ld1_1 := (HXoa.out.cell 1).trans rfl
  have ld1_2 := (HXoa.out.cell 2).trans rfl
  have ld1_3 := (HXoa.out.cell 3).trans rfl
  have ld1_4 := (HXoa.out.cell 4).trans rfl
  have ld1_5 := (HXoa.out.cell 5).trans rfl
  go_wp2_with fail
  refine K9.out.mono ?_
  intro r w21 hr
  obtain ⟨Ana, cna, rfl, hl, hb⟩ := hr.flat
  have hal : Below w21.heap.size w21 (w21.alloc (.cells #[.string (txt a.name), .string (txt a.key), .int .i64 a.kind, .int .u64 (a.num : Int), .string (txt a.text), .slice Ana f.len cna] 27)) := (Below.refl _ _).alloc (Nat.le_refl _) _
  have hb2 := hb.trans (hal.mono hb.size)
  replace HX := Lib.hid (HX.out.below hb2 HX.out.lt)
  replace HY := Lib.hid (HY.out.below hb2 HY.out.lt)
  replace HXoa := Lib.hid (HXoa.out.below hb2 HXoa.out.lt)
  replace HXma := Lib.hid (HXma.out.below hb2 HXma.out.lt)
  replace HXya := Lib.hid (HXya.out.below hb2 HXya.out.lt)
  replace HXka := Lib.hid (HXka.out.below hb2 HXka.out.lt)
  replace HXqa := Lib.hid (HXqa.out.below hb2 HXqa.out.lt)
  replace HLoa := Lib.hid (HLoa.out.below hb2)
  replace HLma := Lib.hid (HLma.out.below hb2)
  replace HLya := Lib.hid (HLya.out.below hb2)
  replace HLka := Lib.hid (HLka.out.below hb2)
  replace HLqa := Lib.hid (HLqa.out.below hb2)
  replace HB := Lib.hid (HB.out.trans (hb2.mono HB.out.size))
  have HXna := Lib.hid (Blk.new w21 27 #[.string (txt a.name), .string (txt a.key), .int .i64 a.kind, .int .u64 (a.num : Int), .string (txt a.text), .slice Ana f.len cna])
  have HLna : Hid (LieN (w21.alloc (.cells #[.string (txt a.name), .string (txt a.key), .int .i64 a.kind, .int .u64 (a.num : Int), .string (txt a.text), .slice Ana f.len cna] 27)) (ndC a (.slice Ana f.len cna)) (a, f)) := Lib.hid (hl.below hal)
  clear ld0_0 ld0_1 ld0_2 ld0_3 ld0_4 ld0_5 ld1_0 ld1_1 ld1_2 ld1_3 ld1_4 ld1_5 hr hl hb hal hb2
  have ld0_0 := (HXna.out.cell 0).trans rfl
  have ld0_1 := (HXna.out.cell 1).trans rfl
  have ld0_2 := (HXna.out.cell 2).trans rfl
  have ld0_3 := (HXna.out.cell 3).trans rfl
  have ld0_4 := (HXna.out.cell 4).trans rfl
  have ld0_5 := (HXna.out.cell 5).trans rfl
  have ld1_0 := (HX.out.cell 0).trans rfl
  have ld1_1 := (HX.out.cell 1).trans rfl
  have ld1_2 := (HX.out.cell 2).trans rfl
  have ld1_3 := (HX.out.cell 3).trans rfl
  have ld1_4 := (HX.out.cell 4).trans rfl
  have ld1_5 := (HX.out.cell 5).trans rfl
  go_wp2_with fail
  refine (rsame_eq HLna.out (HLX.out.below HB.out) HSZ.out.2.2.2.1).mono ?_
  rintro r w22 ⟨rfl, hb⟩
  replace HX := Lib.hid (HX.out.below hb HX.out.lt)
  replace HY := Lib.hid (HY.out.below hb HY.out.lt)
  replace HXoa := Lib.hid (HXoa.out.below hb HXoa.out.lt)
  replace HXma := Lib.hid (HXma.out.below hb HXma.out.lt)
  replace HXya := Lib.hid (HXya.out.below hb HXya.out.lt)
  replace HXka := Lib.hid (HXka.out.below hb HXka.out.lt)
  replace HXqa := Lib.hid (HXqa.out.below hb HXqa.out.lt)
  replace HXna := Lib.hid (HXna.out.below hb HXna.out.lt)
  replace HLoa := Lib.hid (HLoa.out.below hb)
  replace HLma := Lib.hid (HLma.out.below hb)
  replace HLya := Lib.hid (HLya.out.below hb)
  replace HLka := Lib.hid (HLka.out.below hb)
  replace HLqa := Lib.hid (HLqa.out.below hb)
  replace HLna := Lib.hid (HLna.out.below hb)
  replace HB := Lib.hid (HB.out.trans (hb.mono HB.out.size))
  clear ld0_0 ld0_1 ld0_2 ld0_3 ld0_4 ld0_5 ld1_0 ld1_1 ld1_2 ld1_3 ld1_4 ld1_5 hb
  go_wp2
  go_ret
  exact ⟨rfl, HB.out⟩
theorem treeBack_walk (a b : NdD) (f g : NdF) (A B : Option Addr) (c d : Nat) (l : List Stp) (V : Option Addr) (N m : Nat) (w : World) (hx : LieN w (ndC a (.slice A f.len c)) (a, f)) (hy : LieN w (ndC b (.slice B g.len d)) (b, g)) (hv : WayV w.heap.size w (.slice V N m) l) (hN : N = l.length) (hf : f.size ≤ 1000000) (hg : g.size ≤ 1000000) (C : TreC w) (HA : Awake9 w) :
    Calls Try.prog 5 #[.agg #[.string (txt a.name), .string (txt a.key), .int .i64 a.kind, .int .u64 (a.num : Int), .string (txt a.text), .slice A f.len c], .slice V N m, .agg #[.string (txt b.name), .string (txt b.key), .int .i64 b.kind, .int .u64 (b.num : Int), .string (txt b.text), .slice B g.len d]] w (Ans9 (.bool true) w) := by
  cases h1 : decide (f.size + 1 ≤ 300) with
  | false =>
    cases h2 : decide (g.size + 1 ≤ 300) with
    | false => exact treeBack_none a b f g A B c d l V N m w hx hy hv hN hf hg HA h1 h2
    | true => exact treeBack_two a b f g A B c d l V N m w hx hy hv hN hf hg HA h1 h2
  | true =>
    cases h2 : decide (g.size + 1 ≤ 300) with
    | false => exact treeBack_one a b f g A B c d l V N m w hx hy hv hN hf hg HA h1 h2
    | true =>
      by_cases hl : 20 < N
      · exact treeBack_long a b f g A B c d l V N m w hx hy hv hN hf hg HA h1 h2 hl
      · cases hr : rgtX (a, f) with
        | false => exact treeBack_wrong a b f g A B c d l V N m w hx hy hv hN hf hg HA h1 h2 hl hr
        | true =>
          cases hq : rgtX (b, g) with
          | false => exact treeBack_worse a b f g A B c d l V N m w hx hy hv hN hf hg HA h1 h2 hl hr hq
          | true =>
            by_cases he : (SetX (a, f) l (b, g)).2 = 0
            · have hok := SetX_ok.1 he
              have hne := ok_ne hok
              have hS : SetX (a, f) l (b, g) = (((setX (a, f) l (b, g)).1, (setX (a, f) l (b, g)).2), 0) := SetX_is hok
              have hm := set_get l (a, f) hok
              have hM : GetX (setX (a, f) l (b, g)) l = ((b, g), true) := by unfold GetX; rw [hm]
              have hRm := set_right hq l (a, f) hr hok
              have hK : CutX (setX (a, f) l (b, g)) l = (cutX (setX (a, f) l (b, g)) l, 0) := CutX_is hne hm
              have hQ : GetX (cutX (setX (a, f) l (b, g)) l) l = (noN, false) := by unfold GetX; rw [cut_get l _ _ hRm hne hm]
              have hRk := cut_right l _ _ hRm hne hm
              have hZ := cut_size l _ _ hne hm
              cases hg0 : getX (a, f) l with
              | none =>
                have hG : GetX (a, f) l = (noN, false) := by unfold GetX; rw [hg0]
                rw [set_cut_none l (a, f) hok hg0] at hK hQ hRk hZ
                exact treeBack_new a b f g A B c d l V N m w hx hy hv hN hf hg C HA h1 h2 hl hr hq _ _ _ _ _ _ hG hS hM hRm hK hQ hRk hZ
              | some old =>
                have hG : GetX (a, f) l = (old, true) := by unfold GetX; rw [hg0]
                have hcs := set_cut_some l (a, f) old hok hg0
                obtain ⟨h5, h6⟩ := cut_set l (a, f) old hr hne hg0
                have hO : SetX (cutX (setX (a, f) l (b, g)) l) l old = ((a, f), 0) := by rw [hcs, SetX_is h5, h6]
                exact treeBack_old a b f g A B c d l V N m w hx hy hv hN hf hg C HA h1 h2 hl hr hq _ _ _ _ _ _ _ _ hG hS hM hRm hK hQ hRk hZ hO
            · exact treeBack_err a b f g A B c d l V N m w hx hy hv hN hf hg C HA h1 h2 hl hr hq _ _ _ _ _ _ rfl rfl he
end Go.Proofs.Ytgipnemcmiohlaa

