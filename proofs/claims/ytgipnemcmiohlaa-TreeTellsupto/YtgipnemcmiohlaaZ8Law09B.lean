/- What the laws of package tree want of Law09B. -/
import Derived.Test.YtgipnemcmiohlaaZ8Law09A
namespace Go.Proofs.Ytgipnemcmiohlaa
open Go.RowKit
set_option linter.unusedSimpArgs false
set_option linter.unusedVariables false
set_option maxRecDepth 100000 in
set_option maxHeartbeats 4000000 in
theorem treeTells_none (a b : NdD) (f g : NdF) (A B : Option Addr) (c d : Nat) (w : World) (hx : LieN w (ndC a (.slice A f.len c)) (a, f)) (hy : LieN w (ndC b (.slice B g.len d)) (b, g)) (hf : f.size ≤ 1000000) (hg : g.size ≤ 1000000) (HA : Awake9 w) (h1 : decide (f.size + 1 ≤ 300) = false) (h2 : decide (g.size + 1 ≤ 300) = false) :
    Calls Try.prog 3 #[.agg #[.string (txt a.name), .string (txt a.key), .int .i64 a.kind, .int .u64 (a.num : Int), .string (txt a.text), .slice A f.len c], .agg #[.string (txt b.name), .string (txt b.key), .int .i64 b.kind, .int .u64 (b.num : Int), .string (txt b.text), .slice B g.len d]] w (Ans9 (.bool true) w) := by
  have hb2 : Blk ((w.alloc (.cells #[.string (txt a.name), .string (txt a.key), .int .i64 a.kind, .int .u64 (a.num : Int), .string (txt a.text), .slice A f.len c] 27)).alloc (.cells #[.string (txt b.name), .string (txt b.key), .int .i64 b.kind, .int .u64 (b.num : Int), .string (txt b.text), .slice B g.len d] 27)) (w.heap.size + 1) 27 #[.string (txt b.name), .string (txt b.key), .int .i64 b.kind, .int .u64 (b.num : Int), .string (txt b.text), .slice B g.len d] := by
    have h := Blk.new (w.alloc (.cells #[.string (txt a.name), .string (txt a.key), .int .i64 a.kind, .int .u64 (a.num : Int), .string (txt a.text), .slice A f.len c] 27)) 27 #[.string (txt b.name), .string (txt b.key), .int .i64 b.kind, .int .u64 (b.num : Int), .string (txt b.text), .slice B g.len d]
    rw [show (w.alloc (.cells #[.string (txt a.name), .string (txt a.key), .int .i64 a.kind, .int .u64 (a.num : Int), .string (txt a.text), .slice A f.len c] 27)).heap.size = w.heap.size + 1 by simp] at h
    exact h
  have HX := Lib.hid ((Blk.new w 27 #[.string (txt a.name), .string (txt a.key), .int .i64 a.kind, .int .u64 (a.num : Int), .string (txt a.text), .slice A f.len c]).alloc (.cells #[.string (txt b.name), .string (txt b.key), .int .i64 b.kind, .int .u64 (b.num : Int), .string (txt b.text), .slice B g.len d] 27))
  have HY := Lib.hid hb2
  have HB : Hid (Below w.heap.size w ((w.alloc (.cells #[.string (txt a.name), .string (txt a.key), .int .i64 a.kind, .int .u64 (a.num : Int), .string (txt a.text), .slice A f.len c] 27)).alloc (.cells #[.string (txt b.name), .string (txt b.key), .int .i64 b.kind, .int .u64 (b.num : Int), .string (txt b.text), .slice B g.len d] 27))) := Lib.hid (((Below.refl _ _).alloc (Nat.le_refl _) _).alloc (by simp) _)
  clear hb2
  have KA := Lib.hid HA
  have K1 : Hid (∀ W, Below w.heap.size w W → Calls Try.prog 9 #[.agg #[.string (txt a.name), .string (txt a.key), .int .i64 a.kind, .int .u64 (a.num : Int), .string (txt a.text), .slice A f.len c]] W (Ans9 (.bool false) W)) := Lib.hid (fun W hW => by have h := small_q hx hf W hW; rwa [h1] at h)
  have K2 : Hid (∀ W, Below w.heap.size w W → Calls Try.prog 9 #[.agg #[.string (txt b.name), .string (txt b.key), .int .i64 b.kind, .int .u64 (b.num : Int), .string (txt b.text), .slice B g.len d]] W (Ans9 (.bool false) W)) := Lib.hid (fun W hW => by have h := small_q hy hg W hW; rwa [h2] at h)
  clear HA hx hy hf hg h1 h2
  go_enter Try.func3, Try.ntmps3
  go_wp2_with fail
  refine (KA.out _ HB.out).mono ?_
  rintro r w1 ⟨rfl, hb⟩
  have HX1 := Lib.hid (HX.out.below hb HX.out.lt)
  have HY1 := Lib.hid (HY.out.below hb HY.out.lt)
  have HB1 := Lib.hid (HB.out.trans (hb.mono HB.out.size))
  clear hb
  have q0 := (HX1.out.cell 0).trans rfl
  have q1 := (HX1.out.cell 1).trans rfl
  have q2 := (HX1.out.cell 2).trans rfl
  have q3 := (HX1.out.cell 3).trans rfl
  have q4 := (HX1.out.cell 4).trans rfl
  have q5 := (HX1.out.cell 5).trans rfl
  go_wp2_with fail
  refine (K1.out _ HB1.out).mono ?_
  rintro r w2 ⟨rfl, hb⟩
  have HX2 := Lib.hid (HX1.out.below hb HX1.out.lt)
  have HY2 := Lib.hid (HY1.out.below hb HY1.out.lt)
  have HB2 := Lib.hid (HB1.out.trans (hb.mono HB1.out.size))
  clear hb
  have x0 := (HY2.out.cell 0).trans rfl
  have x1 := (HY2.out.cell 1).trans rfl
  have x2 := (HY2.out.cell 2).trans rfl
  have x3 := (HY2.out.cell 3).trans rfl
  have x4 := (HY2.out.cell 4).trans rfl
  have x5 := (HY2.out.cell 5).trans rfl
  go_wp2_with fail
  refine (K2.out _ HB2.out).mono ?_
  rintro r w3 ⟨rfl, hb⟩
  have HX3 := Lib.hid (HX2.out.below hb HX2.out.lt)
  have HY3 := Lib.hid (HY2.out.below hb HY2.out.lt)
  have HB3 := Lib.hid (HB2.out.trans (hb.mono HB2.out.size))
  clear hb
  clear q0 q1 q2 q3 q4 q5 x0 x1 x2 x3 x4 x5
  go_wp2
  go_ret
  exact ⟨rfl, HB3.out⟩
set_option maxRecDepth 100000 in
set_option maxHeartbeats 4000000 in
theorem treeTells_two (a b : NdD) (f g : NdF) (A B : Option Addr) (c d : Nat) (w : World) (hx : LieN w (ndC a (.slice A f.len c)) (a, f)) (hy : LieN w (ndC b (.slice B g.len d)) (b, g)) (hf : f.size ≤ 1000000) (hg : g.size ≤ 1000000) (HA : Awake9 w) (h1 : decide (f.size + 1 ≤ 300) = false) (h2 : decide (g.size + 1 ≤ 300) = true) :
    Calls Try.prog 3 #[.agg #[.string (txt a.name), .string (txt a.key), .int .i64 a.kind, .int .u64 (a.num : Int), .string (txt a.text), .slice A f.len c], .agg #[.string (txt b.name), .string (txt b.key), .int .i64 b.kind, .int .u64 (b.num : Int), .string (txt b.text), .slice B g.len d]] w (Ans9 (.bool true) w) := by
  have hb2 : Blk ((w.alloc (.cells #[.string (txt a.name), .string (txt a.key), .int .i64 a.kind, .int .u64 (a.num : Int), .string (txt a.text), .slice A f.len c] 27)).alloc (.cells #[.string (txt b.name), .string (txt b.key), .int .i64 b.kind, .int .u64 (b.num : Int), .string (txt b.text), .slice B g.len d] 27)) (w.heap.size + 1) 27 #[.string (txt b.name), .string (txt b.key), .int .i64 b.kind, .int .u64 (b.num : Int), .string (txt b.text), .slice B g.len d] := by
    have h := Blk.new (w.alloc (.cells #[.string (txt a.name), .string (txt a.key), .int .i64 a.kind, .int .u64 (a.num : Int), .string (txt a.text), .slice A f.len c] 27)) 27 #[.string (txt b.name), .string (txt b.key), .int .i64 b.kind, .int .u64 (b.num : Int), .string (txt b.text), .slice B g.len d]
    rw [show (w.alloc (.cells #[.string (txt a.name), .string (txt a.key), .int .i64 a.kind, .int .u64 (a.num : Int), .string (txt a.text), .slice A f.len c] 27)).heap.size = w.heap.size + 1 by simp] at h
    exact h
  have HX := Lib.hid ((Blk.new w 27 #[.string (txt a.name), .string (txt a.key), .int .i64 a.kind, .int .u64 (a.num : Int), .string (txt a.text), .slice A f.len c]).alloc (.cells #[.string (txt b.name), .string (txt b.key), .int .i64 b.kind, .int .u64 (b.num : Int), .string (txt b.text), .slice B g.len d] 27))
  have HY := Lib.hid hb2
  have HB : Hid (Below w.heap.size w ((w.alloc (.cells #[.string (txt a.name), .string (txt a.key), .int .i64 a.kind, .int .u64 (a.num : Int), .string (txt a.text), .slice A f.len c] 27)).alloc (.cells #[.string (txt b.name), .string (txt b.key), .int .i64 b.kind, .int .u64 (b.num : Int), .string (txt b.text), .slice B g.len d] 27))) := Lib.hid (((Below.refl _ _).alloc (Nat.le_refl _) _).alloc (by simp) _)
  clear hb2
  have KA := Lib.hid HA
  have K1 : Hid (∀ W, Below w.heap.size w W → Calls Try.prog 9 #[.agg #[.string (txt a.name), .string (txt a.key), .int .i64 a.kind, .int .u64 (a.num : Int), .string (txt a.text), .slice A f.len c]] W (Ans9 (.bool false) W)) := Lib.hid (fun W hW => by have h := small_q hx hf W hW; rwa [h1] at h)
  have K2 : Hid (∀ W, Below w.heap.size w W → Calls Try.prog 9 #[.agg #[.string (txt b.name), .string (txt b.key), .int .i64 b.kind, .int .u64 (b.num : Int), .string (txt b.text), .slice B g.len d]] W (Ans9 (.bool true) W)) := Lib.hid (fun W hW => by have h := small_q hy hg W hW; rwa [h2] at h)
  clear HA hx hy hf hg h1 h2
  go_enter Try.func3, Try.ntmps3
  go_wp2_with fail
  refine (KA.out _ HB.out).mono ?_
  rintro r w1 ⟨rfl, hb⟩
  have HX1 := Lib.hid (HX.out.below hb HX.out.lt)
  have HY1 := Lib.hid (HY.out.below hb HY.out.lt)
  have HB1 := Lib.hid (HB.out.trans (hb.mono HB.out.size))
  clear hb
  have q0 := (HX1.out.cell 0).trans rfl
  have q1 := (HX1.out.cell 1).trans rfl
  have q2 := (HX1.out.cell 2).trans rfl
  have q3 := (HX1.out.cell 3).trans rfl
  have q4 := (HX1.out.cell 4).trans rfl
  have q5 := (HX1.out.cell 5).trans rfl
  go_wp2_with fail
  refine (K1.out _ HB1.out).mono ?_
  rintro r w2 ⟨rfl, hb⟩
  have HX2 := Lib.hid (HX1.out.below hb HX1.out.lt)
  have HY2 := Lib.hid (HY1.out.below hb HY1.out.lt)
  have HB2 := Lib.hid (HB1.out.trans (hb.mono HB1.out.size))
  clear hb
  have x0 := (HY2.out.cell 0).trans rfl
  have x1 := (HY2.out.cell 1).trans rfl
  have x2 := (HY2.out.cell 2).trans rfl
  have x3 := (HY2.out.cell 3).trans rfl
  have x4 := (HY2.out.cell 4).trans rfl
  have x5 := (HY2.out.cell 5).trans rfl
  go_wp2_with fail
  refine (K2.out _ HB2.out).mono ?_
  rintro r w3 ⟨rfl, hb⟩
  have HX3 := Lib.hid (HX2.out.below hb HX2.out.lt)
  have HY3 := Lib.hid (HY2.out.below hb HY2.out.lt)
  have HB3 := Lib.hid (HB2.out.trans (hb.mono HB2.out.size))
  clear hb
  clear q0 q1 q2 q3 q4 q5 x0 x1 x2 x3 x4 x5
  go_wp2
  go_ret
  exact ⟨rfl, HB3.out⟩
set_option maxRecDepth 100000 in
set_option maxHeartbeats 4000000 in
theorem treeTells_one (a b : NdD) (f g : NdF) (A B : Option Addr) (c d : Nat) (w : World) (hx : LieN w (ndC a (.slice A f.len c)) (a, f)) (hy : LieN w (ndC b (.slice B g.len d)) (b, g)) (hf : f.size ≤ 1000000) (hg : g.size ≤ 1000000) (HA : Awake9 w) (h1 : decide (f.size + 1 ≤ 300) = true) (h2 : decide (g.size + 1 ≤ 300) = false) :
    Calls Try.prog 3 #[.agg #[.string (txt a.name), .string (txt a.key), .int .i64 a.kind, .int .u64 (a.num : Int), .string (txt a.text), .slice A f.len c], .agg #[.string (txt b.name), .string (txt b.key), .int .i64 b.kind, .int .u64 (b.num : Int), .string (txt b.text), .slice B g.len d]] w (Ans9 (.bool true) w) := by
  have hb2 : Blk ((w.alloc (.cells #[.string (txt a.name), .string (txt a.key), .int .i64 a.kind, .int .u64 (a.num : Int), .string (txt a.text), .slice A f.len c] 27)).alloc (.cells #[.string (txt b.name), .string (txt b.key), .int .i64 b.kind, .int .u64 (b.num : Int), .string (txt b.text), .slice B g.len d] 27)) (w.heap.size + 1) 27 #[.string (txt b.name), .string (txt b.key), .int .i64 b.kind, .int .u64 (b.num : Int), .string (txt b.text), .slice B g.len d] := by
    have h := Blk.new (w.alloc (.cells #[.string (txt a.name), .string (txt a.key), .int .i64 a.kind, .int .u64 (a.num : Int), .string (txt a.text), .slice A f.len c] 27)) 27 #[.string (txt b.name), .string (txt b.key), .int .i64 b.kind, .int .u64 (b.num : Int), .string (txt b.text), .slice B g.len d]
    rw [show (w.alloc (.cells #[.string (txt a.name), .string (txt a.key), .int .i64 a.kind, .int .u64 (a.num : Int), .string (txt a.text), .slice A f.len c] 27)).heap.size = w.heap.size + 1 by simp] at h
    exact h
  have HX := Lib.hid ((Blk.new w 27 #[.string (txt a.name), .string (txt a.key), .int .i64 a.kind, .int .u64 (a.num : Int), .string (txt a.text), .slice A f.len c]).alloc (.cells #[.string (txt b.name), .string (txt b.key), .int .i64 b.kind, .int .u64 (b.num : Int), .string (txt b.text), .slice B g.len d] 27))
  have HY := Lib.hid hb2
  have HB : Hid (Below w.heap.size w ((w.alloc (.cells #[.string (txt a.name), .string (txt a.key), .int .i64 a.kind, .int .u64 (a.num : Int), .string (txt a.text), .slice A f.len c] 27)).alloc (.cells #[.string (txt b.name), .string (txt b.key), .int .i64 b.kind, .int .u64 (b.num : Int), .string (txt b.text), .slice B g.len d] 27))) := Lib.hid (((Below.refl _ _).alloc (Nat.le_refl _) _).alloc (by simp) _)
  clear hb2
  have KA := Lib.hid HA
  have K1 : Hid (∀ W, Below w.heap.size w W → Calls Try.prog 9 #[.agg #[.string (txt a.name), .string (txt a.key), .int .i64 a.kind, .int .u64 (a.num : Int), .string (txt a.text), .slice A f.len c]] W (Ans9 (.bool true) W)) := Lib.hid (fun W hW => by have h := small_q hx hf W hW; rwa [h1] at h)
  have K2 : Hid (∀ W, Below w.heap.size w W → Calls Try.prog 9 #[.agg #[.string (txt b.name), .string (txt b.key), .int .i64 b.kind, .int .u64 (b.num : Int), .string (txt b.text), .slice B g.len d]] W (Ans9 (.bool false) W)) := Lib.hid (fun W hW => by have h := small_q hy hg W hW; rwa [h2] at h)
  clear HA hx hy hf hg h1 h2
  go_enter Try.func3, Try.ntmps3
  go_wp2_with fail
  refine (KA.out _ HB.out).mono ?_
  rintro r w1 ⟨rfl, hb⟩
  have HX1 := Lib.hid (HX.out.below hb HX.out.lt)
  have HY1 := Lib.hid (HY.out.below hb HY.out.lt)
  have HB1 := Lib.hid (HB.out.trans (hb.mono HB.out.size))
  clear hb
  have q0 := (HX1.out.cell 0).trans rfl
  have q1 := (HX1.out.cell 1).trans rfl
  have q2 := (HX1.out.cell 2).trans rfl
  have q3 := (HX1.out.cell 3).trans rfl
  have q4 := (HX1.out.cell 4).trans rfl
  have q5 := (HX1.out.cell 5).trans rfl
  go_wp2_with fail
  refine (K1.out _ HB1.out).mono ?_
  rintro r w2 ⟨rfl, hb⟩
  have HX2 := Lib.hid (HX1.out.below hb HX1.out.lt)
  have HY2 := Lib.hid (HY1.out.below hb HY1.out.lt)
  have HB2 := Lib.hid (HB1.out.trans (hb.mono HB1.out.size))
  clear hb
  have x0 := (HY2.out.cell 0).trans rfl
  have x1 := (HY2.out.cell 1).trans rfl
  have x2 := (HY2.out.cell 2).trans rfl
  have x3 := (HY2.out.cell 3).trans rfl
  have x4 := (HY2.out.cell 4).trans rfl
  have x5 := (HY2.out.cell 5).trans rfl
  go_wp2_with fail
  refine (K2.out _ HB2.out).mono ?_
  rintro r w3 ⟨rfl, hb⟩
  have HX3 := Lib.hid (HX2.out.below hb HX2.out.lt)
  have HY3 := Lib.hid (HY2.out.below hb HY2.out.lt)
  have HB3 := Lib.hid (HB2.out.trans (hb.mono HB2.out.size))
  clear hb
  clear q0 q1 q2 q3 q4 q5 x0 x1 x2 x3 x4 x5
  go_wp2
  go_ret
  exact ⟨rfl, HB3.out⟩
set_option maxRecDepth 100000 in
set_option maxHeartbeats 8000000 in
theorem treeTells_main (a b : NdD) (f g : NdF) (A B : Option Addr) (c d : Nat) (w : World) (hx : LieN w (ndC a (.slice A f.len c)) (a, f)) (hy : LieN w (ndC b (.slice B g.len d)) (b, g)) (hf : f.size ≤ 1000000) (hg : g.size ≤ 1000000) (C : TreC w) (HA : Awake9 w) (h1 : decide (f.size + 1 ≤ 300) = true) (h2 : decide (g.size + 1 ≤ 300) = true) :
    Calls Try.prog 3 #[.agg #[.string (txt a.name), .string (txt a.key), .int .i64 a.kind, .int .u64 (a.num : Int), .string (txt a.text), .slice A f.len c], .agg #[.string (txt b.name), .string (txt b.key), .int .i64 b.kind, .int .u64 (b.num : Int), .string (txt b.text), .slice B g.len d]] w (Ans9 (.bool true) w) := by
  have hb2 : Blk ((w.alloc (.cells #[.string (txt a.name), .string (txt a.key), .int .i64 a.kind, .int .u64 (a.num : Int), .string (txt a.text), .slice A f.len c] 27)).alloc (.cells #[.string (txt b.name), .string (txt b.key), .int .i64 b.kind, .int .u64 (b.num : Int), .string (txt b.text), .slice B g.len d] 27)) (w.heap.size + 1) 27 #[.string (txt b.name), .string (txt b.key), .int .i64 b.kind, .int .u64 (b.num : Int), .string (txt b.text), .slice B g.len d] := by
    have h := Blk.new (w.alloc (.cells #[.string (txt a.name), .string (txt a.key), .int .i64 a.kind, .int .u64 (a.num : Int), .string (txt a.text), .slice A f.len c] 27)) 27 #[.string (txt b.name), .string (txt b.key), .int .i64 b.kind, .int .u64 (b.num : Int), .string (txt b.text), .slice B g.len d]
    rw [show (w.alloc (.cells #[.string (txt a.name), .string (txt a.key), .int .i64 a.kind, .int .u64 (a.num : Int), .string (txt a.text), .slice A f.len c] 27)).heap.size = w.heap.size + 1 by simp] at h
    exact h
  have HX := Lib.hid ((Blk.new w 27 #[.string (txt a.name), .string (txt a.key), .int .i64 a.kind, .int .u64 (a.num : Int), .string (txt a.text), .slice A f.len c]).alloc (.cells #[.string (txt b.name), .string (txt b.key), .int .i64 b.kind, .int .u64 (b.num : Int), .string (txt b.text), .slice B g.len d] 27))
  have HY := Lib.hid hb2
  have HB : Hid (Below w.heap.size w ((w.alloc (.cells #[.string (txt a.name), .string (txt a.key), .int .i64 a.kind, .int .u64 (a.num : Int), .string (txt a.text), .slice A f.len c] 27)).alloc (.cells #[.string (txt b.name), .string (txt b.key), .int .i64 b.kind, .int .u64 (b.num : Int), .string (txt b.text), .slice B g.len d] 27))) := Lib.hid (((Below.refl _ _).alloc (Nat.le_refl _) _).alloc (by simp) _)
  clear hb2
  obtain ⟨R, hR⟩ : ∃ z, z = sortA .nil f := ⟨_, rfl⟩
  have hRs : R.size ≤ 1000000 := by rw [hR, sortA_size]; simp [Fr.size]; omega
  obtain ⟨rr, hrr⟩ : ∃ z, z = rgtX (a, f) := ⟨_, rfl⟩
  obtain ⟨ss, hss⟩ : ∃ z, z = decide (((a, f) : Nd) = (b, g)) := ⟨_, rfl⟩
  obtain ⟨ll, hll⟩ : ∃ z, z = lessX a b := ⟨_, rfl⟩
  obtain ⟨tt, htt⟩ : ∃ z, z = decide (((a, R) : Nd) = (a, f)) := ⟨_, rfl⟩
  obtain ⟨zz, hzz⟩ : ∃ z, z = sizeX (a, f) := ⟨_, rfl⟩
  have KA := Lib.hid HA
  have K1 : Hid (∀ W, Below w.heap.size w W → Calls Try.prog 9 #[.agg #[.string (txt a.name), .string (txt a.key), .int .i64 a.kind, .int .u64 (a.num : Int), .string (txt a.text), .slice A f.len c]] W (Ans9 (.bool true) W)) := Lib.hid (fun W hW => by have h := small_q hx hf W hW; rwa [h1] at h)
  have K2 : Hid (∀ W, Below w.heap.size w W → Calls Try.prog 9 #[.agg #[.string (txt b.name), .string (txt b.key), .int .i64 b.kind, .int .u64 (b.num : Int), .string (txt b.text), .slice B g.len d]] W (Ans9 (.bool true) W)) := Lib.hid (fun W hW => by have h := small_q hy hg W hW; rwa [h2] at h)
  have KS : Hid (∀ W, Below w.heap.size w W → Calls Try.prog 10 #[.agg #[.string (txt a.name), .string (txt a.key), .int .i64 a.kind, .int .u64 (a.num : Int), .string (txt a.text), .slice A f.len c]] W (RTreP1 (a, R) W)) := Lib.hid (fun W hW => (sort_q C (Below.refl _ _) hx hf W hW).mono fun _ _ h => by rw [← hR] at h; exact h.r)
  have KRS : Hid (∀ W, Below w.heap.size w W → Calls Try.prog 16 #[.agg #[.string (txt a.name), .string (txt a.key), .int .i64 a.kind, .int .u64 (a.num : Int), .string (txt a.text), .slice A f.len c]] W (RTreP1 (a, R) W)) := Lib.hid (fun W hW => by have h := rsort_q hx hf W hW; rwa [← hR] at h)
  have KR : Hid (∀ W, Below w.heap.size w W → Calls Try.prog 11 #[.agg #[.string (txt a.name), .string (txt a.key), .int .i64 a.kind, .int .u64 (a.num : Int), .string (txt a.text), .slice A f.len c]] W (Ans9 (.bool rr) W)) := Lib.hid (fun W hW => by rw [hrr]; exact right_q C (Below.refl _ _) hx hf W hW)
  have KRR : Hid (∀ W, Below w.heap.size w W → Calls Try.prog 12 #[.agg #[.string (txt a.name), .string (txt a.key), .int .i64 a.kind, .int .u64 (a.num : Int), .string (txt a.text), .slice A f.len c]] W (Ans9 (.bool rr) W)) := Lib.hid (fun W hW => by rw [hrr]; exact rright_q hx hf W hW)
  have KZ : Hid (∀ W, Below w.heap.size w W → Calls Try.prog 13 #[.agg #[.string (txt a.name), .string (txt a.key), .int .i64 a.kind, .int .u64 (a.num : Int), .string (txt a.text), .slice A f.len c]] W (Ans9 (.int .i64 (zz : Int)) W)) := Lib.hid (fun W hW => by rw [hzz]; exact size_q C (Below.refl _ _) hx hf W hW)
  have KRZ : Hid (∀ W, Below w.heap.size w W → Calls Try.prog 14 #[.agg #[.string (txt a.name), .string (txt a.key), .int .i64 a.kind, .int .u64 (a.num : Int), .string (txt a.text), .slice A f.len c]] W (Ans9 (.int .i64 (zz : Int)) W)) := Lib.hid (fun W hW => by rw [hzz]; exact rsize_q hx hf W hW)
  have KM : Hid (∀ W, Below w.heap.size w W → Calls Try.prog 17 #[.agg #[.string (txt a.name), .string (txt a.key), .int .i64 a.kind, .int .u64 (a.num : Int), .string (txt a.text), .slice A f.len c], .agg #[.string (txt b.name), .string (txt b.key), .int .i64 b.kind, .int .u64 (b.num : Int), .string (txt b.text), .slice B g.len d]] W (Ans9 (.bool ss) W)) := Lib.hid (fun W hW => by rw [hss]; exact same_q C (Below.refl _ _) hx hy hf hg W hW)
  have KRM : Hid (∀ W, Below w.heap.size w W → Calls Try.prog 15 #[.agg #[.string (txt a.name), .string (txt a.key), .int .i64 a.kind, .int .u64 (a.num : Int), .string (txt a.text), .slice A f.len c], .agg #[.string (txt b.name), .string (txt b.key), .int .i64 b.kind, .int .u64 (b.num : Int), .string (txt b.text), .slice B g.len d]] W (Ans9 (.bool ss) W)) := Lib.hid (fun W hW => by rw [hss]; exact rsame_q hx hy hf hg W hW)
  have KL : Hid (∀ W, Below w.heap.size w W → Calls Try.prog 18 #[.agg #[.string (txt a.name), .string (txt a.key), .int .i64 a.kind, .int .u64 (a.num : Int), .string (txt a.text), .slice A f.len c], .agg #[.string (txt b.name), .string (txt b.key), .int .i64 b.kind, .int .u64 (b.num : Int), .string (txt b.text), .slice B g.len d]] W (Ans9 (.bool ll) W)) := Lib.hid (fun W hW => by rw [hll]; exact less_q C (Below.refl _ _) hx hy W hW)
  have KRL : Hid (∀ W, Below w.heap.size w W → Calls Try.prog 19 #[.agg #[.string (txt a.name), .string (txt a.key), .int .i64 a.kind, .int .u64 (a.num : Int), .string (txt a.text), .slice A f.len c], .agg #[.string (txt b.name), .string (txt b.key), .int .i64 b.kind, .int .u64 (b.num : Int), .string (txt b.text), .slice B g.len d]] W (Ans9 (.bool ll) W)) := Lib.hid (fun W hW => by rw [hll]; exact rless_q hx hy W hW)
  have HC := Lib.hid C
  have HLX := Lib.hid hx
  have HSZ := Lib.hid (And.intro hf hRs)
  have HTT := Lib.hid htt
  clear HA hx hy hf hg h1 h2 C hR hRs hrr hss hll htt hzz
  go_enter Try.func3, Try.ntmps3
  go_wp2_with fail
  refine (KA.out _ HB.out).mono ?_
  rintro r w1 ⟨rfl, hb⟩
  have HX1 := Lib.hid (HX.out.below hb HX.out.lt)
  have HY1 := Lib.hid (HY.out.below hb HY.out.lt)
  have HB1 := Lib.hid (HB.out.trans (hb.mono HB.out.size))
  clear hb
  have q0 := (HX1.out.cell 0).trans rfl
  have q1 := (HX1.out.cell 1).trans rfl
  have q2 := (HX1.out.cell 2).trans rfl
  have q3 := (HX1.out.cell 3).trans rfl
  have q4 := (HX1.out.cell 4).trans rfl
  have q5 := (HX1.out.cell 5).trans rfl
  go_wp2_with fail
  refine (K1.out _ HB1.out).mono ?_
  rintro r w2 ⟨rfl, hb⟩
  have HX2 := Lib.hid (HX1.out.below hb HX1.out.lt)
  have HY2 := Lib.hid (HY1.out.below hb HY1.out.lt)
  have HB2 := Lib.hid (HB1.out.trans (hb.mono HB1.out.size))
  clear hb
  have x0 := (HY2.out.cell 0).trans rfl
  have x1 := (HY2.out.cell 1).trans rfl
  have x2 := (HY2.out.cell 2).trans rfl
  have x3 := (HY2.out.cell 3).trans rfl
  have x4 := (HY2.out.cell 4).trans rfl
  have x5 := (HY2.out.cell 5).trans rfl
  go_wp2_with fail
  refine (K2.out _ HB2.out).mono ?_
  rintro r w3 ⟨rfl, hb⟩
  have HX3 := Lib.hid (HX2.out.below hb HX2.out.lt)
  have HY3 := Lib.hid (HY2.out.below hb HY2.out.lt)
  have HB3 := Lib.hid (HB2.out.trans (hb.mono HB2.out.size))
  clear hb
  clear q0 q1 q2 q3 q4 q5 x0 x1 x2 x3 x4 x5
  have q0 := (HX3.out.cell 0).trans rfl
  have q1 := (HX3.out.cell 1).trans rfl
  have q2 := (HX3.out.cell 2).trans rfl
  have q3 := (HX3.out.cell 3).trans rfl
  have q4 := (HX3.out.cell 4).trans rfl
  have q5 := (HX3.out.cell 5).trans rfl
  go_wp2_with fail
  refine (KS.out _ HB3.out).mono ?_
  intro r w4 hr
  obtain ⟨A4, c4, rfl, hl4, hb⟩ := hr.flat
  clear q0 q1 q2 q3 q4 q5
  have HX4 := HX3.out.below hb HX3.out.lt
  have HY4 := HY3.out.below hb HY3.out.lt
  have HB4 := HB3.out.trans (hb.mono HB3.out.size)
  have hal : Below w4.heap.size w4 (w4.alloc (.cells #[.string (txt a.name), .string (txt a.key), .int .i64 a.kind, .int .u64 (a.num : Int), .string (txt a.text), .slice A4 R.len c4] 27)).drew := ((Below.refl _ _).alloc (Nat.le_refl _) _).drew
  have HBX := Lib.hid (And.intro (HX4.below hal HX4.lt) (And.intro (HY4.below hal HY4.lt) ((Blk.new w4 27 #[.string (txt a.name), .string (txt a.key), .int .i64 a.kind, .int .u64 (a.num : Int), .string (txt a.text), .slice A4 R.len c4]).below (Below.refl _ _).drew (Blk.new w4 27 #[.string (txt a.name), .string (txt a.key), .int .i64 a.kind, .int .u64 (a.num : Int), .string (txt a.text), .slice A4 R.len c4]).lt)))
  have HWc : Hid (Below w.heap.size w (w4.alloc (.cells #[.string (txt a.name), .string (txt a.key), .int .i64 a.kind, .int .u64 (a.num : Int), .string (txt a.text), .slice A4 R.len c4] 27)).drew) := Lib.hid (HB4.trans (hal.mono HB4.size))
  have HW4 := Lib.hid hal
  have KT : Hid (∀ W, Below w4.heap.size w4 W → Calls Try.prog 17 #[.agg #[.string (txt a.name), .string (txt a.key), .int .i64 a.kind, .int .u64 (a.num : Int), .string (txt a.text), .slice A4 R.len c4], .agg #[.string (txt a.name), .string (txt a.key), .int .i64 a.kind, .int .u64 (a.num : Int), .string (txt a.text), .slice A f.len c]] W (Ans9 (.bool tt) W)) := Lib.hid (fun W hW => by rw [HTT.out]; exact same_q HC.out HB4 hl4 (HLX.out.below HB4) HSZ.out.2 HSZ.out.1 W hW)
  have KRT : Hid (∀ W, Below w4.heap.size w4 W → Calls Try.prog 15 #[.agg #[.string (txt a.name), .string (txt a.key), .int .i64 a.kind, .int .u64 (a.num : Int), .string (txt a.text), .slice A4 R.len c4], .agg #[.string (txt a.name), .string (txt a.key), .int .i64 a.kind, .int .u64 (a.num : Int), .string (txt a.text), .slice A f.len c]] W (Ans9 (.bool tt) W)) := Lib.hid (fun W hW => by rw [HTT.out]; exact rsame_q hl4 (HLX.out.below HB4) HSZ.out.2 HSZ.out.1 W hW)
  have HL4 := Lib.hid hl4
  clear hr hl4 hb hal HX4 HY4 HB4 HX1 HX2 HX3 HY1 HY2 HY3 HB1 HB2 HB3
  go_wp2_with fail
  refine wp_region_noPanic ?_
  refine wp_region_held_drew (S := fun _ => True) (by kernel_rfl) trivial (fun hS => ?_)
  refine held_more (S' := fun w' => Blk w' w.heap.size 27 #[.string (txt a.name), .string (txt a.key), .int .i64 a.kind, .int .u64 (a.num : Int), .string (txt a.text), .slice A f.len c] ∧ Blk w' (w.heap.size + 1) 27 #[.string (txt b.name), .string (txt b.key), .int .i64 b.kind, .int .u64 (b.num : Int), .string (txt b.text), .slice B g.len d] ∧ Blk w' w4.heap.size 27 #[.string (txt a.name), .string (txt a.key), .int .i64 a.kind, .int .u64 (a.num : Int), .string (txt a.text), .slice A4 R.len c4]) (fun _ _ => trivial) _ _ _ _ ?_
  replace hS := HBX.out
  refine wpAnyH_take (i := 0) (oi := ?o1_0_1) (v := ?v1_0_1) ?i1_0_1 (by kernel_rfl) (by kernel_rfl) (by kernel_rfl) (fun _ _ _ h => h) (Or.inl ⟨?g1_0_1, ?y1_0_1⟩) hS ?_
  case i1_0_1 => simp only [List.getElem?_toArray, List.getElem?_cons_succ, List.getElem?_cons_zero]; rfl
  case g1_0_1 => rfl
  case y1_0_1 => (intro w hSw; have q0 := (hSw.1.cell 0).trans rfl; have q1 := (hSw.1.cell 1).trans rfl; have q2 := (hSw.1.cell 2).trans rfl; have q3 := (hSw.1.cell 3).trans rfl; have q4 := (hSw.1.cell 4).trans rfl; have q5 := (hSw.1.cell 5).trans rfl; (go_simp <;> with_reducible rfl))
  (try simp only [Act.put, List.setIfInBounds_toArray, List.set_cons_zero, List.set_cons_succ])
  refine wpAnyH_take (i := 2) (oi := ?o1_2_2) (v := ?v1_2_2) ?i1_2_2 (by kernel_rfl) (by kernel_rfl) (by kernel_rfl) (fun _ _ _ h => h) (Or.inl ⟨?g1_2_2, ?y1_2_2⟩) hS ?_
  case i1_2_2 => simp only [List.getElem?_toArray, List.getElem?_cons_succ, List.getElem?_cons_zero]; rfl
  case g1_2_2 => rfl
  case y1_2_2 => (intro w hSw; have q0 := (hSw.1.cell 0).trans rfl; have q1 := (hSw.1.cell 1).trans rfl; have q2 := (hSw.1.cell 2).trans rfl; have q3 := (hSw.1.cell 3).trans rfl; have q4 := (hSw.1.cell 4).trans rfl; have q5 := (hSw.1.cell 5).trans rfl; (go_simp <;> with_reducible rfl))
  (try simp only [Act.put, List.setIfInBounds_toArray, List.set_cons_zero, List.set_cons_succ])
  refine wpAnyH_ready (rs := [1]) (by kernel_rfl) (by simp) ?_
  refine (AllReadyH.cons (o := ?or1_3_1) ?ir1_3_1 (fun K hK => ?str1_3_1) AllReadyH.nil)
  case ir1_3_1 => simp only [List.getElem?_toArray, List.getElem?_cons_succ, List.getElem?_cons_zero]; rfl
  rw [if_pos (by rfl)]
  go_simp
  refine (KR.out _ HWc.out).mono ?_
  rintro r w1 ⟨rfl, hb⟩
  replace HBX := Lib.hid (And.intro (HBX.out.1.below hb HBX.out.1.lt) (And.intro (HBX.out.2.1.below hb HBX.out.2.1.lt) (HBX.out.2.2.below hb HBX.out.2.2.lt)))
  replace HWc := Lib.hid (HWc.out.trans (hb.mono HWc.out.size))
  replace HW4 := Lib.hid (HW4.out.trans (hb.mono HW4.out.size))
  clear hb
  go_wp2_with fail
  refine hK.out _ _ ?sr1_3_1 (fun hS => ?_)
  case sr1_3_1 => (exact HBX.out)
  clear hK K
  (try simp only [Act.put, List.setIfInBounds_toArray, List.set_cons_zero, List.set_cons_succ])
  refine wpAnyH_ready (rs := [3]) (by kernel_rfl) (by simp) ?_
  refine (AllReadyH.cons (o := ?or1_4_3) ?ir1_4_3 (fun K hK => ?str1_4_3) AllReadyH.nil)
  case ir1_4_3 => simp only [List.getElem?_toArray, List.getElem?_cons_succ, List.getElem?_cons_zero]; rfl
  rw [if_pos (by rfl)]
  go_simp
  refine (KRR.out _ HWc.out).mono ?_
  rintro r w3 ⟨rfl, hb⟩
  replace HBX := Lib.hid (And.intro (HBX.out.1.below hb HBX.out.1.lt) (And.intro (HBX.out.2.1.below hb HBX.out.2.1.lt) (HBX.out.2.2.below hb HBX.out.2.2.lt)))
  replace HWc := Lib.hid (HWc.out.trans (hb.mono HWc.out.size))
  replace HW4 := Lib.hid (HW4.out.trans (hb.mono HW4.out.size))
  clear hb
  go_wp2_with fail
  refine hK.out _ _ ?sr1_4_3 (fun hS => ?_)
  case sr1_4_3 => (exact HBX.out)
  clear hK K
  (try simp only [Act.put, List.setIfInBounds_toArray, List.set_cons_zero, List.set_cons_succ])
  refine wpAnyH_take (i := 4) (oi := ?o1_4_5) (v := ?v1_4_5) ?i1_4_5 (by kernel_rfl) (by kernel_rfl) (by kernel_rfl) (fun _ _ _ h => h) (Or.inl ⟨?g1_4_5, ?y1_4_5⟩) hS ?_
  case i1_4_5 => simp only [List.getElem?_toArray, List.getElem?_cons_succ, List.getElem?_cons_zero]; rfl
  case g1_4_5 => rfl
  case y1_4_5 => (intro w hSw; (go_simp <;> with_reducible rfl))
  (try simp only [Act.put, List.setIfInBounds_toArray, List.set_cons_zero, List.set_cons_succ])
  refine wpAnyH_take (i := 5) (oi := ?o1_5_6) (v := ?v1_5_6) ?i1_5_6 (by kernel_rfl) (by kernel_rfl) (by kernel_rfl) (fun _ _ _ h => h) (Or.inl ⟨?g1_5_6, ?y1_5_6⟩) hS ?_
  case i1_5_6 => simp only [List.getElem?_toArray, List.getElem?_cons_succ, List.getElem?_cons_zero]; rfl
  case g1_5_6 => rfl
  case y1_5_6 => (intro w hSw; (go_simp <;> with_reducible rfl))
  (try simp only [Act.put, List.setIfInBounds_toArray, List.set_cons_zero, List.set_cons_succ])
  refine wpAnyH_take (i := 6) (oi := ?o1_6_7) (v := ?v1_6_7) ?i1_6_7 (by kernel_rfl) (by kernel_rfl) (by kernel_rfl) (fun _ _ _ h => h) (Or.inl ⟨?g1_6_7, ?y1_6_7⟩) hS ?_
  case i1_6_7 => simp only [List.getElem?_toArray, List.getElem?_cons_succ, List.getElem?_cons_zero]; rfl
  case g1_6_7 => rfl
  case y1_6_7 => (intro w hSw; have q0 := (hSw.1.cell 0).trans rfl; have q1 := (hSw.1.cell 1).trans rfl; have q2 := (hSw.1.cell 2).trans rfl; have q3 := (hSw.1.cell 3).trans rfl; have q4 := (hSw.1.cell 4).trans rfl; have q5 := (hSw.1.cell 5).trans rfl; (go_simp <;> with_reducible rfl))
  (try simp only [Act.put, List.setIfInBounds_toArray, List.set_cons_zero, List.set_cons_succ])
  refine wpAnyH_take (i := 8) (oi := ?o1_8_8) (v := ?v1_8_8) ?i1_8_8 (by kernel_rfl) (by kernel_rfl) (by kernel_rfl) (fun _ _ _ h => h) (Or.inl ⟨?g1_8_8, ?y1_8_8⟩) hS ?_
  case i1_8_8 => simp only [List.getElem?_toArray, List.getElem?_cons_succ, List.getElem?_cons_zero]; rfl
  case g1_8_8 => rfl
  case y1_8_8 => (intro w hSw; have q0 := (hSw.1.cell 0).trans rfl; have q1 := (hSw.1.cell 1).trans rfl; have q2 := (hSw.1.cell 2).trans rfl; have q3 := (hSw.1.cell 3).trans rfl; have q4 := (hSw.1.cell 4).trans rfl; have q5 := (hSw.1.cell 5).trans rfl; (go_simp <;> with_reducible rfl))
  (try simp only [Act.put, List.setIfInBounds_toArray, List.set_cons_zero, List.set_cons_succ])
  refine wpAnyH_ready (rs := [7]) (by kernel_rfl) (by simp) ?_
  refine (AllReadyH.cons (o := ?or1_9_7) ?ir1_9_7 (fun K hK => ?str1_9_7) AllReadyH.nil)
  case ir1_9_7 => simp only [List.getElem?_toArray, List.getElem?_cons_succ, List.getElem?_cons_zero]; rfl
  rw [if_pos (by rfl)]
  go_simp
  refine (KZ.out _ HWc.out).mono ?_
  rintro r w7 ⟨rfl, hb⟩
  replace HBX := Lib.hid (And.intro (HBX.out.1.below hb HBX.out.1.lt) (And.intro (HBX.out.2.1.below hb HBX.out.2.1.lt) (HBX.out.2.2.below hb HBX.out.2.2.lt)))
  replace HWc := Lib.hid (HWc.out.trans (hb.mono HWc.out.size))
  replace HW4 := Lib.hid (HW4.out.trans (hb.mono HW4.out.size))
  clear hb
  go_wp2_with fail
  refine hK.out _ _ ?sr1_9_7 (fun hS => ?_)
  case sr1_9_7 => (exact HBX.out)
  clear hK K
  (try simp only [Act.put, List.setIfInBounds_toArray, List.set_cons_zero, List.set_cons_succ])
  refine wpAnyH_ready (rs := [9]) (by kernel_rfl) (by simp) ?_
  refine (AllReadyH.cons (o := ?or1_10_9) ?ir1_10_9 (fun K hK => ?str1_10_9) AllReadyH.nil)
  case ir1_10_9 => simp only [List.getElem?_toArray, List.getElem?_cons_succ, List.getElem?_cons_zero]; rfl
  rw [if_pos (by rfl)]
  go_simp
  refine (KRZ.out _ HWc.out).mono ?_
  rintro r w9 ⟨rfl, hb⟩
  replace HBX := Lib.hid (And.intro (HBX.out.1.below hb HBX.out.1.lt) (And.intro (HBX.out.2.1.below hb HBX.out.2.1.lt) (HBX.out.2.2.below hb HBX.out.2.2.lt)))
  replace HWc := Lib.hid (HWc.out.trans (hb.mono HWc.out.size))
  replace HW4 := Lib.hid (HW4.out.trans (hb.mono HW4.out.size))
  clear hb
  go_wp2_with fail
  refine hK.out _ _ ?sr1_10_9 (fun hS => ?_)
  case sr1_10_9 => (exact HBX.out)
  clear hK K
  (try simp only [Act.put, List.setIfInBounds_toArray, List.set_cons_zero, List.set_cons_succ])
  refine wpAnyH_take (i := 10) (oi := ?o1_10_11) (v := ?v1_10_11) ?i1_10_11 (by kernel_rfl) (by kernel_rfl) (by kernel_rfl) (fun _ _ _ h => h) (Or.inl ⟨?g1_10_11, ?y1_10_11⟩) hS ?_
  case i1_10_11 => simp only [List.getElem?_toArray, List.getElem?_cons_succ, List.getElem?_cons_zero]; rfl
  case g1_10_11 => rfl
  case y1_10_11 => (intro w hSw; (go_simp <;> with_reducible rfl))
  (try simp only [Act.put, List.setIfInBounds_toArray, List.set_cons_zero, List.set_cons_succ])
  refine wpAnyH_take (i := 11) (oi := ?o1_11_12) (v := ?v1_11_12) ?i1_11_12 (by kernel_rfl) (by kernel_rfl) (by kernel_rfl) (fun _ _ _ h => h) (Or.inl ⟨?g1_11_12, ?y1_11_12⟩) hS ?_
  case i1_11_12 => simp only [List.getElem?_toArray, List.getElem?_cons_succ, List.getElem?_cons_zero]; rfl
  case g1_11_12 => rfl
  case y1_11_12 => (intro w hSw; (go_simp <;> with_reducible rfl))
  (try simp only [Act.put, List.setIfInBounds_toArray, List.set_cons_zero, List.set_cons_succ])
  refine wpAnyH_take (i := 12) (oi := ?o1_12_13) (v := ?v1_12_13) ?i1_12_13 (by kernel_rfl) (by kernel_rfl) (by kernel_rfl) (fun _ _ _ h => h) (Or.inl ⟨?g1_12_13, ?y1_12_13⟩) hS ?_
  case i1_12_13 => simp only [List.getElem?_toArray, List.getElem?_cons_succ, List.getElem?_cons_zero]; rfl
  case g1_12_13 => rfl
  case y1_12_13 => (intro w hSw; (go_simp <;> with_reducible rfl))
  (try simp only [Act.put, List.setIfInBounds_toArray, List.set_cons_zero, List.set_cons_succ])
  refine wpAnyH_take (i := 13) (oi := ?o1_13_14) (v := ?v1_13_14) ?i1_13_14 (by kernel_rfl) (by kernel_rfl) (by kernel_rfl) (fun _ _ _ h => h) (Or.inl ⟨?g1_13_14, ?y1_13_14⟩) hS ?_
  case i1_13_14 => simp only [List.getElem?_toArray, List.getElem?_cons_succ, List.getElem?_cons_zero]; rfl
  case g1_13_14 => rfl
  case y1_13_14 => (intro w hSw; have q0 := (hSw.2.2.cell 0).trans rfl; have q1 := (hSw.2.2.cell 1).trans rfl; have q2 := (hSw.2.2.cell 2).trans rfl; have q3 := (hSw.2.2.cell 3).trans rfl; have q4 := (hSw.2.2.cell 4).trans rfl; have q5 := (hSw.2.2.cell 5).trans rfl; (go_simp <;> with_reducible rfl))
  (try simp only [Act.put, List.setIfInBounds_toArray, List.set_cons_zero, List.set_cons_succ])
  refine wpAnyH_take (i := 14) (oi := ?o1_14_15) (v := ?v1_14_15) ?i1_14_15 (by kernel_rfl) (by kernel_rfl) (by kernel_rfl) (fun _ _ _ h => h) (Or.inl ⟨?g1_14_15, ?y1_14_15⟩) hS ?_
  case i1_14_15 => simp only [List.getElem?_toArray, List.getElem?_cons_succ, List.getElem?_cons_zero]; rfl
  case g1_14_15 => rfl
  case y1_14_15 => (intro w hSw; have q0 := (hSw.1.cell 0).trans rfl; have q1 := (hSw.1.cell 1).trans rfl; have q2 := (hSw.1.cell 2).trans rfl; have q3 := (hSw.1.cell 3).trans rfl; have q4 := (hSw.1.cell 4).trans rfl; have q5 := (hSw.1.cell 5).trans rfl; (go_simp <;> with_reducible rfl))
  (try simp only [Act.put, List.setIfInBounds_toArray, List.set_cons_zero, List.set_cons_succ])
  refine wpAnyH_ready (rs := [15]) (by kernel_rfl) (by simp) ?_
  refine (AllReadyH.cons (o := ?or1_16_15) ?ir1_16_15 (fun K hK => ?str1_16_15) AllReadyH.nil)
  case ir1_16_15 => simp only [List.getElem?_toArray, List.getElem?_cons_succ, List.getElem?_cons_zero]; rfl
  rw [if_pos (by rfl)]
  go_simp
  refine (KRS.out _ HWc.out).mono ?_
  intro r w15 hr
  obtain ⟨A5, c5, rfl, hl5, hb⟩ := hr.flat
  replace HBX := Lib.hid (And.intro (HBX.out.1.below hb HBX.out.1.lt) (And.intro (HBX.out.2.1.below hb HBX.out.2.1.lt) (HBX.out.2.2.below hb HBX.out.2.2.lt)))
  replace HWc := Lib.hid (HWc.out.trans (hb.mono HWc.out.size))
  replace HW4 := Lib.hid (HW4.out.trans (hb.mono HW4.out.size))
  have KSS : Hid (∀ W, Below w15.heap.size w15 W → Calls Try.prog 15 #[.agg #[.string (txt a.name), .string (txt a.key), .int .i64 a.kind, .int .u64 (a.num : Int), .string (txt a.text), .slice A4 R.len c4], .agg #[.string (txt a.name), .string (txt a.key), .int .i64 a.kind, .int .u64 (a.num : Int), .string (txt a.text), .slice A5 R.len c5]] W (Ans9 (.bool true) W)) := Lib.hid (fun W hW => by
    have h := rsame_q (HL4.out.below HW4.out) hl5 HSZ.out.2 HSZ.out.2 W hW
    rwa [decide_eq_true rfl] at h)
  have HW15 := Lib.hid (Below.refl w15.heap.size w15)
  clear hr hl5 hb
  go_wp2_with fail
  refine hK.out _ _ ?sr1_16_15 (fun hS => ?_)
  case sr1_16_15 => (exact HBX.out)
  clear hK K
  (try simp only [Act.put, List.setIfInBounds_toArray, List.set_cons_zero, List.set_cons_succ])
  refine wpAnyH_ready (rs := [16]) (by kernel_rfl) (by simp) ?_
  refine (AllReadyH.cons (o := ?or1_17_16) ?ir1_17_16 (fun K hK => ?str1_17_16) AllReadyH.nil)
  case ir1_17_16 => simp only [List.getElem?_toArray, List.getElem?_cons_succ, List.getElem?_cons_zero]; rfl
  rw [if_pos (by rfl)]
  go_simp
  refine (KSS.out _ HW15.out).mono ?_
  rintro r w16 ⟨rfl, hb⟩
  replace HBX := Lib.hid (And.intro (HBX.out.1.below hb HBX.out.1.lt) (And.intro (HBX.out.2.1.below hb HBX.out.2.1.lt) (HBX.out.2.2.below hb HBX.out.2.2.lt)))
  replace HWc := Lib.hid (HWc.out.trans (hb.mono HWc.out.size))
  replace HW4 := Lib.hid (HW4.out.trans (hb.mono HW4.out.size))
  clear hb
  go_wp2_with fail
  refine hK.out _ _ ?sr1_17_16 (fun hS => ?_)
  case sr1_17_16 => (exact HBX.out)
  clear hK K
  (try simp only [Act.put, List.setIfInBounds_toArray, List.set_cons_zero, List.set_cons_succ])
  refine wpAnyH_take (i := 17) (oi := ?o1_17_18) (v := ?v1_17_18) ?i1_17_18 (by kernel_rfl) (by kernel_rfl) (by kernel_rfl) (fun _ _ _ h => h) (Or.inl ⟨?g1_17_18, ?y1_17_18⟩) hS ?_
  case i1_17_18 => simp only [List.getElem?_toArray, List.getElem?_cons_succ, List.getElem?_cons_zero]; rfl
  case g1_17_18 => rfl
  case y1_17_18 => (intro w hSw; (go_simp <;> with_reducible rfl))
  (try simp only [Act.put, List.setIfInBounds_toArray, List.set_cons_zero, List.set_cons_succ])
  refine wpAnyH_take (i := 18) (oi := ?o1_18_19) (v := ?v1_18_19) ?i1_18_19 (by kernel_rfl) (by kernel_rfl) (by kernel_rfl) (fun _ _ _ h => h) (Or.inl ⟨?g1_18_19, ?y1_18_19⟩) hS ?_
  case i1_18_19 => simp only [List.getElem?_toArray, List.getElem?_cons_succ, List.getElem?_cons_zero]; rfl
  case g1_18_19 => rfl
  case y1_18_19 => (intro w hSw; (go_simp <;> with_reducible rfl))
  (try simp only [Act.put, List.setIfInBounds_toArray, List.set_cons_zero, List.set_cons_succ])
  refine wpAnyH_take (i := 19) (oi := ?o1_19_20) (v := ?v1_19_20) ?i1_19_20 (by kernel_rfl) (by kernel_rfl) (by kernel_rfl) (fun _ _ _ h => h) (Or.inl ⟨?g1_19_20, ?y1_19_20⟩) hS ?_
  case i1_19_20 => simp only [List.getElem?_toArray, List.getElem?_cons_succ, List.getElem?_cons_zero]; rfl
  case g1_19_20 => rfl
  case y1_19_20 => (intro w hSw; have q0 := (hSw.1.cell 0).trans rfl; have q1 := (hSw.1.cell 1).trans rfl; have q2 := (hSw.1.cell 2).trans rfl; have q3 := (hSw.1.cell 3).trans rfl; have q4 := (hSw.1.cell 4).trans rfl; have q5 := (hSw.1.cell 5).trans rfl; (go_simp <;> with_reducible rfl))
  (try simp only [Act.put, List.setIfInBounds_toArray, List.set_cons_zero, List.set_cons_succ])
  refine wpAnyH_take (i := 20) (oi := ?o1_20_21) (v := ?v1_20_21) ?i1_20_21 (by kernel_rfl) (by kernel_rfl) (by kernel_rfl) (fun _ _ _ h => h) (Or.inl ⟨?g1_20_21, ?y1_20_21⟩) hS ?_
  case i1_20_21 => simp only [List.getElem?_toArray, List.getElem?_cons_succ, List.getElem?_cons_zero]; rfl
  case g1_20_21 => rfl
  case y1_20_21 => (intro w hSw; have q0 := (hSw.2.1.cell 0).trans rfl; have q1 := (hSw.2.1.cell 1).trans rfl; have q2 := (hSw.2.1.cell 2).trans rfl; have q3 := (hSw.2.1.cell 3).trans rfl; have q4 := (hSw.2.1.cell 4).trans rfl; have q5 := (hSw.2.1.cell 5).trans rfl; (go_simp <;> with_reducible rfl))
  (try simp only [Act.put, List.setIfInBounds_toArray, List.set_cons_zero, List.set_cons_succ])
  refine wpAnyH_take (i := 22) (oi := ?o1_22_22) (v := ?v1_22_22) ?i1_22_22 (by kernel_rfl) (by kernel_rfl) (by kernel_rfl) (fun _ _ _ h => h) (Or.inl ⟨?g1_22_22, ?y1_22_22⟩) hS ?_
  case i1_22_22 => simp only [List.getElem?_toArray, List.getElem?_cons_succ, List.getElem?_cons_zero]; rfl
  case g1_22_22 => rfl
  case y1_22_22 => (intro w hSw; have q0 := (hSw.1.cell 0).trans rfl; have q1 := (hSw.1.cell 1).trans rfl; have q2 := (hSw.1.cell 2).trans rfl; have q3 := (hSw.1.cell 3).trans rfl; have q4 := (hSw.1.cell 4).trans rfl; have q5 := (hSw.1.cell 5).trans rfl; (go_simp <;> with_reducible rfl))
  (try simp only [Act.put, List.setIfInBounds_toArray, List.set_cons_zero, List.set_cons_succ])
  refine wpAnyH_take (i := 23) (oi := ?o1_23_23) (v := ?v1_23_23) ?i1_23_23 (by kernel_rfl) (by kernel_rfl) (by kernel_rfl) (fun _ _ _ h => h) (Or.inl ⟨?g1_23_23, ?y1_23_23⟩) hS ?_
  case i1_23_23 => simp only [List.getElem?_toArray, List.getElem?_cons_succ, List.getElem?_cons_zero]; rfl
  case g1_23_23 => rfl
  case y1_23_23 => (intro w hSw; have q0 := (hSw.2.1.cell 0).trans rfl; have q1 := (hSw.2.1.cell 1).trans rfl; have q2 := (hSw.2.1.cell 2).trans rfl; have q3 := (hSw.2.1.cell 3).trans rfl; have q4 := (hSw.2.1.cell 4).trans rfl; have q5 := (hSw.2.1.cell 5).trans rfl; (go_simp <;> with_reducible rfl))
  (try simp only [Act.put, List.setIfInBounds_toArray, List.set_cons_zero, List.set_cons_succ])
  refine wpAnyH_ready (rs := [21]) (by kernel_rfl) (by simp) ?_
  refine (AllReadyH.cons (o := ?or1_24_21) ?ir1_24_21 (fun K hK => ?str1_24_21) AllReadyH.nil)
  case ir1_24_21 => simp only [List.getElem?_toArray, List.getElem?_cons_succ, List.getElem?_cons_zero]; rfl
  rw [if_pos (by rfl)]
  go_simp
  refine (KM.out _ HWc.out).mono ?_
  rintro r w21 ⟨rfl, hb⟩
  replace HBX := Lib.hid (And.intro (HBX.out.1.below hb HBX.out.1.lt) (And.intro (HBX.out.2.1.below hb HBX.out.2.1.lt) (HBX.out.2.2.below hb HBX.out.2.2.lt)))
  replace HWc := Lib.hid (HWc.out.trans (hb.mono HWc.out.size))
  replace HW4 := Lib.hid (HW4.out.trans (hb.mono HW4.out.size))
  clear hb
  go_wp2_with fail
  refine hK.out _ _ ?sr1_24_21 (fun hS => ?_)
  case sr1_24_21 => (exact HBX.out)
  clear hK K
  (try simp only [Act.put, List.setIfInBounds_toArray, List.set_cons_zero, List.set_cons_succ])
  refine wpAnyH_ready (rs := [24]) (by kernel_rfl) (by simp) ?_
  refine (AllReadyH.cons (o := ?or1_25_24) ?ir1_25_24 (fun K hK => ?str1_25_24) AllReadyH.nil)
  case ir1_25_24 => simp only [List.getElem?_toArray, List.getElem?_cons_succ, List.getElem?_cons_zero]; rfl
  rw [if_pos (by rfl)]
  go_simp
  refine (KRM.out _ HWc.out).mono ?_
  rintro r w24 ⟨rfl, hb⟩
  replace HBX := Lib.hid (And.intro (HBX.out.1.below hb HBX.out.1.lt) (And.intro (HBX.out.2.1.below hb HBX.out.2.1.lt) (HBX.out.2.2.below hb HBX.out.2.2.lt)))
  replace HWc := Lib.hid (HWc.out.trans (hb.mono HWc.out.size))
  replace HW4 := Lib.hid (HW4.out.trans (hb.mono HW4.out.size))
  clear hb
  go_wp2_with fail
  refine hK.out _ _ ?sr1_25_24 (fun hS => ?_)
  case sr1_25_24 => (exact HBX.out)
  clear hK K
  (try simp only [Act.put, List.setIfInBounds_toArray, List.set_cons_zero, List.set_cons_succ])
  refine wpAnyH_take (i := 25) (oi := ?o1_25_26) (v := ?v1_25_26) ?i1_25_26 (by kernel_rfl) (by kernel_rfl) (by kernel_rfl) (fun _ _ _ h => h) (Or.inl ⟨?g1_25_26, ?y1_25_26⟩) hS ?_
  case i1_25_26 => simp only [List.getElem?_toArray, List.getElem?_cons_succ, List.getElem?_cons_zero]; rfl
  case g1_25_26 => rfl
  case y1_25_26 => (intro w hSw; (go_simp <;> with_reducible rfl))
  (try simp only [Act.put, List.setIfInBounds_toArray, List.set_cons_zero, List.set_cons_succ])
  refine wpAnyH_take (i := 26) (oi := ?o1_26_27) (v := ?v1_26_27) ?i1_26_27 (by kernel_rfl) (by kernel_rfl) (by kernel_rfl) (fun _ _ _ h => h) (Or.inl ⟨?g1_26_27, ?y1_26_27⟩) hS ?_
  case i1_26_27 => simp only [List.getElem?_toArray, List.getElem?_cons_succ, List.getElem?_cons_zero]; rfl
  case g1_26_27 => rfl
  case y1_26_27 => (intro w hSw; (go_simp <;> with_reducible rfl))
  (try simp only [Act.put, List.setIfInBounds_toArray, List.set_cons_zero, List.set_cons_succ])
  refine wpAnyH_take (i := 27) (oi := ?o1_27_28) (v := ?v1_27_28) ?i1_27_28 (by kernel_rfl) (by kernel_rfl) (by kernel_rfl) (fun _ _ _ h => h) (Or.inl ⟨?g1_27_28, ?y1_27_28⟩) hS ?_
  case i1_27_28 => simp only [List.getElem?_toArray, List.getElem?_cons_succ, List.getElem?_cons_zero]; rfl
  case g1_27_28 => rfl
  case y1_27_28 => (intro w hSw; (go_simp <;> with_reducible rfl))
  (try simp only [Act.put, List.setIfInBounds_toArray, List.set_cons_zero, List.set_cons_succ])
  refine wpAnyH_take (i := 28) (oi := ?o1_28_29) (v := ?v1_28_29) ?i1_28_29 (by kernel_rfl) (by kernel_rfl) (by kernel_rfl) (fun _ _ _ h => h) (Or.inl ⟨?g1_28_29, ?y1_28_29⟩) hS ?_
  case i1_28_29 => simp only [List.getElem?_toArray, List.getElem?_cons_succ, List.getElem?_cons_zero]; rfl
  case g1_28_29 => rfl
  case y1_28_29 => (intro w hSw; have q0 := (hSw.1.cell 0).trans rfl; have q1 := (hSw.1.cell 1).trans rfl; have q2 := (hSw.1.cell 2).trans rfl; have q3 := (hSw.1.cell 3).trans rfl; have q4 := (hSw.1.cell 4).trans rfl; have q5 := (hSw.1.cell 5).trans rfl; (go_simp <;> with_reducible rfl))
  (try simp only [Act.put, List.setIfInBounds_toArray, List.set_cons_zero, List.set_cons_succ])
  refine wpAnyH_take (i := 29) (oi := ?o1_29_30) (v := ?v1_29_30) ?i1_29_30 (by kernel_rfl) (by kernel_rfl) (by kernel_rfl) (fun _ _ _ h => h) (Or.inl ⟨?g1_29_30, ?y1_29_30⟩) hS ?_
  case i1_29_30 => simp only [List.getElem?_toArray, List.getElem?_cons_succ, List.getElem?_cons_zero]; rfl
  case g1_29_30 => rfl
  case y1_29_30 => (intro w hSw; have q0 := (hSw.2.1.cell 0).trans rfl; have q1 := (hSw.2.1.cell 1).trans rfl; have q2 := (hSw.2.1.cell 2).trans rfl; have q3 := (hSw.2.1.cell 3).trans rfl; have q4 := (hSw.2.1.cell 4).trans rfl; have q5 := (hSw.2.1.cell 5).trans rfl; (go_simp <;> with_reducible rfl))
  (try simp only [Act.put, List.setIfInBounds_toArray, List.set_cons_zero, List.set_cons_succ])
  refine wpAnyH_take (i := 31) (oi := ?o1_31_31) (v := ?v1_31_31) ?i1_31_31 (by kernel_rfl) (by kernel_rfl) (by kernel_rfl) (fun _ _ _ h => h) (Or.inl ⟨?g1_31_31, ?y1_31_31⟩) hS ?_
  case i1_31_31 => simp only [List.getElem?_toArray, List.getElem?_cons_succ, List.getElem?_cons_zero]; rfl
  case g1_31_31 => rfl
  case y1_31_31 => (intro w hSw; have q0 := (hSw.1.cell 0).trans rfl; have q1 := (hSw.1.cell 1).trans rfl; have q2 := (hSw.1.cell 2).trans rfl; have q3 := (hSw.1.cell 3).trans rfl; have q4 := (hSw.1.cell 4).trans rfl; have q5 := (hSw.1.cell 5).trans rfl; (go_simp <;> with_reducible rfl))
  (try simp only [Act.put, List.setIfInBounds_toArray, List.set_cons_zero, List.set_cons_succ])
  refine wpAnyH_take (i := 32) (oi := ?o1_32_32) (v := ?v1_32_32) ?i1_32_32 (by kernel_rfl) (by kernel_rfl) (by kernel_rfl) (fun _ _ _ h => h) (Or.inl ⟨?g1_32_32, ?y1_32_32⟩) hS ?_
  case i1_32_32 => simp only [List.getElem?_toArray, List.getElem?_cons_succ, List.getElem?_cons_zero]; rfl
  case g1_32_32 => rfl
  case y1_32_32 => (intro w hSw; have q0 := (hSw.2.1.cell 0).trans rfl; have q1 := (hSw.2.1.cell 1).trans rfl; have q2 := (hSw.2.1.cell 2).trans rfl; have q3 := (hSw.2.1.cell 3).trans rfl; have q4 := (hSw.2.1.cell 4).trans rfl; have q5 := (hSw.2.1.cell 5).trans rfl; (go_simp <;> with_reducible rfl))
  (try simp only [Act.put, List.setIfInBounds_toArray, List.set_cons_zero, List.set_cons_succ])
  refine wpAnyH_ready (rs := [30]) (by kernel_rfl) (by simp) ?_
  refine (AllReadyH.cons (o := ?or1_33_30) ?ir1_33_30 (fun K hK => ?str1_33_30) AllReadyH.nil)
  case ir1_33_30 => simp only [List.getElem?_toArray, List.getElem?_cons_succ, List.getElem?_cons_zero]; rfl
  rw [if_pos (by rfl)]
  go_simp
  refine (KL.out _ HWc.out).mono ?_
  rintro r w30 ⟨rfl, hb⟩
  replace HBX := Lib.hid (And.intro (HBX.out.1.below hb HBX.out.1.lt) (And.intro (HBX.out.2.1.below hb HBX.out.2.1.lt) (HBX.out.2.2.below hb HBX.out.2.2.lt)))
  replace HWc := Lib.hid (HWc.out.trans (hb.mono HWc.out.size))
  replace HW4 := Lib.hid (HW4.out.trans (hb.mono HW4.out.size))
  clear hb
  go_wp2_with fail
  refine hK.out _ _ ?sr1_33_30 (fun hS => ?_)
  case sr1_33_30 => (exact HBX.out)
  clear hK K
  (try simp only [Act.put, List.setIfInBounds_toArray, List.set_cons_zero, List.set_cons_succ])
  refine wpAnyH_ready (rs := [33]) (by kernel_rfl) (by simp) ?_
  refine (AllReadyH.cons (o := ?or1_34_33) ?ir1_34_33 (fun K hK => ?str1_34_33) AllReadyH.nil)
  case ir1_34_33 => simp only [List.getElem?_toArray, List.getElem?_cons_succ, List.getElem?_cons_zero]; rfl
  rw [if_pos (by rfl)]
  go_simp
  refine (KRL.out _ HWc.out).mono ?_
  rintro r w33 ⟨rfl, hb⟩
  replace HBX := Lib.hid (And.intro (HBX.out.1.below hb HBX.out.1.lt) (And.intro (HBX.out.2.1.below hb HBX.out.2.1.lt) (HBX.out.2.2.below hb HBX.out.2.2.lt)))
  replace HWc := Lib.hid (HWc.out.trans (hb.mono HWc.out.size))
  replace HW4 := Lib.hid (HW4.out.trans (hb.mono HW4.out.size))
  clear hb
  go_wp2_with fail
  refine hK.out _ _ ?sr1_34_33 (fun hS => ?_)
  case sr1_34_33 => (exact HBX.out)
  clear hK K
  (try simp only [Act.put, List.setIfInBounds_toArray, List.set_cons_zero, List.set_cons_succ])
  refine wpAnyH_take (i := 34) (oi := ?o1_34_35) (v := ?v1_34_35) ?i1_34_35 (by kernel_rfl) (by kernel_rfl) (by kernel_rfl) (fun _ _ _ h => h) (Or.inl ⟨?g1_34_35, ?y1_34_35⟩) hS ?_
  case i1_34_35 => simp only [List.getElem?_toArray, List.getElem?_cons_succ, List.getElem?_cons_zero]; rfl
  case g1_34_35 => rfl
  case y1_34_35 => (intro w hSw; (go_simp <;> with_reducible rfl))
  (try simp only [Act.put, List.setIfInBounds_toArray, List.set_cons_zero, List.set_cons_succ])
  refine wpAnyH_take (i := 35) (oi := ?o1_35_36) (v := ?v1_35_36) ?i1_35_36 (by kernel_rfl) (by kernel_rfl) (by kernel_rfl) (fun _ _ _ h => h) (Or.inl ⟨?g1_35_36, ?y1_35_36⟩) hS ?_
  case i1_35_36 => simp only [List.getElem?_toArray, List.getElem?_cons_succ, List.getElem?_cons_zero]; rfl
  case g1_35_36 => rfl
  case y1_35_36 => (intro w hSw; (go_simp <;> with_reducible rfl))
  (try simp only [Act.put, List.setIfInBounds_toArray, List.set_cons_zero, List.set_cons_succ])
  refine wpAnyH_take (i := 36) (oi := ?o1_36_37) (v := ?v1_36_37) ?i1_36_37 (by kernel_rfl) (by kernel_rfl) (by kernel_rfl) (fun _ _ _ h => h) (Or.inl ⟨?g1_36_37, ?y1_36_37⟩) hS ?_
  case i1_36_37 => simp only [List.getElem?_toArray, List.getElem?_cons_succ, List.getElem?_cons_zero]; rfl
  case g1_36_37 => rfl
  case y1_36_37 => (intro w hSw; (go_simp <;> with_reducible rfl))
  (try simp only [Act.put, List.setIfInBounds_toArray, List.set_cons_zero, List.set_cons_succ])
  refine wpAnyH_take (i := 37) (oi := ?o1_37_38) (v := ?v1_37_38) ?i1_37_38 (by kernel_rfl) (by kernel_rfl) (by kernel_rfl) (fun _ _ _ h => h) (Or.inl ⟨?g1_37_38, ?y1_37_38⟩) hS ?_
  case i1_37_38 => simp only [List.getElem?_toArray, List.getElem?_cons_succ, List.getElem?_cons_zero]; rfl
  case g1_37_38 => rfl
  case y1_37_38 => (intro w hSw; have q0 := (hSw.2.2.cell 0).trans rfl; have q1 := (hSw.2.2.cell 1).trans rfl; have q2 := (hSw.2.2.cell 2).trans rfl; have q3 := (hSw.2.2.cell 3).trans rfl; have q4 := (hSw.2.2.cell 4).trans rfl; have q5 := (hSw.2.2.cell 5).trans rfl; (go_simp <;> with_reducible rfl))
  (try simp only [Act.put, List.setIfInBounds_toArray, List.set_cons_zero, List.set_cons_succ])
  refine wpAnyH_take (i := 38) (oi := ?o1_38_39) (v := ?v1_38_39) ?i1_38_39 (by kernel_rfl) (by kernel_rfl) (by kernel_rfl) (fun _ _ _ h => h) (Or.inl ⟨?g1_38_39, ?y1_38_39⟩) hS ?_
  case i1_38_39 => simp only [List.getElem?_toArray, List.getElem?_cons_succ, List.getElem?_cons_zero]; rfl
  case g1_38_39 => rfl
  case y1_38_39 => (intro w hSw; have q0 := (hSw.1.cell 0).trans rfl; have q1 := (hSw.1.cell 1).trans rfl; have q2 := (hSw.1.cell 2).trans rfl; have q3 := (hSw.1.cell 3).trans rfl; have q4 := (hSw.1.cell 4).trans rfl; have q5 := (hSw.1.cell 5).trans rfl; (go_simp <;> with_reducible rfl))
  (try simp only [Act.put, List.setIfInBounds_toArray, List.set_cons_zero, List.set_cons_succ])
  refine wpAnyH_take (i := 40) (oi := ?o1_40_40) (v := ?v1_40_40) ?i1_40_40 (by kernel_rfl) (by kernel_rfl) (by kernel_rfl) (fun _ _ _ h => h) (Or.inl ⟨?g1_40_40, ?y1_40_40⟩) hS ?_
  case i1_40_40 => simp only [List.getElem?_toArray, List.getElem?_cons_succ, List.getElem?_cons_zero]; rfl
  case g1_40_40 => rfl
  case y1_40_40 => (intro w hSw; have q0 := (hSw.2.2.cell 0).trans rfl; have q1 := (hSw.2.2.cell 1).trans rfl; have q2 := (hSw.2.2.cell 2).trans rfl; have q3 := (hSw.2.2.cell 3).trans rfl; have q4 := (hSw.2.2.cell 4).trans rfl; have q5 := (hSw.2.2.cell 5).trans rfl; (go_simp <;> with_reducible rfl))
  (try simp only [Act.put, List.setIfInBounds_toArray, List.set_cons_zero, List.set_cons_succ])
  refine wpAnyH_take (i := 41) (oi := ?o1_41_41) (v := ?v1_41_41) ?i1_41_41 (by kernel_rfl) (by kernel_rfl) (by kernel_rfl) (fun _ _ _ h => h) (Or.inl ⟨?g1_41_41, ?y1_41_41⟩) hS ?_
  case i1_41_41 => simp only [List.getElem?_toArray, List.getElem?_cons_succ, List.getElem?_cons_zero]; rfl
  case g1_41_41 => rfl
  case y1_41_41 => (intro w hSw; have q0 := (hSw.1.cell 0).trans rfl; have q1 := (hSw.1.cell 1).trans rfl; have q2 := (hSw.1.cell 2).trans rfl; have q3 := (hSw.1.cell 3).trans rfl; have q4 := (hSw.1.cell 4).trans rfl; have q5 := (hSw.1.cell 5).trans rfl; (go_simp <;> with_reducible rfl))
  (try simp only [Act.put, List.setIfInBounds_toArray, List.set_cons_zero, List.set_cons_succ])
  refine wpAnyH_ready (rs := [39]) (by kernel_rfl) (by simp) ?_
  refine (AllReadyH.cons (o := ?or1_42_39) ?ir1_42_39 (fun K hK => ?str1_42_39) AllReadyH.nil)
  case ir1_42_39 => simp only [List.getElem?_toArray, List.getElem?_cons_succ, List.getElem?_cons_zero]; rfl
  rw [if_pos (by rfl)]
  go_simp
  refine (KT.out _ HW4.out).mono ?_
  rintro r w39 ⟨rfl, hb⟩
  replace HBX := Lib.hid (And.intro (HBX.out.1.below hb HBX.out.1.lt) (And.intro (HBX.out.2.1.below hb HBX.out.2.1.lt) (HBX.out.2.2.below hb HBX.out.2.2.lt)))
  replace HWc := Lib.hid (HWc.out.trans (hb.mono HWc.out.size))
  replace HW4 := Lib.hid (HW4.out.trans (hb.mono HW4.out.size))
  clear hb
  go_wp2_with fail
  refine hK.out _ _ ?sr1_42_39 (fun hS => ?_)
  case sr1_42_39 => (exact HBX.out)
  clear hK K
  (try simp only [Act.put, List.setIfInBounds_toArray, List.set_cons_zero, List.set_cons_succ])
  refine wpAnyH_ready (rs := [42]) (by kernel_rfl) (by simp) ?_
  refine (AllReadyH.cons (o := ?or1_43_42) ?ir1_43_42 (fun K hK => ?str1_43_42) AllReadyH.nil)
  case ir1_43_42 => simp only [List.getElem?_toArray, List.getElem?_cons_succ, List.getElem?_cons_zero]; rfl
  rw [if_pos (by rfl)]
  go_simp
  refine (KRT.out _ HW4.out).mono ?_
  rintro r w42 ⟨rfl, hb⟩
  replace HBX := Lib.hid (And.intro (HBX.out.1.below hb HBX.out.1.lt) (And.intro (HBX.out.2.1.below hb HBX.out.2.1.lt) (HBX.out.2.2.below hb HBX.out.2.2.lt)))
  replace HWc := Lib.hid (HWc.out.trans (hb.mono HWc.out.size))
  replace HW4 := Lib.hid (HW4.out.trans (hb.mono HW4.out.size))
  clear hb
  go_wp2_with fail
  refine hK.out _ _ ?sr1_43_42 (fun hS => ?_)
  case sr1_43_42 => (exact HBX.out)
  clear hK K
  (try simp only [Act.put, List.setIfInBounds_toArray, List.set_cons_zero, List.set_cons_succ])
  refine wpAnyH_take (i := 43) (oi := ?o1_43_44) (v := ?v1_43_44) ?i1_43_44 (by kernel_rfl) (by kernel_rfl) (by kernel_rfl) (fun _ _ _ h => h) (Or.inl ⟨?g1_43_44, ?y1_43_44⟩) hS ?_
  case i1_43_44 => simp only [List.getElem?_toArray, List.getElem?_cons_succ, List.getElem?_cons_zero]; rfl
  case g1_43_44 => rfl
  case y1_43_44 => (intro w hSw; (go_simp <;> with_reducible rfl))
  (try simp only [Act.put, List.setIfInBounds_toArray, List.set_cons_zero, List.set_cons_succ])
  refine wpAnyH_take (i := 44) (oi := ?o1_44_45) (v := ?v1_44_45) ?i1_44_45 (by kernel_rfl) (by kernel_rfl) (by kernel_rfl) (fun _ _ _ h => h) (Or.inl ⟨?g1_44_45, ?y1_44_45⟩) hS ?_
  case i1_44_45 => simp only [List.getElem?_toArray, List.getElem?_cons_succ, List.getElem?_cons_zero]; rfl
  case g1_44_45 => rfl
  case y1_44_45 => (intro w hSw; (go_simp <;> with_reducible rfl))
  (try simp only [Act.put, List.setIfInBounds_toArray, List.set_cons_zero, List.set_cons_succ])
  refine wpAnyH_take (i := 45) (oi := ?o1_45_46) (v := ?v1_45_46) ?i1_45_46 (by kernel_rfl) (by kernel_rfl) (by kernel_rfl) (fun _ _ _ h => h) (Or.inl ⟨?g1_45_46, ?y1_45_46⟩) hS ?_
  case i1_45_46 => simp only [List.getElem?_toArray, List.getElem?_cons_succ, List.getElem?_cons_zero]; rfl
  case g1_45_46 => rfl
  case y1_45_46 => (intro w hSw; (go_simp <;> with_reducible rfl))
  (try simp only [Act.put, List.setIfInBounds_toArray, List.set_cons_zero, List.set_cons_succ])
  refine wpAnyH_done (by kernel_rfl) ?_ _
  refine NoPanic.normal ?_
  clear hS
  go_wp2
  go_ret
  exact ⟨rfl, HWc.out⟩
theorem treeTells_walk (a b : NdD) (f g : NdF) (A B : Option Addr) (c d : Nat) (w : World) (hx : LieN w (ndC a (.slice A f.len c)) (a, f)) (hy : LieN w (ndC b (.slice B g.len d)) (b, g)) (hf : f.size ≤ 1000000) (hg : g.size ≤ 1000000) (C : TreC w) (HA : Awake9 w) :
    Calls Try.prog 3 #[.agg #[.string (txt a.name), .string (txt a.key), .int .i64 a.kind, .int .u64 (a.num : Int), .string (txt a.text), .slice A f.len c], .agg #[.string (txt b.name), .string (txt b.key), .int .i64 b.kind, .int .u64 (b.num : Int), .string (txt b.text), .slice B g.len d]] w (Ans9 (.bool true) w) := by
  cases h1 : decide (f.size + 1 ≤ 300) with
  | false => 
    cases h2 : decide (g.size + 1 ≤ 300) with
    | false => exact treeTells_none a b f g A B c d w hx hy hf hg HA h1 h2
    | true => exact treeTells_two a b f g A B c d w hx hy hf hg HA h1 h2
  | true =>
    cases h2 : decide (g.size + 1 ≤ 300) with
    | false => exact treeTells_one a b f g A B c d w hx hy hf hg HA h1 h2
    | true => exact treeTells_main a b f g A B c d w hx hy hf hg C HA h1 h2
end Go.Proofs.Ytgipnemcmiohlaa

