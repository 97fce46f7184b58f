/- What the laws of package tree want of Law09G. -/
import Derived.Test.YtgipnemcmiohlaaZ11TreOpen
import Derived.Laws.StructEq
import Derived.Deep.DeepCutAuto
import Derived.Deep.CutBlock
import Derived.WalkLawsBesides
namespace Go.Proofs.Ytgipnemcmiohlaa
open Go.RowKit
set_option linter.unusedSimpArgs false
set_option linter.unusedVariables false
theorem CutX_got {x : Nd} {l : List Stp} (h : (CutX x l).2 = 0) : l ≠ [] ∧ ∃ z, getX x l = some z := by
  unfold CutX at h
  cases l with
  | nil => simp at h
  | cons s l =>
    refine ⟨by simp, ?_⟩
    cases h1 : getX x (s :: l) with
    | none => rw [h1] at h; simp at h
    | some z => exact ⟨z, rfl⟩
def OthL9 (l1 l2 : List Stp) (w0 : World) (p : Value) (w : World) : Prop := ∃ pb, p = .bool pb ∧ Hid (pb = true → parts l1 l2) ∧ Below w0.heap.size w0 w
theorem step_neq (s t : Stp) (W : World) : (binOp .neq 43 (.agg #[.string (txt s.1), .string (txt s.2)]) (.agg #[.string (txt t.1), .string (txt t.2)])).run Try.prog W = .ok (.bool (!decide (s = t))) W := by
  rw [run_neq_struct, show (10000 : Nat) = 9999 + 1 from rfl, run_equalIn_agg W 9999 43 _ _ (by simp only [Program.fieldsOf, Try.underlying43]) (by kernel_rfl)]
  simp only [Program.fieldsOf, Try.underlying43]
  simp only [Op.eqFields]
  go_simp
  simp only [txt_toList]
  by_cases h1 : s.1 = t.1
  · by_cases h2 : s.2 = t.2
    · have h : s = t := Prod.ext h1 h2
      simp [h]
    · have h : s ≠ t := fun e => h2 (congrArg Prod.snd e)
      simp [h1, h2, h]
  · have h : s ≠ t := fun e => h1 (congrArg Prod.fst e)
    simp [h1, h]
set_option maxRecDepth 100000 in
set_option maxHeartbeats 8000000 in
theorem treeOther_none (a b : NdD) (f g : NdF) (A B : Option Addr) (c d : Nat) (R : Option Addr) (K M : Nat) (w : World) (hx : LieN w (ndC a (.slice A f.len c)) (a, f)) (hy : LieN w (ndC b (.slice B g.len d)) (b, g)) (hf : f.size ≤ 1000000) (hg : g.size ≤ 1000000) (HA : Awake9 w) (h1 : decide (f.size + 1 ≤ 300) = false) (h2 : decide (g.size + 1 ≤ 300) = false) :
    Calls Try.prog 6 #[.agg #[.string (txt a.name), .string (txt a.key), .int .i64 a.kind, .int .u64 (a.num : Int), .string (txt a.text), .slice A f.len c], .slice R K M, .agg #[.string (txt b.name), .string (txt b.key), .int .i64 b.kind, .int .u64 (b.num : Int), .string (txt b.text), .slice B g.len d]] w (Ans9 (.bool true) w) := by
  have hb2 : Blk ((w.alloc (.cells #[.string (txt a.name), .string (txt a.key), .int .i64 a.kind, .int .u64 (a.num : Int), .string (txt a.text), .slice A f.len c] 27)).alloc (.cells #[.string (txt b.name), .string (txt b.key), .int .i64 b.kind, .int .u64 (b.num : Int), .string (txt b.text), .slice B g.len d] 27)) (w.heap.size + 1) 27 #[.string (txt b.name), .string (txt b.key), .int .i64 b.kind, .int .u64 (b.num : Int), .string (txt b.text), .slice B g.len d] := by
    have h := Blk.new (w.alloc (.cells #[.string (txt a.name), .string (txt a.key), .int .i64 a.kind, .int .u64 (a.num : Int), .string (txt a.text), .slice A f.len c] 27)) 27 #[.string (txt b.name), .string (txt b.key), .int .i64 b.kind, .int .u64 (b.num : Int), .string (txt b.text), .slice B g.len d]
    rw [show (w.alloc (.cells #[.string (txt a.name), .string (txt a.key), .int .i64 a.kind, .int .u64 (a.num : Int), .string (txt a.text), .slice A f.len c] 27)).heap.size = w.heap.size + 1 by simp] at h
    exact h
  have HX := Lib.hid ((Blk.new w 27 #[.string (txt a.name), .string (txt a.key), .int .i64 a.kind, .int .u64 (a.num : Int), .string (txt a.text), .slice A f.len c]).alloc (.cells #[.string (txt b.name), .string (txt b.key), .int .i64 b.kind, .int .u64 (b.num : Int), .string (txt b.text), .slice B g.len d] 27))
  have HY := Lib.hid hb2
  have HB : Hid (Below w.heap.size w ((w.alloc (.cells #[.string (txt a.name), .string (txt a.key), .int .i64 a.kind, .int .u64 (a.num : Int), .string (txt a.text), .slice A f.len c] 27)).alloc (.cells #[.string (txt b.name), .string (txt b.key), .int .i64 b.kind, .int .u64 (b.num : Int), .string (txt b.text), .slice B g.len d] 27))) := Lib.hid (((Below.refl _ _).alloc (Nat.le_refl _) _).alloc (by simp) _)
  clear hb2
  have KA := Lib.hid HA
  have K1 : Hid (∀ W, Below w.heap.size w W → Calls Try.prog 9 #[.agg #[.string (txt a.name), .string (txt a.key), .int .i64 a.kind, .int .u64 (a.num : Int), .string (txt a.text), .slice A f.len c]] W (Ans9 (.bool false) W)) := Lib.hid (fun W hW => by have h := small_q hx hf W hW; rwa [h1] at h)
  have K2 : Hid (∀ W, Below w.heap.size w W → Calls Try.prog 9 #[.agg #[.string (txt b.name), .string (txt b.key), .int .i64 b.kind, .int .u64 (b.num : Int), .string (txt b.text), .slice B g.len d]] W (Ans9 (.bool false) W)) := Lib.hid (fun W hW => by have h := small_q hy hg W hW; rwa [h2] at h)
  clear HA hx hy hf hg h1 h2
  go_enter Try.func6, Try.ntmps6
  go_wp2_with fail
  refine (KA.out _ HB.out).mono ?_
  rintro r w1 ⟨rfl, hb⟩
  replace HX := Lib.hid (HX.out.below hb HX.out.lt)
  replace HY := Lib.hid (HY.out.below hb HY.out.lt)
  replace HB := Lib.hid (HB.out.trans (hb.mono HB.out.size))
  clear hb
  have ld0_0 := (HX.out.cell 0).trans rfl
  have ld0_1 := (HX.out.cell 1).trans rfl
  have ld0_2 := (HX.out.cell 2).trans rfl
  have ld0_3 := (HX.out.cell 3).trans rfl
  have ld0_4 := (HX.out.cell 4).trans rfl
  have ld0_5 := (HX.out.cell 5).trans rfl
  go_wp2_with fail
  refine (K1.out _ HB.out).mono ?_
  rintro r w2 ⟨rfl, hb⟩
  replace HX := Lib.hid (HX.out.below hb HX.out.lt)
  replace HY := Lib.hid (HY.out.below hb HY.out.lt)
  replace HB := Lib.hid (HB.out.trans (hb.mono HB.out.size))
  clear ld0_0 ld0_1 ld0_2 ld0_3 ld0_4 ld0_5 hb
  have ld0_0 := (HY.out.cell 0).trans rfl
  have ld0_1 := (HY.out.cell 1).trans rfl
  have ld0_2 := (HY.out.cell 2).trans rfl
  have ld0_3 := (HY.out.cell 3).trans rfl
  have ld0_4 := (HY.out.cell 4).trans rfl
  have ld0_5 := (HY.out.cell 5).trans rfl
  go_wp2_with fail
  refine (K2.out _ HB.out).mono ?_
  rintro r w3 ⟨rfl, hb⟩
  replace HX := Lib.hid (HX.out.below hb HX.out.lt)
  replace HY := Lib.hid (HY.out.below hb HY.out.lt)
  replace HB := Lib.hid (HB.out.trans (hb.mono HB.out.size))
  clear ld0_0 ld0_1 ld0_2 ld0_3 ld0_4 ld0_5 hb
  go_wp2
  go_ret
  exact ⟨rfl, HB.out⟩
set_option maxRecDepth 100000 in
set_option maxHeartbeats 8000000 in
theorem treeOther_two (a b : NdD) (f g : NdF) (A B : Option Addr) (c d : Nat) (R : Option Addr) (K M : Nat) (w : World) (hx : LieN w (ndC a (.slice A f.len c)) (a, f)) (hy : LieN w (ndC b (.slice B g.len d)) (b, g)) (hf : f.size ≤ 1000000) (hg : g.size ≤ 1000000) (HA : Awake9 w) (h1 : decide (f.size + 1 ≤ 300) = false) (h2 : decide (g.size + 1 ≤ 300) = true) :
    Calls Try.prog 6 #[.agg #[.string (txt a.name), .string (txt a.key), .int .i64 a.kind, .int .u64 (a.num : Int), .string (txt a.text), .slice A f.len c], .slice R K M, .agg #[.string (txt b.name), .string (txt b.key), .int .i64 b.kind, .int .u64 (b.num : Int), .string (txt b.text), .slice B g.len d]] w (Ans9 (.bool true) w) := by
  have hb2 : Blk ((w.alloc (.cells #[.string (txt a.name), .string (txt a.key), .int .i64 a.kind, .int .u64 (a.num : Int), .string (txt a.text), .slice A f.len c] 27)).alloc (.cells #[.string (txt b.name), .string (txt b.key), .int .i64 b.kind, .int .u64 (b.num : Int), .string (txt b.text), .slice B g.len d] 27)) (w.heap.size + 1) 27 #[.string (txt b.name), .string (txt b.key), .int .i64 b.kind, .int .u64 (b.num : Int), .string (txt b.text), .slice B g.len d] := by
    have h := Blk.new (w.alloc (.cells #[.string (txt a.name), .string (txt a.key), .int .i64 a.kind, .int .u64 (a.num : Int), .string (txt a.text), .slice A f.len c] 27)) 27 #[.string (txt b.name), .string (txt b.key), .int .i64 b.kind, .int .u64 (b.num : Int), .string (txt b.text), .slice B g.len d]
    rw [show (w.alloc (.cells #[.string (txt a.name), .string (txt a.key), .int .i64 a.kind, .int .u64 (a.num : Int), .string (txt a.text), .slice A f.len c] 27)).heap.size = w.heap.size + 1 by simp] at h
    exact h
  have HX := Lib.hid ((Blk.new w 27 #[.string (txt a.name), .string (txt a.key), .int .i64 a.kind, .int .u64 (a.num : Int), .string (txt a.text), .slice A f.len c]).alloc (.cells #[.string (txt b.name), .string (txt b.key), .int .i64 b.kind, .int .u64 (b.num : Int), .string (txt b.text), .slice B g.len d] 27))
  have HY := Lib.hid hb2
  have HB : Hid (Below w.heap.size w ((w.alloc (.cells #[.string (txt a.name), .string (txt a.key), .int .i64 a.kind, .int .u64 (a.num : Int), .string (txt a.text), .slice A f.len c] 27)).alloc (.cells #[.string (txt b.name), .string (txt b.key), .int .i64 b.kind, .int .u64 (b.num : Int), .string (txt b.text), .slice B g.len d] 27))) := Lib.hid (((Below.refl _ _).alloc (Nat.le_refl _) _).alloc (by simp) _)
  clear hb2
  have KA := Lib.hid HA
  have K1 : Hid (∀ W, Below w.heap.size w W → Calls Try.prog 9 #[.agg #[.string (txt a.name), .string (txt a.key), .int .i64 a.kind, .int .u64 (a.num : Int), .string (txt a.text), .slice A f.len c]] W (Ans9 (.bool false) W)) := Lib.hid (fun W hW => by have h := small_q hx hf W hW; rwa [h1] at h)
  have K2 : Hid (∀ W, Below w.heap.size w W → Calls Try.prog 9 #[.agg #[.string (txt b.name), .string (txt b.key), .int .i64 b.kind, .int .u64 (b.num : Int), .string (txt b.text), .slice B g.len d]] W (Ans9 (.bool true) W)) := Lib.hid (fun W hW => by have h := small_q hy hg W hW; rwa [h2] at h)
  clear HA hx hy hf hg h1 h2
  go_enter Try.func6, Try.ntmps6
  go_wp2_with fail
  refine (KA.out _ HB.out).mono ?_
  rintro r w1 ⟨rfl, hb⟩
  replace HX := Lib.hid (HX.out.below hb HX.out.lt)
  replace HY := Lib.hid (HY.out.below hb HY.out.lt)
  replace HB := Lib.hid (HB.out.trans (hb.mono HB.out.size))
  clear hb
  have ld0_0 := (HX.out.cell 0).trans rfl
  have ld0_1 := (HX.out.cell 1).trans rfl
  have ld0_2 := (HX.out.cell 2).trans rfl
  have ld0_3 := (HX.out.cell 3).trans rfl
  have ld0_4 := (HX.out.cell 4).trans rfl
  have ld0_5 := (HX.out.cell 5).trans rfl
  go_wp2_with fail
  refine (K1.out _ HB.out).mono ?_
  rintro r w2 ⟨rfl, hb⟩
  replace HX := Lib.hid (HX.out.below hb HX.out.lt)
  replace HY := Lib.hid (HY.out.below hb HY.out.lt)
  replace HB := Lib.hid (HB.out.trans (hb.mono HB.out.size))
  clear ld0_0 ld0_1 ld0_2 ld0_3 ld0_4 ld0_5 hb
  have ld0_0 := (HY.out.cell 0).trans rfl
  have ld0_1 := (HY.out.cell 1).trans rfl
  have ld0_2 := (HY.out.cell 2).trans rfl
  have ld0_3 := (HY.out.cell 3).trans rfl
  have ld0_4 := (HY.out.cell 4).trans rfl
  have ld0_5 := (HY.out.cell 5).trans rfl
  go_wp2_with fail
  refine (K2.out _ HB.out).mono ?_
  rintro r w3 ⟨rfl, hb⟩
  replace HX := Lib.hid (HX.out.below hb HX.out.lt)
  replace HY := Lib.hid (HY.out.below hb HY.out.lt)
  replace HB := Lib.hid (HB.out.trans (hb.mono HB.out.size))
  clear ld0_0 ld0_1 ld0_2 ld0_3 ld0_4 ld0_5 hb
  go_wp2
  go_ret
  exact ⟨rfl, HB.out⟩
set_option maxRecDepth 100000 in
set_option maxHeartbeats 8000000 in
theorem treeOther_one (a b : NdD) (f g : NdF) (A B : Option Addr) (c d : Nat) (R : Option Addr) (K M : Nat) (w : World) (hx : LieN w (ndC a (.slice A f.len c)) (a, f)) (hy : LieN w (ndC b (.slice B g.len d)) (b, g)) (hf : f.size ≤ 1000000) (hg : g.size ≤ 1000000) (HA : Awake9 w) (h1 : decide (f.size + 1 ≤ 300) = true) (h2 : decide (g.size + 1 ≤ 300) = false) :
    Calls Try.prog 6 #[.agg #[.string (txt a.name), .string (txt a.key), .int .i64 a.kind, .int .u64 (a.num : Int), .string (txt a.text), .slice A f.len c], .slice R K M, .agg #[.string (txt b.name), .string (txt b.key), .int .i64 b.kind, .int .u64 (b.num : Int), .string (txt b.text), .slice B g.len d]] w (Ans9 (.bool true) w) := by
  have hb2 : Blk ((w.alloc (.cells #[.string (txt a.name), .string (txt a.key), .int .i64 a.kind, .int .u64 (a.num : Int), .string (txt a.text), .slice A f.len c] 27)).alloc (.cells #[.string (txt b.name), .string (txt b.key), .int .i64 b.kind, .int .u64 (b.num : Int), .string (txt b.text), .slice B g.len d] 27)) (w.heap.size + 1) 27 #[.string (txt b.name), .string (txt b.key), .int .i64 b.kind, .int .u64 (b.num : Int), .string (txt b.text), .slice B g.len d] := by
    have h := Blk.new (w.alloc (.cells #[.string (txt a.name), .string (txt a.key), .int .i64 a.kind, .int .u64 (a.num : Int), .string (txt a.text), .slice A f.len c] 27)) 27 #[.string (txt b.name), .string (txt b.key), .int .i64 b.kind, .int .u64 (b.num : Int), .string (txt b.text), .slice B g.len d]
    rw [show (w.alloc (.cells #[.string (txt a.name), .string (txt a.key), .int .i64 a.kind, .int .u64 (a.num : Int), .string (txt a.text), .slice A f.len c] 27)).heap.size = w.heap.size + 1 by simp] at h
    exact h
  have HX := Lib.hid ((Blk.new w 27 #[.string (txt a.name), .string (txt a.key), .int .i64 a.kind, .int .u64 (a.num : Int), .string (txt a.text), .slice A f.len c]).alloc (.cells #[.string (txt b.name), .string (txt b.key), .int .i64 b.kind, .int .u64 (b.num : Int), .string (txt b.text), .slice B g.len d] 27))
  have HY := Lib.hid hb2
  have HB : Hid (Below w.heap.size w ((w.alloc (.cells #[.string (txt a.name), .string (txt a.key), .int .i64 a.kind, .int .u64 (a.num : Int), .string (txt a.text), .slice A f.len c] 27)).alloc (.cells #[.string (txt b.name), .string (txt b.key), .int .i64 b.kind, .int .u64 (b.num : Int), .string (txt b.text), .slice B g.len d] 27))) := Lib.hid (((Below.refl _ _).alloc (Nat.le_refl _) _).alloc (by simp) _)
  clear hb2
  have KA := Lib.hid HA
  have K1 : Hid (∀ W, Below w.heap.size w W → Calls Try.prog 9 #[.agg #[.string (txt a.name), .string (txt a.key), .int .i64 a.kind, .int .u64 (a.num : Int), .string (txt a.text), .slice A f.len c]] W (Ans9 (.bool true) W)) := Lib.hid (fun W hW => by have h := small_q hx hf W hW; rwa [h1] at h)
  have K2 : Hid (∀ W, Below w.heap.size w W → Calls Try.prog 9 #[.agg #[.string (txt b.name), .string (txt b.key), .int .i64 b.kind, .int .u64 (b.num : Int), .string (txt b.text), .slice B g.len d]] W (Ans9 (.bool false) W)) := Lib.hid (fun W hW => by have h := small_q hy hg W hW; rwa [h2] at h)
  clear HA hx hy hf hg h1 h2
  go_enter Try.func6, Try.ntmps6
  go_wp2_with fail
  refine (KA.out _ HB.out).mono ?_
  rintro r w1 ⟨rfl, hb⟩
  replace HX := Lib.hid (HX.out.below hb HX.out.lt)
  replace HY := Lib.hid (HY.out.below hb HY.out.lt)
  replace HB := Lib.hid (HB.out.trans (hb.mono HB.out.size))
  clear hb
  have ld0_0 := (HX.out.cell 0).trans rfl
  have ld0_1 := (HX.out.cell 1).trans rfl
  have ld0_2 := (HX.out.cell 2).trans rfl
  have ld0_3 := (HX.out.cell 3).trans rfl
  have ld0_4 := (HX.out.cell 4).trans rfl
  have ld0_5 := (HX.out.cell 5).trans rfl
  go_wp2_with fail
  refine (K1.out _ HB.out).mono ?_
  rintro r w2 ⟨rfl, hb⟩
  replace HX := Lib.hid (HX.out.below hb HX.out.lt)
  replace HY := Lib.hid (HY.out.below hb HY.out.lt)
  replace HB := Lib.hid (HB.out.trans (hb.mono HB.out.size))
  clear ld0_0 ld0_1 ld0_2 ld0_3 ld0_4 ld0_5 hb
  have ld0_0 := (HY.out.cell 0).trans rfl
  have ld0_1 := (HY.out.cell 1).trans rfl
  have ld0_2 := (HY.out.cell 2).trans rfl
  have ld0_3 := (HY.out.cell 3).trans rfl
  have ld0_4 := (HY.out.cell 4).trans rfl
  have ld0_5 := (HY.out.cell 5).trans rfl
  go_wp2_with fail
  refine (K2.out _ HB.out).mono ?_
  rintro r w3 ⟨rfl, hb⟩
  replace HX := Lib.hid (HX.out.below hb HX.out.lt)
  replace HY := Lib.hid (HY.out.below hb HY.out.lt)
  replace HB := Lib.hid (HB.out.trans (hb.mono HB.out.size))
  clear ld0_0 ld0_1 ld0_2 ld0_3 ld0_4 ld0_5 hb
  go_wp2
  go_ret
  exact ⟨rfl, HB.out⟩
set_option maxRecDepth 100000 in
set_option maxHeartbeats 8000000 in
theorem treeOther_few (a b : NdD) (f g : NdF) (A B : Option Addr) (c d : Nat) (R : Option Addr) (K M : Nat) (w : World) (hx : LieN w (ndC a (.slice A f.len c)) (a, f)) (hy : LieN w (ndC b (.slice B g.len d)) (b, g)) (hf : f.size ≤ 1000000) (hg : g.size ≤ 1000000) (HA : Awake9 w) (h1 : decide (f.size + 1 ≤ 300) = true) (h2 : decide (g.size + 1 ≤ 300) = true) (hK : K < 2) :
    Calls Try.prog 6 #[.agg #[.string (txt a.name), .string (txt a.key), .int .i64 a.kind, .int .u64 (a.num : Int), .string (txt a.text), .slice A f.len c], .slice R K M, .agg #[.string (txt b.name), .string (txt b.key), .int .i64 b.kind, .int .u64 (b.num : Int), .string (txt b.text), .slice B g.len d]] w (Ans9 (.bool true) w) := by
  have hb2 : Blk ((w.alloc (.cells #[.string (txt a.name), .string (txt a.key), .int .i64 a.kind, .int .u64 (a.num : Int), .string (txt a.text), .slice A f.len c] 27)).alloc (.cells #[.string (txt b.name), .string (txt b.key), .int .i64 b.kind, .int .u64 (b.num : Int), .string (txt b.text), .slice B g.len d] 27)) (w.heap.size + 1) 27 #[.string (txt b.name), .string (txt b.key), .int .i64 b.kind, .int .u64 (b.num : Int), .string (txt b.text), .slice B g.len d] := by
    have h := Blk.new (w.alloc (.cells #[.string (txt a.name), .string (txt a.key), .int .i64 a.kind, .int .u64 (a.num : Int), .string (txt a.text), .slice A f.len c] 27)) 27 #[.string (txt b.name), .string (txt b.key), .int .i64 b.kind, .int .u64 (b.num : Int), .string (txt b.text), .slice B g.len d]
    rw [show (w.alloc (.cells #[.string (txt a.name), .string (txt a.key), .int .i64 a.kind, .int .u64 (a.num : Int), .string (txt a.text), .slice A f.len c] 27)).heap.size = w.heap.size + 1 by simp] at h
    exact h
  have HX := Lib.hid ((Blk.new w 27 #[.string (txt a.name), .string (txt a.key), .int .i64 a.kind, .int .u64 (a.num : Int), .string (txt a.text), .slice A f.len c]).alloc (.cells #[.string (txt b.name), .string (txt b.key), .int .i64 b.kind, .int .u64 (b.num : Int), .string (txt b.text), .slice B g.len d] 27))
  have HY := Lib.hid hb2
  have HB : Hid (Below w.heap.size w ((w.alloc (.cells #[.string (txt a.name), .string (txt a.key), .int .i64 a.kind, .int .u64 (a.num : Int), .string (txt a.text), .slice A f.len c] 27)).alloc (.cells #[.string (txt b.name), .string (txt b.key), .int .i64 b.kind, .int .u64 (b.num : Int), .string (txt b.text), .slice B g.len d] 27))) := Lib.hid (((Below.refl _ _).alloc (Nat.le_refl _) _).alloc (by simp) _)
  clear hb2
  have KA := Lib.hid HA
  have K1 : Hid (∀ W, Below w.heap.size w W → Calls Try.prog 9 #[.agg #[.string (txt a.name), .string (txt a.key), .int .i64 a.kind, .int .u64 (a.num : Int), .string (txt a.text), .slice A f.len c]] W (Ans9 (.bool true) W)) := Lib.hid (fun W hW => by have h := small_q hx hf W hW; rwa [h1] at h)
  have K2 : Hid (∀ W, Below w.heap.size w W → Calls Try.prog 9 #[.agg #[.string (txt b.name), .string (txt b.key), .int .i64 b.kind, .int .u64 (b.num : Int), .string (txt b.text), .slice B g.len d]] W (Ans9 (.bool true) W)) := Lib.hid (fun W hW => by have h := small_q hy hg W hW; rwa [h2] at h)
  have j2 : (K : Int) < 2 := by omega
  clear HA hx hy hf hg h1 h2 hK
  go_enter Try.func6, Try.ntmps6
  go_wp2_with fail
  refine (KA.out _ HB.out).mono ?_
  rintro r w1 ⟨rfl, hb⟩
  replace HX := Lib.hid (HX.out.below hb HX.out.lt)
  replace HY := Lib.hid (HY.out.below hb HY.out.lt)
  replace HB := Lib.hid (HB.out.trans (hb.mono HB.out.size))
  clear hb
  have ld0_0 := (HX.out.cell 0).trans rfl
  have ld0_1 := (HX.out.cell 1).trans rfl
  have ld0_2 := (HX.out.cell 2).trans rfl
  have ld0_3 := (HX.out.cell 3).trans rfl
  have ld0_4 := (HX.out.cell 4).trans rfl
  have ld0_5 := (HX.out.cell 5).trans rfl
  go_wp2_with fail
  refine (K1.out _ HB.out).mono ?_
  rintro r w2 ⟨rfl, hb⟩
  replace HX := Lib.hid (HX.out.below hb HX.out.lt)
  replace HY := Lib.hid (HY.out.below hb HY.out.lt)
  replace HB := Lib.hid (HB.out.trans (hb.mono HB.out.size))
  clear ld0_0 ld0_1 ld0_2 ld0_3 ld0_4 ld0_5 hb
  have ld0_0 := (HY.out.cell 0).trans rfl
  have ld0_1 := (HY.out.cell 1).trans rfl
  have ld0_2 := (HY.out.cell 2).trans rfl
  have ld0_3 := (HY.out.cell 3).trans rfl
  have ld0_4 := (HY.out.cell 4).trans rfl
  have ld0_5 := (HY.out.cell 5).trans rfl
  go_wp2_with fail
  refine (K2.out _ HB.out).mono ?_
  rintro r w3 ⟨rfl, hb⟩
  replace HX := Lib.hid (HX.out.below hb HX.out.lt)
  replace HY := Lib.hid (HY.out.below hb HY.out.lt)
  replace HB := Lib.hid (HB.out.trans (hb.mono HB.out.size))
  clear ld0_0 ld0_1 ld0_2 ld0_3 ld0_4 ld0_5 hb
  go_wp2
  go_ret
  exact ⟨rfl, HB.out⟩
set_option maxRecDepth 100000 in
set_option maxHeartbeats 8000000 in
theorem treeOther_long1 (a b : NdD) (f g : NdF) (A B : Option Addr) (c d : Nat) (l1 l2 : List Stp) (V U : Option Addr) (N m Q q : Nat) (r o K M : Nat) (w : World) (hx : LieN w (ndC a (.slice A f.len c)) (a, f)) (hy : LieN w (ndC b (.slice B g.len d)) (b, g)) (hf : f.size ≤ 1000000) (hg : g.size ≤ 1000000) (HA : Awake9 w) (hr0 : r < w.heap.size) (hc0 : w.cell? ⟨r, o, none⟩ = some (.slice V N m)) (hc1 : w.cell? ⟨r, o + 1, none⟩ = some (.slice U Q q)) (hv1 : WayV w.heap.size w (.slice V N m) l1) (hv2 : WayV w.heap.size w (.slice U Q q) l2) (hN : N = l1.length) (hQ : Q = l2.length) (hK : 2 ≤ K) (h1 : decide (f.size + 1 ≤ 300) = true) (h2 : decide (g.size + 1 ≤ 300) = true) (hl : 20 < N) :
    Calls Try.prog 6 #[.agg #[.string (txt a.name), .string (txt a.key), .int .i64 a.kind, .int .u64 (a.num : Int), .string (txt a.text), .slice A f.len c], .slice (some ⟨r, o, none⟩) K M, .agg #[.string (txt b.name), .string (txt b.key), .int .i64 b.kind, .int .u64 (b.num : Int), .string (txt b.text), .slice B g.len d]] w (Ans9 (.bool true) w) := by
  have hb2 : Blk ((w.alloc (.cells #[.string (txt a.name), .string (txt a.key), .int .i64 a.kind, .int .u64 (a.num : Int), .string (txt a.text), .slice A f.len c] 27)).alloc (.cells #[.string (txt b.name), .string (txt b.key), .int .i64 b.kind, .int .u64 (b.num : Int), .string (txt b.text), .slice B g.len d] 27)) (w.heap.size + 1) 27 #[.string (txt b.name), .string (txt b.key), .int .i64 b.kind, .int .u64 (b.num : Int), .string (txt b.text), .slice B g.len d] := by
    have h := Blk.new (w.alloc (.cells #[.string (txt a.name), .string (txt a.key), .int .i64 a.kind, .int .u64 (a.num : Int), .string (txt a.text), .slice A f.len c] 27)) 27 #[.string (txt b.name), .string (txt b.key), .int .i64 b.kind, .int .u64 (b.num : Int), .string (txt b.text), .slice B g.len d]
    rw [show (w.alloc (.cells #[.string (txt a.name), .string (txt a.key), .int .i64 a.kind, .int .u64 (a.num : Int), .string (txt a.text), .slice A f.len c] 27)).heap.size = w.heap.size + 1 by simp] at h
    exact h
  have HX := Lib.hid ((Blk.new w 27 #[.string (txt a.name), .string (txt a.key), .int .i64 a.kind, .int .u64 (a.num : Int), .string (txt a.text), .slice A f.len c]).alloc (.cells #[.string (txt b.name), .string (txt b.key), .int .i64 b.kind, .int .u64 (b.num : Int), .string (txt b.text), .slice B g.len d] 27))
  have HY := Lib.hid hb2
  have HB : Hid (Below w.heap.size w ((w.alloc (.cells #[.string (txt a.name), .string (txt a.key), .int .i64 a.kind, .int .u64 (a.num : Int), .string (txt a.text), .slice A f.len c] 27)).alloc (.cells #[.string (txt b.name), .string (txt b.key), .int .i64 b.kind, .int .u64 (b.num : Int), .string (txt b.text), .slice B g.len d] 27))) := Lib.hid (((Below.refl _ _).alloc (Nat.le_refl _) _).alloc (by simp) _)
  clear hb2
  have KA := Lib.hid HA
  have K1 : Hid (∀ W, Below w.heap.size w W → Calls Try.prog 9 #[.agg #[.string (txt a.name), .string (txt a.key), .int .i64 a.kind, .int .u64 (a.num : Int), .string (txt a.text), .slice A f.len c]] W (Ans9 (.bool true) W)) := Lib.hid (fun W hW => by have h := small_q hx hf W hW; rwa [h1] at h)
  have K2 : Hid (∀ W, Below w.heap.size w W → Calls Try.prog 9 #[.agg #[.string (txt b.name), .string (txt b.key), .int .i64 b.kind, .int .u64 (b.num : Int), .string (txt b.text), .slice B g.len d]] W (Ans9 (.bool true) W)) := Lib.hid (fun W hW => by have h := small_q hy hg W hW; rwa [h2] at h)
  have HC0 : Hid (∀ W, Below w.heap.size w W → W.cell? ⟨r, o, none⟩ = some (.slice V N m)) := Lib.hid (fun W hW => (hW.cell (p := ⟨r, o, none⟩) hr0).trans hc0)
  have HC1 : Hid (∀ W, Below w.heap.size w W → W.cell? ⟨r, o + 1, none⟩ = some (.slice U Q q)) := Lib.hid (fun W hW => (hW.cell (p := ⟨r, o + 1, none⟩) hr0).trans hc1)
  have j0 : (0 : Int) < (K : Int) := by omega
  have j1 : (1 : Int) < (K : Int) := by omega
  have j2 : ¬ (K : Int) < 2 := by omega
  have j3 : 0 < K := by omega
  have j4 : 1 < K := by omega
  have n1 : (20 : Int) < (N : Int) := by omega
  clear HA hx hy hf hg h1 h2 hr0 hc0 hc1 hv1 hv2 hN hQ hK hl
  go_enter Try.func6, Try.ntmps6
  go_wp2_with fail
  refine (KA.out _ HB.out).mono ?_
  rintro r w1 ⟨rfl, hb⟩
  replace HX := Lib.hid (HX.out.below hb HX.out.lt)
  replace HY := Lib.hid (HY.out.below hb HY.out.lt)
  replace HB := Lib.hid (HB.out.trans (hb.mono HB.out.size))
  clear hb
  have ld0_0 := (HX.out.cell 0).trans rfl
  have ld0_1 := (HX.out.cell 1).trans rfl
  have ld0_2 := (HX.out.cell 2).trans rfl
  have ld0_3 := (HX.out.cell 3).trans rfl
  have ld0_4 := (HX.out.cell 4).trans rfl
  have ld0_5 := (HX.out.cell 5).trans rfl
  go_wp2_with fail
  refine (K1.out _ HB.out).mono ?_
  rintro r w2 ⟨rfl, hb⟩
  replace HX := Lib.hid (HX.out.below hb HX.out.lt)
  replace HY := Lib.hid (HY.out.below hb HY.out.lt)
  replace HB := Lib.hid (HB.out.trans (hb.mono HB.out.size))
  clear ld0_0 ld0_1 ld0_2 ld0_3 ld0_4 ld0_5 hb
  have ld0_0 := (HY.out.cell 0).trans rfl
  have ld0_1 := (HY.out.cell 1).trans rfl
  have ld0_2 := (HY.out.cell 2).trans rfl
  have ld0_3 := (HY.out.cell 3).trans rfl
  have ld0_4 := (HY.out.cell 4).trans rfl
  have ld0_5 := (HY.out.cell 5).trans rfl
  go_wp2_with fail
  refine (K2.out _ HB.out).mono ?_
  rintro r w3 ⟨rfl, hb⟩
  replace HX := Lib.hid (HX.out.below hb HX.out.lt)
  replace HY := Lib.hid (HY.out.below hb HY.out.lt)
  replace HB := Lib.hid (HB.out.trans (hb.mono HB.out.size))
  clear ld0_0 ld0_1 ld0_2 ld0_3 ld0_4 ld0_5 hb
  have qc0 := HC0.out _ HB.out
  have qc1 := HC1.out _ HB.out
  go_wp2
  go_ret
  exact ⟨rfl, HB.out⟩
set_option maxRecDepth 100000 in
set_option maxHeartbeats 8000000 in
theorem treeOther_long2 (a b : NdD) (f g : NdF) (A B : Option Addr) (c d : Nat) (l1 l2 : List Stp) (V U : Option Addr) (N m Q q : Nat) (r o K M : Nat) (w : World) (hx : LieN w (ndC a (.slice A f.len c)) (a, f)) (hy : LieN w (ndC b (.slice B g.len d)) (b, g)) (hf : f.size ≤ 1000000) (hg : g.size ≤ 1000000) (HA : Awake9 w) (hr0 : r < w.heap.size) (hc0 : w.cell? ⟨r, o, none⟩ = some (.slice V N m)) (hc1 : w.cell? ⟨r, o + 1, none⟩ = some (.slice U Q q)) (hv1 : WayV w.heap.size w (.slice V N m) l1) (hv2 : WayV w.heap.size w (.slice U Q q) l2) (hN : N = l1.length) (hQ : Q = l2.length) (hK : 2 ≤ K) (h1 : decide (f.size + 1 ≤ 300) = true) (h2 : decide (g.size + 1 ≤ 300) = true) (hl : ¬ 20 < N) (hl2 : 20 < Q) :
    Calls Try.prog 6 #[.agg #[.string (txt a.name), .string (txt a.key), .int .i64 a.kind, .int .u64 (a.num : Int), .string (txt a.text), .slice A f.len c], .slice (some ⟨r, o, none⟩) K M, .agg #[.string (txt b.name), .string (txt b.key), .int .i64 b.kind, .int .u64 (b.num : Int), .string (txt b.text), .slice B g.len d]] w (Ans9 (.bool true) w) := by
  have hb2 : Blk ((w.alloc (.cells #[.string (txt a.name), .string (txt a.key), .int .i64 a.kind, .int .u64 (a.num : Int), .string (txt a.text), .slice A f.len c] 27)).alloc (.cells #[.string (txt b.name), .string (txt b.key), .int .i64 b.kind, .int .u64 (b.num : Int), .string (txt b.text), .slice B g.len d] 27)) (w.heap.size + 1) 27 #[.string (txt b.name), .string (txt b.key), .int .i64 b.kind, .int .u64 (b.num : Int), .string (txt b.text), .slice B g.len d] := by
    have h := Blk.new (w.alloc (.cells #[.string (txt a.name), .string (txt a.key), .int .i64 a.kind, .int .u64 (a.num : Int), .string (txt a.text), .slice A f.len c] 27)) 27 #[.string (txt b.name), .string (txt b.key), .int .i64 b.kind, .int .u64 (b.num : Int), .string (txt b.text), .slice B g.len d]
    rw [show (w.alloc (.cells #[.string (txt a.name), .string (txt a.key), .int .i64 a.kind, .int .u64 (a.num : Int), .string (txt a.text), .slice A f.len c] 27)).heap.size = w.heap.size + 1 by simp] at h
    exact h
  have HX := Lib.hid ((Blk.new w 27 #[.string (txt a.name), .string (txt a.key), .int .i64 a.kind, .int .u64 (a.num : Int), .string (txt a.text), .slice A f.len c]).alloc (.cells #[.string (txt b.name), .string (txt b.key), .int .i64 b.kind, .int .u64 (b.num : Int), .string (txt b.text), .slice B g.len d] 27))
  have HY := Lib.hid hb2
  have HB : Hid (Below w.heap.size w ((w.alloc (.cells #[.string (txt a.name), .string (txt a.key), .int .i64 a.kind, .int .u64 (a.num : Int), .string (txt a.text), .slice A f.len c] 27)).alloc (.cells #[.string (txt b.name), .string (txt b.key), .int .i64 b.kind, .int .u64 (b.num : Int), .string (txt b.text), .slice B g.len d] 27))) := Lib.hid (((Below.refl _ _).alloc (Nat.le_refl _) _).alloc (by simp) _)
  clear hb2
  have KA := Lib.hid HA
  have K1 : Hid (∀ W, Below w.heap.size w W → Calls Try.prog 9 #[.agg #[.string (txt a.name), .string (txt a.key), .int .i64 a.kind, .int .u64 (a.num : Int), .string (txt a.text), .slice A f.len c]] W (Ans9 (.bool true) W)) := Lib.hid (fun W hW => by have h := small_q hx hf W hW; rwa [h1] at h)
  have K2 : Hid (∀ W, Below w.heap.size w W → Calls Try.prog 9 #[.agg #[.string (txt b.name), .string (txt b.key), .int .i64 b.kind, .int .u64 (b.num : Int), .string (txt b.text), .slice B g.len d]] W (Ans9 (.bool true) W)) := Lib.hid (fun W hW => by have h := small_q hy hg W hW; rwa [h2] at h)
  have HC0 : Hid (∀ W, Below w.heap.size w W → W.cell? ⟨r, o, none⟩ = some (.slice V N m)) := Lib.hid (fun W hW => (hW.cell (p := ⟨r, o, none⟩) hr0).trans hc0)
  have HC1 : Hid (∀ W, Below w.heap.size w W → W.cell? ⟨r, o + 1, none⟩ = some (.slice U Q q)) := Lib.hid (fun W hW => (hW.cell (p := ⟨r, o + 1, none⟩) hr0).trans hc1)
  have j0 : (0 : Int) < (K : Int) := by omega
  have j1 : (1 : Int) < (K : Int) := by omega
  have j2 : ¬ (K : Int) < 2 := by omega
  have j3 : 0 < K := by omega
  have j4 : 1 < K := by omega
  have n1 : ¬ (20 : Int) < (N : Int) := by omega
  have n2 : (20 : Int) < (Q : Int) := by omega
  clear HA hx hy hf hg h1 h2 hr0 hc0 hc1 hv1 hv2 hN hQ hK hl hl2
  go_enter Try.func6, Try.ntmps6
  go_wp2_with fail
  refine (KA.out _ HB.out).mono ?_
  rintro r w1 ⟨rfl, hb⟩
  replace HX := Lib.hid (HX.out.below hb HX.out.lt)
  replace HY := Lib.hid (HY.out.below hb HY.out.lt)
  replace HB := Lib.hid (HB.out.trans (hb.mono HB.out.size))
  clear hb
  have ld0_0 := (HX.out.cell 0).trans rfl
  have ld0_1 := (HX.out.cell 1).trans rfl
  have ld0_2 := (HX.out.cell 2).trans rfl
  have ld0_3 := (HX.out.cell 3).trans rfl
  have ld0_4 := (HX.out.cell 4).trans rfl
  have ld0_5 := (HX.out.cell 5).trans rfl
  go_wp2_with fail
  refine (K1.out _ HB.out).mono ?_
  rintro r w2 ⟨rfl, hb⟩
  replace HX := Lib.hid (HX.out.below hb HX.out.lt)
  replace HY := Lib.hid (HY.out.below hb HY.out.lt)
  replace HB := Lib.hid (HB.out.trans (hb.mono HB.out.size))
  clear ld0_0 ld0_1 ld0_2 ld0_3 ld0_4 ld0_5 hb
  have ld0_0 := (HY.out.cell 0).trans rfl
  have ld0_1 := (HY.out.cell 1).trans rfl
  have ld0_2 := (HY.out.cell 2).trans rfl
  have ld0_3 := (HY.out.cell 3).trans rfl
  have ld0_4 := (HY.out.cell 4).trans rfl
  have ld0_5 := (HY.out.cell 5).trans rfl
  go_wp2_with fail
  refine (K2.out _ HB.out).mono ?_
  rintro r w3 ⟨rfl, hb⟩
  replace HX := Lib.hid (HX.out.below hb HX.out.lt)
  replace HY := Lib.hid (HY.out.below hb HY.out.lt)
  replace HB := Lib.hid (HB.out.trans (hb.mono HB.out.size))
  clear ld0_0 ld0_1 ld0_2 ld0_3 ld0_4 ld0_5 hb
  have qc0 := HC0.out _ HB.out
  have qc1 := HC1.out _ HB.out
  go_wp2
  go_ret
  exact ⟨rfl, HB.out⟩
set_option maxRecDepth 100000 in
set_option maxHeartbeats 8000000 in
theorem treeOther_wrong (a b : NdD) (f g : NdF) (A B : Option Addr) (c d : Nat) (l1 l2 : List Stp) (V U : Option Addr) (N m Q q : Nat) (r o K M : Nat) (w : World) (hx : LieN w (ndC a (.slice A f.len c)) (a, f)) (hy : LieN w (ndC b (.slice B g.len d)) (b, g)) (hf : f.size ≤ 1000000) (hg : g.size ≤ 1000000) (HA : Awake9 w) (hr0 : r < w.heap.size) (hc0 : w.cell? ⟨r, o, none⟩ = some (.slice V N m)) (hc1 : w.cell? ⟨r, o + 1, none⟩ = some (.slice U Q q)) (hv1 : WayV w.heap.size w (.slice V N m) l1) (hv2 : WayV w.heap.size w (.slice U Q q) l2) (hN : N = l1.length) (hQ : Q = l2.length) (hK : 2 ≤ K) (h1 : decide (f.size + 1 ≤ 300) = true) (h2 : decide (g.size + 1 ≤ 300) = true) (hl : ¬ 20 < N) (hl2 : ¬ 20 < Q) (hr : rgtX (a, f) = false) :
    Calls Try.prog 6 #[.agg #[.string (txt a.name), .string (txt a.key), .int .i64 a.kind, .int .u64 (a.num : Int), .string (txt a.text), .slice A f.len c], .slice (some ⟨r, o, none⟩) K M, .agg #[.string (txt b.name), .string (txt b.key), .int .i64 b.kind, .int .u64 (b.num : Int), .string (txt b.text), .slice B g.len d]] w (Ans9 (.bool true) w) := by
  have hb2 : Blk ((w.alloc (.cells #[.string (txt a.name), .string (txt a.key), .int .i64 a.kind, .int .u64 (a.num : Int), .string (txt a.text), .slice A f.len c] 27)).alloc (.cells #[.string (txt b.name), .string (txt b.key), .int .i64 b.kind, .int .u64 (b.num : Int), .string (txt b.text), .slice B g.len d] 27)) (w.heap.size + 1) 27 #[.string (txt b.name), .string (txt b.key), .int .i64 b.kind, .int .u64 (b.num : Int), .string (txt b.text), .slice B g.len d] := by
    have h := Blk.new (w.alloc (.cells #[.string (txt a.name), .string (txt a.key), .int .i64 a.kind, .int .u64 (a.num : Int), .string (txt a.text), .slice A f.len c] 27)) 27 #[.string (txt b.name), .string (txt b.key), .int .i64 b.kind, .int .u64 (b.num : Int), .string (txt b.text), .slice B g.len d]
    rw [show (w.alloc (.cells #[.string (txt a.name), .string (txt a.key), .int .i64 a.kind, .int .u64 (a.num : Int), .string (txt a.text), .slice A f.len c] 27)).heap.size = w.heap.size + 1 by simp] at h
    exact h
  have HX := Lib.hid ((Blk.new w 27 #[.string (txt a.name), .string (txt a.key), .int .i64 a.kind, .int .u64 (a.num : Int), .string (txt a.text), .slice A f.len c]).alloc (.cells #[.string (txt b.name), .string (txt b.key), .int .i64 b.kind, .int .u64 (b.num : Int), .string (txt b.text), .slice B g.len d] 27))
  have HY := Lib.hid hb2
  have HB : Hid (Below w.heap.size w ((w.alloc (.cells #[.string (txt a.name), .string (txt a.key), .int .i64 a.kind, .int .u64 (a.num : Int), .string (txt a.text), .slice A f.len c] 27)).alloc (.cells #[.string (txt b.name), .string (txt b.key), .int .i64 b.kind, .int .u64 (b.num : Int), .string (txt b.text), .slice B g.len d] 27))) := Lib.hid (((Below.refl _ _).alloc (Nat.le_refl _) _).alloc (by simp) _)
  clear hb2
  have KA := Lib.hid HA
  have K1 : Hid (∀ W, Below w.heap.size w W → Calls Try.prog 9 #[.agg #[.string (txt a.name), .string (txt a.key), .int .i64 a.kind, .int .u64 (a.num : Int), .string (txt a.text), .slice A f.len c]] W (Ans9 (.bool true) W)) := Lib.hid (fun W hW => by have h := small_q hx hf W hW; rwa [h1] at h)
  have K2 : Hid (∀ W, Below w.heap.size w W → Calls Try.prog 9 #[.agg #[.string (txt b.name), .string (txt b.key), .int .i64 b.kind, .int .u64 (b.num : Int), .string (txt b.text), .slice B g.len d]] W (Ans9 (.bool true) W)) := Lib.hid (fun W hW => by have h := small_q hy hg W hW; rwa [h2] at h)
  have HC0 : Hid (∀ W, Below w.heap.size w W → W.cell? ⟨r, o, none⟩ = some (.slice V N m)) := Lib.hid (fun W hW => (hW.cell (p := ⟨r, o, none⟩) hr0).trans hc0)
  have HC1 : Hid (∀ W, Below w.heap.size w W → W.cell? ⟨r, o + 1, none⟩ = some (.slice U Q q)) := Lib.hid (fun W hW => (hW.cell (p := ⟨r, o + 1, none⟩) hr0).trans hc1)
  have j0 : (0 : Int) < (K : Int) := by omega
  have j1 : (1 : Int) < (K : Int) := by omega
  have j2 : ¬ (K : Int) < 2 := by omega
  have j3 : 0 < K := by omega
  have j4 : 1 < K := by omega
  have n1 : ¬ (20 : Int) < (N : Int) := by omega
  have n2 : ¬ (20 : Int) < (Q : Int) := by omega
  have KR : Hid (∀ W, Below w.heap.size w W → Calls Try.prog 12 #[.agg #[.string (txt a.name), .string (txt a.key), .int .i64 a.kind, .int .u64 (a.num : Int), .string (txt a.text), .slice A f.len c]] W (Ans9 (.bool false) W)) := Lib.hid (fun W hW => by have h := rright_q hx hf W hW; rwa [hr] at h)
  clear HA hx hy hf hg h1 h2 hr0 hc0 hc1 hv1 hv2 hN hQ hK hl hl2 hr
  go_enter Try.func6, Try.ntmps6
  go_wp2_with fail
  refine (KA.out _ HB.out).mono ?_
  rintro r w1 ⟨rfl, hb⟩
  replace HX := Lib.hid (HX.out.below hb HX.out.lt)
  replace HY := Lib.hid (HY.out.below hb HY.out.lt)
  replace HB := Lib.hid (HB.out.trans (hb.mono HB.out.size))
  clear hb
  have ld0_0 := (HX.out.cell 0).trans rfl
  have ld0_1 := (HX.out.cell 1).trans rfl
  have ld0_2 := (HX.out.cell 2).trans rfl
  have ld0_3 := (HX.out.cell 3).trans rfl
  have ld0_4 := (HX.out.cell 4).trans rfl
  have ld0_5 := (HX.out.cell 5).trans rfl
  go_wp2_with fail
  refine (K1.out _ HB.out).mono ?_
  rintro r w2 ⟨rfl, hb⟩
  replace HX := Lib.hid (HX.out.below hb HX.out.lt)
  replace HY := Lib.hid (HY.out.below hb HY.out.lt)
  replace HB := Lib.hid (HB.out.trans (hb.mono HB.out.size))
  clear ld0_0 ld0_1 ld0_2 ld0_3 ld0_4 ld0_5 hb
  have ld0_0 := (HY.out.cell 0).trans rfl
  have ld0_1 := (HY.out.cell 1).trans rfl
  have ld0_2 := (HY.out.cell 2).trans rfl
  have ld0_3 := (HY.out.cell 3).trans rfl
  have ld0_4 := (HY.out.cell 4).trans rfl
  have ld0_5 := (HY.out.cell 5).trans rfl
  go_wp2_with fail
  refine (K2.out _ HB.out).mono ?_
  rintro r w3 ⟨rfl, hb⟩
  replace HX := Lib.hid (HX.out.below hb HX.out.lt)
  replace HY := Lib.hid (HY.out.below hb HY.out.lt)
  replace HB := Lib.hid (HB.out.trans (hb.mono HB.out.size))
  clear ld0_0 ld0_1 ld0_2 ld0_3 ld0_4 ld0_5 hb
  have qc0 := HC0.out _ HB.out
  have qc1 := HC1.out _ HB.out
  have ld0_0 := (HX.out.cell 0).trans rfl
  have ld0_1 := (HX.out.cell 1).trans rfl
  have ld0_2 := (HX.out.cell 2).trans rfl
  have ld0_3 := (HX.out.cell 3).trans rfl
  have ld0_4 := (HX.out.cell 4).trans rfl
  have ld0_5 := (HX.out.cell 5).trans rfl
  go_wp2_with fail
  refine (KR.out _ HB.out).mono ?_
  rintro r w4 ⟨rfl, hb⟩
  replace HX := Lib.hid (HX.out.below hb HX.out.lt)
  replace HY := Lib.hid (HY.out.below hb HY.out.lt)
  replace HB := Lib.hid (HB.out.trans (hb.mono HB.out.size))
  clear ld0_0 ld0_1 ld0_2 ld0_3 ld0_4 ld0_5 hb
  clear qc0 qc1
  go_wp2
  go_ret
  exact ⟨rfl, HB.out⟩
set_option maxRecDepth 100000 in
set_option maxHeartbeats 8000000 in
theorem treeOther_main_00 (a b : NdD) (f g : NdF) (A B : Option Addr) (c d : Nat) (l1 l2 : List Stp) (V U : Option Addr) (N m Q q : Nat) (r o K M : Nat) (w : World) (hx : LieN w (ndC a (.slice A f.len c)) (a, f)) (hy : LieN w (ndC b (.slice B g.len d)) (b, g)) (hf : f.size ≤ 1000000) (hg : g.size ≤ 1000000) (HA : Awake9 w) (hr0 : r < w.heap.size) (hc0 : w.cell? ⟨r, o, none⟩ = some (.slice V N m)) (hc1 : w.cell? ⟨r, o + 1, none⟩ = some (.slice U Q q)) (hv1 : WayV w.heap.size w (.slice V N m) l1) (hv2 : WayV w.heap.size w (.slice U Q q) l2) (hN : N = l1.length) (hQ : Q = l2.length) (hK : 2 ≤ K) (C : TreC w) (h1 : decide (f.size + 1 ≤ 300) = true) (h2 : decide (g.size + 1 ≤ 300) = true) (hl : ¬ 20 < N) (hl2 : ¬ 20 < Q) (hr : rgtX (a, f) = true) (oa sa ka : NdD) (of_ sf kf : NdF) (wv : Bool) (se : Nat) (he : se ≠ 0) (ce : Nat) (hce : ce ≠ 0) (hG : GetX (a, f) l2 = ((oa, of_), wv)) (hS : SetX (a, f) l1 (b, g) = ((sa, sf), se)) (hC : CutX (a, f) l1 = ((ka, kf), ce)) :
    Calls Try.prog 6 #[.agg #[.string (txt a.name), .string (txt a.key), .int .i64 a.kind, .int .u64 (a.num : Int), .string (txt a.text), .slice A f.len c], .slice (some ⟨r, o, none⟩) K M, .agg #[.string (txt b.name), .string (txt b.key), .int .i64 b.kind, .int .u64 (b.num : Int), .string (txt b.text), .slice B g.len d]] w (Ans9 (.bool true) w) := by
  have hb2 : Blk ((w.alloc (.cells #[.string (txt a.name), .string (txt a.key), .int .i64 a.kind, .int .u64 (a.num : Int), .string (txt a.text), .slice A f.len c] 27)).alloc (.cells #[.string (txt b.name), .string (txt b.key), .int .i64 b.kind, .int .u64 (b.num : Int), .string (txt b.text), .slice B g.len d] 27)) (w.heap.size + 1) 27 #[.string (txt b.name), .string (txt b.key), .int .i64 b.kind, .int .u64 (b.num : Int), .string (txt b.text), .slice B g.len d] := by
    have h := Blk.new (w.alloc (.cells #[.string (txt a.name), .string (txt a.key), .int .i64 a.kind, .int .u64 (a.num : Int), .string (txt a.text), .slice A f.len c] 27)) 27 #[.string (txt b.name), .string (txt b.key), .int .i64 b.kind, .int .u64 (b.num : Int), .string (txt b.text), .slice B g.len d]
    rw [show (w.alloc (.cells #[.string (txt a.name), .string (txt a.key), .int .i64 a.kind, .int .u64 (a.num : Int), .string (txt a.text), .slice A f.len c] 27)).heap.size = w.heap.size + 1 by simp] at h
    exact h
  have HX := Lib.hid ((Blk.new w 27 #[.string (txt a.name), .string (txt a.key), .int .i64 a.kind, .int .u64 (a.num : Int), .string (txt a.text), .slice A f.len c]).alloc (.cells #[.string (txt b.name), .string (txt b.key), .int .i64 b.kind, .int .u64 (b.num : Int), .string (txt b.text), .slice B g.len d] 27))
  have HY := Lib.hid hb2
  have HB : Hid (Below w.heap.size w ((w.alloc (.cells #[.string (txt a.name), .string (txt a.key), .int .i64 a.kind, .int .u64 (a.num : Int), .string (txt a.text), .slice A f.len c] 27)).alloc (.cells #[.string (txt b.name), .string (txt b.key), .int .i64 b.kind, .int .u64 (b.num : Int), .string (txt b.text), .slice B g.len d] 27))) := Lib.hid (((Below.refl _ _).alloc (Nat.le_refl _) _).alloc (by simp) _)
  clear hb2
  have KA := Lib.hid HA
  have K1 : Hid (∀ W, Below w.heap.size w W → Calls Try.prog 9 #[.agg #[.string (txt a.name), .string (txt a.key), .int .i64 a.kind, .int .u64 (a.num : Int), .string (txt a.text), .slice A f.len c]] W (Ans9 (.bool true) W)) := Lib.hid (fun W hW => by have h := small_q hx hf W hW; rwa [h1] at h)
  have K2 : Hid (∀ W, Below w.heap.size w W → Calls Try.prog 9 #[.agg #[.string (txt b.name), .string (txt b.key), .int .i64 b.kind, .int .u64 (b.num : Int), .string (txt b.text), .slice B g.len d]] W (Ans9 (.bool true) W)) := Lib.hid (fun W hW => by have h := small_q hy hg W hW; rwa [h2] at h)
  have HC0 : Hid (∀ W, Below w.heap.size w W → W.cell? ⟨r, o, none⟩ = some (.slice V N m)) := Lib.hid (fun W hW => (hW.cell (p := ⟨r, o, none⟩) hr0).trans hc0)
  have HC1 : Hid (∀ W, Below w.heap.size w W → W.cell? ⟨r, o + 1, none⟩ = some (.slice U Q q)) := Lib.hid (fun W hW => (hW.cell (p := ⟨r, o + 1, none⟩) hr0).trans hc1)
  have j0 : (0 : Int) < (K : Int) := by omega
  have j1 : (1 : Int) < (K : Int) := by omega
  have j2 : ¬ (K : Int) < 2 := by omega
  have j3 : 0 < K := by omega
  have j4 : 1 < K := by omega
  have n1 : ¬ (20 : Int) < (N : Int) := by omega
  have n2 : ¬ (20 : Int) < (Q : Int) := by omega
  have KR : Hid (∀ W, Below w.heap.size w W → Calls Try.prog 12 #[.agg #[.string (txt a.name), .string (txt a.key), .int .i64 a.kind, .int .u64 (a.num : Int), .string (txt a.text), .slice A f.len c]] W (Ans9 (.bool true) W)) := Lib.hid (fun W hW => by have h := rright_q hx hf W hW; rwa [hr] at h)
  have hln : l1.length ≤ 1000000 := by omega
  have hln2 : l2.length ≤ 1000000 := by omega
  have hs1 : of_.size ≤ 1000000 := by have h := GetX_few (a, f) l2; rw [hG] at h; simp only at h; omega
  have hs2 : sf.size ≤ 1000000 := by have h := SetX_few (a, f) (b, g) l1; have := of_decide_eq_true h1; have := of_decide_eq_true h2; rw [hS] at h; simp only at h; omega
  have hs3 : kf.size ≤ 1000000 := by have h := CutX_few (a, f) l1; rw [hC] at h; simp only at h; omega
  have ese1 : ((se : Int) == 0) = false := by rw [beq_eq_false_iff_ne]; omega
  have ese2 : ((se : Int) != 0) = true := by simp; omega
  have ece1 : ((ce : Int) == 0) = false := by rw [beq_eq_false_iff_ne]; omega
  have ece2 : ((ce : Int) != 0) = true := by simp; omega
  have KG : Hid (∀ W, Below w.heap.size w W → Calls Try.prog 20 #[.agg #[.string (txt a.name), .string (txt a.key), .int .i64 a.kind, .int .u64 (a.num : Int), .string (txt a.text), .slice A f.len c], .slice U Q q] W (RTreP (oa, of_) (.bool wv) W)) := Lib.hid (fun W hW => (by have h := get_q C (Below.refl _ _) hx hv2 hf hln2 W hW; rw [hG] at h; exact h.mono fun _ _ h => h.r))
  have KS : Hid (∀ W, Below w.heap.size w W → Calls Try.prog 22 #[.agg #[.string (txt a.name), .string (txt a.key), .int .i64 a.kind, .int .u64 (a.num : Int), .string (txt a.text), .slice A f.len c], .slice V N m, .agg #[.string (txt b.name), .string (txt b.key), .int .i64 b.kind, .int .u64 (b.num : Int), .string (txt b.text), .slice B g.len d]] W (RTreP (sa, sf) (.int .i64 (se : Int)) W)) := Lib.hid (fun W hW => (by have h := set_q C (Below.refl _ _) hx hy hv1 hf hg hr hln W hW; rw [hS] at h; exact h.mono fun _ _ h => h.r))
  have KC : Hid (∀ W, Below w.heap.size w W → Calls Try.prog 24 #[.agg #[.string (txt a.name), .string (txt a.key), .int .i64 a.kind, .int .u64 (a.num : Int), .string (txt a.text), .slice A f.len c], .slice V N m] W (RTreP (ka, kf) (.int .i64 (ce : Int)) W)) := Lib.hid (fun W hW => (by have h := cut_q C (Below.refl _ _) hx hv1 hf hr hln W hW; rw [hC] at h; exact h.mono fun _ _ h => h.r))
  have HC := Lib.hid C
  have HV1 := Lib.hid hv1
  have HV2 := Lib.hid hv2
  have HN := Lib.hid hN
  have HQ := Lib.hid hQ
  have HL2 := Lib.hid hln2
  have HSZ := Lib.hid (And.intro hs1 (And.intro hs2 hs3))
  clear HA hx hy hf hg h1 h2 hr0 hc0 hc1 hv1 hv2 hN hQ hK C hl hl2 hr hG hS hC hln hln2 hs1 hs2 hs3 he hce
  go_enter Try.func6, Try.ntmps6
  go_wp2_with fail
  refine (KA.out _ HB.out).mono ?_
  rintro r w1 ⟨rfl, hb⟩
  replace HX := Lib.hid (HX.out.below hb HX.out.lt)
  replace HY := Lib.hid (HY.out.below hb HY.out.lt)
  replace HB := Lib.hid (HB.out.trans (hb.mono HB.out.size))
  clear hb
  have ld0_0 := (HX.out.cell 0).trans rfl
  have ld0_1 := (HX.out.cell 1).trans rfl
  have ld0_2 := (HX.out.cell 2).trans rfl
  have ld0_3 := (HX.out.cell 3).trans rfl
  have ld0_4 := (HX.out.cell 4).trans rfl
  have ld0_5 := (HX.out.cell 5).trans rfl
  go_wp2_with fail
  refine (K1.out _ HB.out).mono ?_
  rintro r w2 ⟨rfl, hb⟩
  replace HX := Lib.hid (HX.out.below hb HX.out.lt)
  replace HY := Lib.hid (HY.out.below hb HY.out.lt)
  replace HB := Lib.hid (HB.out.trans (hb.mono HB.out.size))
  clear ld0_0 ld0_1 ld0_2 ld0_3 ld0_4 ld0_5 hb
  have ld0_0 := (HY.out.cell 0).trans rfl
  have ld0_1 := (HY.out.cell 1).trans rfl
  have ld0_2 := (HY.out.cell 2).trans rfl
  have ld0_3 := (HY.out.cell 3).trans rfl
  have ld0_4 := (HY.out.cell 4).trans rfl
  have ld0_5 := (HY.out.cell 5).trans rfl
  go_wp2_with fail
  refine (K2.out _ HB.out).mono ?_
  rintro r w3 ⟨rfl, hb⟩
  replace HX := Lib.hid (HX.out.below hb HX.out.lt)
  replace HY := Lib.hid (HY.out.below hb HY.out.lt)
  replace HB := Lib.hid (HB.out.trans (hb.mono HB.out.size))
  clear ld0_0 ld0_1 ld0_2 ld0_3 ld0_4 ld0_5 hb
  have qc0 := HC0.out _ HB.out
  have qc1 := HC1.out _ HB.out
  have ld0_0 := (HX.out.cell 0).trans rfl
  have ld0_1 := (HX.out.cell 1).trans rfl
  have ld0_2 := (HX.out.cell 2).trans rfl
  have ld0_3 := (HX.out.cell 3).trans rfl
  have ld0_4 := (HX.out.cell 4).trans rfl
  have ld0_5 := (HX.out.cell 5).trans rfl
  go_wp2_with fail
  refine (KR.out _ HB.out).mono ?_
  rintro r w4 ⟨rfl, hb⟩
  replace HX := Lib.hid (HX.out.below hb HX.out.lt)
  replace HY := Lib.hid (HY.out.below hb HY.out.lt)
  replace HB := Lib.hid (HB.out.trans (hb.mono HB.out.size))
  clear ld0_0 ld0_1 ld0_2 ld0_3 ld0_4 ld0_5 hb
  clear qc0 qc1
  have qc0 := HC0.out _ HB.out
  have qc1 := HC1.out _ HB.out
  go_upto_block 0 with fail
  go_cut [12] (fun p wr => OthL9 l1 l2 w4 p wr)
  case first =>
    go_wp2
    go_loopw [12, 13] (fun p i wr => ∃ (j : Nat) (pb : Bool), j ≤ N ∧ j ≤ Q ∧ i = .int .i64 (j : Int) ∧ p = .bool pb ∧ Hid (pb = true → parts l1 l2) ∧ Below w4.heap.size w4 wr) (fun _ i _ => N - (intOf i).toNat)
    case atStart => exact ⟨0, false, Nat.zero_le _, Nat.zero_le _, rfl, rfl, Lib.hid (fun h => by cases h), Below.refl _ _⟩
    case round =>
      obtain ⟨j, pb, hj1, hj2, rfl, rfl, HP, hb⟩ := hrel
      by_cases h9 : j < N
      · by_cases h8 : j < Q
        · have i1 : (j : Int) < (N : Int) := by omega
          have i2 : (j : Int) < (Q : Int) := by omega
          have i3 : (0 : Int) ≤ (j : Int) := by omega
          cases pb with
          | false =>
            obtain ⟨s, hs⟩ : ∃ s, l1[j]? = some s := ⟨_, List.getElem?_eq_getElem (by rw [← HN.out]; exact h9)⟩
            obtain ⟨t, ht⟩ : ∃ t, l2[j]? = some t := ⟨_, List.getElem?_eq_getElem (by rw [← HQ.out]; exact h8)⟩
            have hbw : Below w.heap.size w wr.drew := HB.out.trans (hb.drew.mono HB.out.size)
            obtain ⟨g1, o1, rfl, -, hm1, -, s0, s1⟩ := (HV1.out.below hbw).at hs
            obtain ⟨g2, o2, rfl, -, hm2, -, t0, t1⟩ := (HV2.out.below hbw).at ht
            have HBr := Lib.hid hb
            have e1 := step_neq s t
            have HS : Hid ((!decide (s = t)) = true → parts l1 l2) := Lib.hid (fun h => (parts_iff _ _).2 ⟨j, s, t, hs, ht, by simpa using h⟩)
            clear hs ht hbw hb hm1 hm2
            go_wp2_with fail
            go_region
            all_goals go_wp2
            all_goals go_roundw
            case rel => exact ⟨j + 1, !decide (s = t), by omega, by omega, by go_num, rfl, HS, HBr.out.drew⟩
            case measure => clear e1; simp [intOf]; omega
          | true =>
            have HBr := Lib.hid hb
            clear hj1 hj2 hb
            go_wp2
            go_meet
            exact ⟨true, rfl, Lib.hid (fun _ => HP.out trivial), HBr.out⟩
        · have i1 : (j : Int) < (N : Int) := by omega
          have i2 : ¬ (j : Int) < (Q : Int) := by omega
          have HBr := Lib.hid hb
          clear hj1 hj2 hb
          go_wp2
          go_meet
          exact ⟨pb, rfl, HP, HBr.out⟩
      · have i1 : ¬ (j : Int) < (N : Int) := by omega
        have HBr := Lib.hid hb
        clear hj1 hj2 hb
        go_wp2
        go_meet
        exact ⟨pb, rfl, HP, HBr.out⟩
  case rest =>
    obtain ⟨pb, rfl, HP, hb⟩ := hcut
    replace HX := Lib.hid (HX.out.below hb HX.out.lt)
    replace HY := Lib.hid (HY.out.below hb HY.out.lt)
    replace HB := Lib.hid (HB.out.trans (hb.mono HB.out.size))
    clear hb
    cases pb with
    | false =>
      go_wp2
      go_ret
      exact ⟨rfl, HB.out⟩
    | true =>
      have hP := HP.out rfl
      clear HP
      clear hP
      have ld0_0 := (HX.out.cell 0).trans rfl
      have ld0_1 := (HX.out.cell 1).trans rfl
      have ld0_2 := (HX.out.cell 2).trans rfl
      have ld0_3 := (HX.out.cell 3).trans rfl
      have ld0_4 := (HX.out.cell 4).trans rfl
      have ld0_5 := (HX.out.cell 5).trans rfl
      go_wp2_with fail
      refine (KG.out _ HB.out).mono ?_
      intro r w11 hr
      obtain ⟨Aoa, coa, rfl, hl, hb⟩ := hr.flat
      have hal : Below w11.heap.size w11 (w11.alloc (.cells #[.string (txt oa.name), .string (txt oa.key), .int .i64 oa.kind, .int .u64 (oa.num : Int), .string (txt oa.text), .slice Aoa of_.len coa] 27)) := (Below.refl _ _).alloc (Nat.le_refl _) _
      have hb2 := hb.trans (hal.mono hb.size)
      replace HX := Lib.hid (HX.out.below hb2 HX.out.lt)
      replace HY := Lib.hid (HY.out.below hb2 HY.out.lt)
      replace HB := Lib.hid (HB.out.trans (hb2.mono HB.out.size))
      have HXoa := Lib.hid (Blk.new w11 27 #[.string (txt oa.name), .string (txt oa.key), .int .i64 oa.kind, .int .u64 (oa.num : Int), .string (txt oa.text), .slice Aoa of_.len coa])
      have HLoa : Hid (LieN (w11.alloc (.cells #[.string (txt oa.name), .string (txt oa.key), .int .i64 oa.kind, .int .u64 (oa.num : Int), .string (txt oa.text), .slice Aoa of_.len coa] 27)) (ndC oa (.slice Aoa of_.len coa)) (oa, of_)) := Lib.hid (hl.below hal)
      clear ld0_0 ld0_1 ld0_2 ld0_3 ld0_4 ld0_5 hr hl hb hal hb2
      have ld0_0 := (HX.out.cell 0).trans rfl
      have ld0_1 := (HX.out.cell 1).trans rfl
      have ld0_2 := (HX.out.cell 2).trans rfl
      have ld0_3 := (HX.out.cell 3).trans rfl
      have ld0_4 := (HX.out.cell 4).trans rfl
      have ld0_5 := (HX.out.cell 5).trans rfl
      have ld1_0 := (HY.out.cell 0).trans rfl
      have ld1_1 := (HY.out.cell 1).trans rfl
      have ld1_2 := (HY.out.cell 2).trans rfl
      have ld1_3 := (HY.out.cell 3).trans rfl
      have ld1_4 := (HY.out.cell 4).trans rfl
      have ld1_5 := (HY.out.cell 5).trans rfl
      go_wp2_with fail
      refine (KS.out _ HB.out).mono ?_
      intro r w12 hr
      obtain ⟨Asa, csa, rfl, hl, hb⟩ := hr.flat
      have hal : Below w12.heap.size w12 (w12.alloc (.cells #[.string (txt sa.name), .string (txt sa.key), .int .i64 sa.kind, .int .u64 (sa.num : Int), .string (txt sa.text), .slice Asa sf.len csa] 27)) := (Below.refl _ _).alloc (Nat.le_refl _) _
      have hb2 := hb.trans (hal.mono hb.size)
      replace HX := Lib.hid (HX.out.below hb2 HX.out.lt)
      replace HY := Lib.hid (HY.out.below hb2 HY.out.lt)
      replace HXoa := Lib.hid (HXoa.out.below hb2 HXoa.out.lt)
      replace HLoa := Lib.hid (HLoa.out.below hb2)
      replace HB := Lib.hid (HB.out.trans (hb2.mono HB.out.size))
      have HXsa := Lib.hid (Blk.new w12 27 #[.string (txt sa.name), .string (txt sa.key), .int .i64 sa.kind, .int .u64 (sa.num : Int), .string (txt sa.text), .slice Asa sf.len csa])
      have HLsa : Hid (LieN (w12.alloc (.cells #[.string (txt sa.name), .string (txt sa.key), .int .i64 sa.kind, .int .u64 (sa.num : Int), .string (txt sa.text), .slice Asa sf.len csa] 27)) (ndC sa (.slice Asa sf.len csa)) (sa, sf)) := Lib.hid (hl.below hal)
      clear ld0_0 ld0_1 ld0_2 ld0_3 ld0_4 ld0_5 ld1_0 ld1_1 ld1_2 ld1_3 ld1_4 ld1_5 hr hl hb hal hb2
      have ld0_0 := (HX.out.cell 0).trans rfl
      have ld0_1 := (HX.out.cell 1).trans rfl
      have ld0_2 := (HX.out.cell 2).trans rfl
      have ld0_3 := (HX.out.cell 3).trans rfl
      have ld0_4 := (HX.out.cell 4).trans rfl
      have ld0_5 := (HX.out.cell 5).trans rfl
      go_wp2_with fail
      refine (KC.out _ HB.out).mono ?_
      intro r w13 hr
      obtain ⟨Aka, cka, rfl, hl, hb⟩ := hr.flat
      have hal : Below w13.heap.size w13 (w13.alloc (.cells #[.string (txt ka.name), .string (txt ka.key), .int .i64 ka.kind, .int .u64 (ka.num : Int), .string (txt ka.text), .slice Aka kf.len cka] 27)) := (Below.refl _ _).alloc (Nat.le_refl _) _
      have hb2 := hb.trans (hal.mono hb.size)
      replace HX := Lib.hid (HX.out.below hb2 HX.out.lt)
      replace HY := Lib.hid (HY.out.below hb2 HY.out.lt)
      replace HXoa := Lib.hid (HXoa.out.below hb2 HXoa.out.lt)
      replace HXsa := Lib.hid (HXsa.out.below hb2 HXsa.out.lt)
      replace HLoa := Lib.hid (HLoa.out.below hb2)
      replace HLsa := Lib.hid (HLsa.out.below hb2)
      replace HB := Lib.hid (HB.out.trans (hb2.mono HB.out.size))
      have HXka := Lib.hid (Blk.new w13 27 #[.string (txt ka.name), .string (txt ka.key), .int .i64 ka.kind, .int .u64 (ka.num : Int), .string (txt ka.text), .slice Aka kf.len cka])
      have HLka : Hid (LieN (w13.alloc (.cells #[.string (txt ka.name), .string (txt ka.key), .int .i64 ka.kind, .int .u64 (ka.num : Int), .string (txt ka.text), .slice Aka kf.len cka] 27)) (ndC ka (.slice Aka kf.len cka)) (ka, kf)) := Lib.hid (hl.below hal)
      clear ld0_0 ld0_1 ld0_2 ld0_3 ld0_4 ld0_5 hr hl hb hal hb2
      have ew : (wv != wv) = false := by cases wv <;> rfl
      go_wp2
      go_ret
      exact ⟨rfl, HB.out⟩
set_option maxRecDepth 100000 in
set_option maxHeartbeats 8000000 in
theorem treeOther_main_01 (a b : NdD) (f g : NdF) (A B : Option Addr) (c d : Nat) (l1 l2 : List Stp) (V U : Option Addr) (N m Q q : Nat) (r o K M : Nat) (w : World) (hx : LieN w (ndC a (.slice A f.len c)) (a, f)) (hy : LieN w (ndC b (.slice B g.len d)) (b, g)) (hf : f.size ≤ 1000000) (hg : g.size ≤ 1000000) (HA : Awake9 w) (hr0 : r < w.heap.size) (hc0 : w.cell? ⟨r, o, none⟩ = some (.slice V N m)) (hc1 : w.cell? ⟨r, o + 1, none⟩ = some (.slice U Q q)) (hv1 : WayV w.heap.size w (.slice V N m) l1) (hv2 : WayV w.heap.size w (.slice U Q q) l2) (hN : N = l1.length) (hQ : Q = l2.length) (hK : 2 ≤ K) (C : TreC w) (h1 : decide (f.size + 1 ≤ 300) = true) (h2 : decide (g.size + 1 ≤ 300) = true) (hl : ¬ 20 < N) (hl2 : ¬ 20 < Q) (hr : rgtX (a, f) = true) (oa sa ka : NdD) (of_ sf kf : NdF) (wv : Bool) (se : Nat) (he : se ≠ 0) (hG : GetX (a, f) l2 = ((oa, of_), wv)) (hS : SetX (a, f) l1 (b, g) = ((sa, sf), se)) (hC : CutX (a, f) l1 = ((ka, kf), 0)) (hD : parts l1 l2 → GetX (ka, kf) l2 = ((oa, of_), wv)) :
    Calls Try.prog 6 #[.agg #[.string (txt a.name), .string (txt a.key), .int .i64 a.kind, .int .u64 (a.num : Int), .string (txt a.text), .slice A f.len c], .slice (some ⟨r, o, none⟩) K M, .agg #[.string (txt b.name), .string (txt b.key), .int .i64 b.kind, .int .u64 (b.num : Int), .string (txt b.text), .slice B g.len d]] w (Ans9 (.bool true) w) := by
  have hb2 : Blk ((w.alloc (.cells #[.string (txt a.name), .string (txt a.key), .int .i64 a.kind, .int .u64 (a.num : Int), .string (txt a.text), .slice A f.len c] 27)).alloc (.cells #[.string (txt b.name), .string (txt b.key), .int .i64 b.kind, .int .u64 (b.num : Int), .string (txt b.text), .slice B g.len d] 27)) (w.heap.size + 1) 27 #[.string (txt b.name), .string (txt b.key), .int .i64 b.kind, .int .u64 (b.num : Int), .string (txt b.text), .slice B g.len d] := by
    have h := Blk.new (w.alloc (.cells #[.string (txt a.name), .string (txt a.key), .int .i64 a.kind, .int .u64 (a.num : Int), .string (txt a.text), .slice A f.len c] 27)) 27 #[.string (txt b.name), .string (txt b.key), .int .i64 b.kind, .int .u64 (b.num : Int), .string (txt b.text), .slice B g.len d]
    rw [show (w.alloc (.cells #[.string (txt a.name), .string (txt a.key), .int .i64 a.kind, .int .u64 (a.num : Int), .string (txt a.text), .slice A f.len c] 27)).heap.size = w.heap.size + 1 by simp] at h
    exact h
  have HX := Lib.hid ((Blk.new w 27 #[.string (txt a.name), .string (txt a.key), .int .i64 a.kind, .int .u64 (a.num : Int), .string (txt a.text), .slice A f.len c]).alloc (.cells #[.string (txt b.name), .string (txt b.key), .int .i64 b.kind, .int .u64 (b.num : Int), .string (txt b.text), .slice B g.len d] 27))
  have HY := Lib.hid hb2
  have HB : Hid (Below w.heap.size w ((w.alloc (.cells #[.string (txt a.name), .string (txt a.key), .int .i64 a.kind, .int .u64 (a.num : Int), .string (txt a.text), .slice A f.len c] 27)).alloc (.cells #[.string (txt b.name), .string (txt b.key), .int .i64 b.kind, .int .u64 (b.num : Int), .string (txt b.text), .slice B g.len d] 27))) := Lib.hid (((Below.refl _ _).alloc (Nat.le_refl _) _).alloc (by simp) _)
  clear hb2
  have KA := Lib.hid HA
  have K1 : Hid (∀ W, Below w.heap.size w W → Calls Try.prog 9 #[.agg #[.string (txt a.name), .string (txt a.key), .int .i64 a.kind, .int .u64 (a.num : Int), .string (txt a.text), .slice A f.len c]] W (Ans9 (.bool true) W)) := Lib.hid (fun W hW => by have h := small_q hx hf W hW; rwa [h1] at h)
  have K2 : Hid (∀ W, Below w.heap.size w W → Calls Try.prog 9 #[.agg #[.string (txt b.name), .string (txt b.key), .int .i64 b.kind, .int .u64 (b.num : Int), .string (txt b.text), .slice B g.len d]] W (Ans9 (.bool true) W)) := Lib.hid (fun W hW => by have h := small_q hy hg W hW; rwa [h2] at h)
  have HC0 : Hid (∀ W, Below w.heap.size w W → W.cell? ⟨r, o, none⟩ = some (.slice V N m)) := Lib.hid (fun W hW => (hW.cell (p := ⟨r, o, none⟩) hr0).trans hc0)
  have HC1 : Hid (∀ W, Below w.heap.size w W → W.cell? ⟨r, o + 1, none⟩ = some (.slice U Q q)) := Lib.hid (fun W hW => (hW.cell (p := ⟨r, o + 1, none⟩) hr0).trans hc1)
  have j0 : (0 : Int) < (K : Int) := by omega
  have j1 : (1 : Int) < (K : Int) := by omega
  have j2 : ¬ (K : Int) < 2 := by omega
  have j3 : 0 < K := by omega
  have j4 : 1 < K := by omega
  have n1 : ¬ (20 : Int) < (N : Int) := by omega
  have n2 : ¬ (20 : Int) < (Q : Int) := by omega
  have KR : Hid (∀ W, Below w.heap.size w W → Calls Try.prog 12 #[.agg #[.string (txt a.name), .string (txt a.key), .int .i64 a.kind, .int .u64 (a.num : Int), .string (txt a.text), .slice A f.len c]] W (Ans9 (.bool true) W)) := Lib.hid (fun W hW => by have h := rright_q hx hf W hW; rwa [hr] at h)
  have hln : l1.length ≤ 1000000 := by omega
  have hln2 : l2.length ≤ 1000000 := by omega
  have hs1 : of_.size ≤ 1000000 := by have h := GetX_few (a, f) l2; rw [hG] at h; simp only at h; omega
  have hs2 : sf.size ≤ 1000000 := by have h := SetX_few (a, f) (b, g) l1; have := of_decide_eq_true h1; have := of_decide_eq_true h2; rw [hS] at h; simp only at h; omega
  have hs3 : kf.size ≤ 1000000 := by have h := CutX_few (a, f) l1; rw [hC] at h; simp only at h; omega
  have ese1 : ((se : Int) == 0) = false := by rw [beq_eq_false_iff_ne]; omega
  have ese2 : ((se : Int) != 0) = true := by simp; omega
  have KG : Hid (∀ W, Below w.heap.size w W → Calls Try.prog 20 #[.agg #[.string (txt a.name), .string (txt a.key), .int .i64 a.kind, .int .u64 (a.num : Int), .string (txt a.text), .slice A f.len c], .slice U Q q] W (RTreP (oa, of_) (.bool wv) W)) := Lib.hid (fun W hW => (by have h := get_q C (Below.refl _ _) hx hv2 hf hln2 W hW; rw [hG] at h; exact h.mono fun _ _ h => h.r))
  have KS : Hid (∀ W, Below w.heap.size w W → Calls Try.prog 22 #[.agg #[.string (txt a.name), .string (txt a.key), .int .i64 a.kind, .int .u64 (a.num : Int), .string (txt a.text), .slice A f.len c], .slice V N m, .agg #[.string (txt b.name), .string (txt b.key), .int .i64 b.kind, .int .u64 (b.num : Int), .string (txt b.text), .slice B g.len d]] W (RTreP (sa, sf) (.int .i64 (se : Int)) W)) := Lib.hid (fun W hW => (by have h := set_q C (Below.refl _ _) hx hy hv1 hf hg hr hln W hW; rw [hS] at h; exact h.mono fun _ _ h => h.r))
  have KC : Hid (∀ W, Below w.heap.size w W → Calls Try.prog 24 #[.agg #[.string (txt a.name), .string (txt a.key), .int .i64 a.kind, .int .u64 (a.num : Int), .string (txt a.text), .slice A f.len c], .slice V N m] W (RTreP (ka, kf) (.int .i64 0) W)) := Lib.hid (fun W hW => (by have h := cut_q C (Below.refl _ _) hx hv1 hf hr hln W hW; rw [hC] at h; exact h.mono fun _ _ h => h.r))
  have HC := Lib.hid C
  have HV1 := Lib.hid hv1
  have HV2 := Lib.hid hv2
  have HN := Lib.hid hN
  have HQ := Lib.hid hQ
  have HL2 := Lib.hid hln2
  have HSZ := Lib.hid (And.intro hs1 (And.intro hs2 hs3))
  have HD := Lib.hid hD
  clear hD
  clear HA hx hy hf hg h1 h2 hr0 hc0 hc1 hv1 hv2 hN hQ hK C hl hl2 hr hG hS hC hln hln2 hs1 hs2 hs3 he
  go_enter Try.func6, Try.ntmps6
  go_wp2_with fail
  refine (KA.out _ HB.out).mono ?_
  rintro r w1 ⟨rfl, hb⟩
  replace HX := Lib.hid (HX.out.below hb HX.out.lt)
  replace HY := Lib.hid (HY.out.below hb HY.out.lt)
  replace HB := Lib.hid (HB.out.trans (hb.mono HB.out.size))
  clear hb
  have ld0_0 := (HX.out.cell 0).trans rfl
  have ld0_1 := (HX.out.cell 1).trans rfl
  have ld0_2 := (HX.out.cell 2).trans rfl
  have ld0_3 := (HX.out.cell 3).trans rfl
  have ld0_4 := (HX.out.cell 4).trans rfl
  have ld0_5 := (HX.out.cell 5).trans rfl
  go_wp2_with fail
  refine (K1.out _ HB.out).mono ?_
  rintro r w2 ⟨rfl, hb⟩
  replace HX := Lib.hid (HX.out.below hb HX.out.lt)
  replace HY := Lib.hid (HY.out.below hb HY.out.lt)
  replace HB := Lib.hid (HB.out.trans (hb.mono HB.out.size))
  clear ld0_0 ld0_1 ld0_2 ld0_3 ld0_4 ld0_5 hb
  have ld0_0 := (HY.out.cell 0).trans rfl
  have ld0_1 := (HY.out.cell 1).trans rfl
  have ld0_2 := (HY.out.cell 2).trans rfl
  have ld0_3 := (HY.out.cell 3).trans rfl
  have ld0_4 := (HY.out.cell 4).trans rfl
  have ld0_5 := (HY.out.cell 5).trans rfl
  go_wp2_with fail
  refine (K2.out _ HB.out).mono ?_
  rintro r w3 ⟨rfl, hb⟩
  replace HX := Lib.hid (HX.out.below hb HX.out.lt)
  replace HY := Lib.hid (HY.out.below hb HY.out.lt)
  replace HB := Lib.hid (HB.out.trans (hb.mono HB.out.size))
  clear ld0_0 ld0_1 ld0_2 ld0_3 ld0_4 ld0_5 hb
  have qc0 := HC0.out _ HB.out
  have qc1 := HC1.out _ HB.out
  have ld0_0 := (HX.out.cell 0).trans rfl
  have ld0_1 := (HX.out.cell 1).trans rfl
  have ld0_2 := (HX.out.cell 2).trans rfl
  have ld0_3 := (HX.out.cell 3).trans rfl
  have ld0_4 := (HX.out.cell 4).trans rfl
  have ld0_5 := (HX.out.cell 5).trans rfl
  go_wp2_with fail
  refine (KR.out _ HB.out).mono ?_
  rintro r w4 ⟨rfl, hb⟩
  replace HX := Lib.hid (HX.out.below hb HX.out.lt)
  replace HY := Lib.hid (HY.out.below hb HY.out.lt)
  replace HB := Lib.hid (HB.out.trans (hb.mono HB.out.size))
  clear ld0_0 ld0_1 ld0_2 ld0_3 ld0_4 ld0_5 hb
  clear qc0 qc1
  have qc0 := HC0.out _ HB.out
  have qc1 := HC1.out _ HB.out
  go_upto_block 0 with fail
  go_cut [12] (fun p wr => OthL9 l1 l2 w4 p wr)
  case first =>
    go_wp2
    go_loopw [12, 13] (fun p i wr => ∃ (j : Nat) (pb : Bool), j ≤ N ∧ j ≤ Q ∧ i = .int .i64 (j : Int) ∧ p = .bool pb ∧ Hid (pb = true → parts l1 l2) ∧ Below w4.heap.size w4 wr) (fun _ i _ => N - (intOf i).toNat)
    case atStart => exact ⟨0, false, Nat.zero_le _, Nat.zero_le _, rfl, rfl, Lib.hid (fun h => by cases h), Below.refl _ _⟩
    case round =>
      obtain ⟨j, pb, hj1, hj2, rfl, rfl, HP, hb⟩ := hrel
      by_cases h9 : j < N
      · by_cases h8 : j < Q
        · have i1 : (j : Int) < (N : Int) := by omega
          have i2 : (j : Int) < (Q : Int) := by omega
          have i3 : (0 : Int) ≤ (j : Int) := by omega
          cases pb with
          | false =>
            obtain ⟨s, hs⟩ : ∃ s, l1[j]? = some s := ⟨_, List.getElem?_eq_getElem (by rw [← HN.out]; exact h9)⟩
            obtain ⟨t, ht⟩ : ∃ t, l2[j]? = some t := ⟨_, List.getElem?_eq_getElem (by rw [← HQ.out]; exact h8)⟩
            have hbw : Below w.heap.size w wr.drew := HB.out.trans (hb.drew.mono HB.out.size)
            obtain ⟨g1, o1, rfl, -, hm1, -, s0, s1⟩ := (HV1.out.below hbw).at hs
            obtain ⟨g2, o2, rfl, -, hm2, -, t0, t1⟩ := (HV2.out.below hbw).at ht
            have HBr := Lib.hid hb
            have e1 := step_neq s t
            have HS : Hid ((!decide (s = t)) = true → parts l1 l2) := Lib.hid (fun h => (parts_iff _ _).2 ⟨j, s, t, hs, ht, by simpa using h⟩)
            clear hs ht hbw hb hm1 hm2
            go_wp2_with fail
            go_region
            all_goals go_wp2
            all_goals go_roundw
            case rel => exact ⟨j + 1, !decide (s = t), by omega, by omega, by go_num, rfl, HS, HBr.out.drew⟩
            case measure => clear e1; simp [intOf]; omega
          | true =>
            have HBr := Lib.hid hb
            clear hj1 hj2 hb
            go_wp2
            go_meet
            exact ⟨true, rfl, Lib.hid (fun _ => HP.out trivial), HBr.out⟩
        · have i1 : (j : Int) < (N : Int) := by omega
          have i2 : ¬ (j : Int) < (Q : Int) := by omega
          have HBr := Lib.hid hb
          clear hj1 hj2 hb
          go_wp2
          go_meet
          exact ⟨pb, rfl, HP, HBr.out⟩
      · have i1 : ¬ (j : Int) < (N : Int) := by omega
        have HBr := Lib.hid hb
        clear hj1 hj2 hb
        go_wp2
        go_meet
        exact ⟨pb, rfl, HP, HBr.out⟩
  case rest =>
    obtain ⟨pb, rfl, HP, hb⟩ := hcut
    replace HX := Lib.hid (HX.out.below hb HX.out.lt)
    replace HY := Lib.hid (HY.out.below hb HY.out.lt)
    replace HB := Lib.hid (HB.out.trans (hb.mono HB.out.size))
    clear hb
    cases pb with
    | false =>
      go_wp2
      go_ret
      exact ⟨rfl, HB.out⟩
    | true =>
      have hP := HP.out rfl
      clear HP
      have HD2 := Lib.hid (HD.out hP)
      clear hP
      have ld0_0 := (HX.out.cell 0).trans rfl
      have ld0_1 := (HX.out.cell 1).trans rfl
      have ld0_2 := (HX.out.cell 2).trans rfl
      have ld0_3 := (HX.out.cell 3).trans rfl
      have ld0_4 := (HX.out.cell 4).trans rfl
      have ld0_5 := (HX.out.cell 5).trans rfl
      go_wp2_with fail
      refine (KG.out _ HB.out).mono ?_
      intro r w11 hr
      obtain ⟨Aoa, coa, rfl, hl, hb⟩ := hr.flat
      have hal : Below w11.heap.size w11 (w11.alloc (.cells #[.string (txt oa.name), .string (txt oa.key), .int .i64 oa.kind, .int .u64 (oa.num : Int), .string (txt oa.text), .slice Aoa of_.len coa] 27)) := (Below.refl _ _).alloc (Nat.le_refl _) _
      have hb2 := hb.trans (hal.mono hb.size)
      replace HX := Lib.hid (HX.out.below hb2 HX.out.lt)
      replace HY := Lib.hid (HY.out.below hb2 HY.out.lt)
      replace HB := Lib.hid (HB.out.trans (hb2.mono HB.out.size))
      have HXoa := Lib.hid (Blk.new w11 27 #[.string (txt oa.name), .string (txt oa.key), .int .i64 oa.kind, .int .u64 (oa.num : Int), .string (txt oa.text), .slice Aoa of_.len coa])
      have HLoa : Hid (LieN (w11.alloc (.cells #[.string (txt oa.name), .string (txt oa.key), .int .i64 oa.kind, .int .u64 (oa.num : Int), .string (txt oa.text), .slice Aoa of_.len coa] 27)) (ndC oa (.slice Aoa of_.len coa)) (oa, of_)) := Lib.hid (hl.below hal)
      clear ld0_0 ld0_1 ld0_2 ld0_3 ld0_4 ld0_5 hr hl hb hal hb2
      have ld0_0 := (HX.out.cell 0).trans rfl
      have ld0_1 := (HX.out.cell 1).trans rfl
      have ld0_2 := (HX.out.cell 2).trans rfl
      have ld0_3 := (HX.out.cell 3).trans rfl
      have ld0_4 := (HX.out.cell 4).trans rfl
      have ld0_5 := (HX.out.cell 5).trans rfl
      have ld1_0 := (HY.out.cell 0).trans rfl
      have ld1_1 := (HY.out.cell 1).trans rfl
      have ld1_2 := (HY.out.cell 2).trans rfl
      have ld1_3 := (HY.out.cell 3).trans rfl
      have ld1_4 := (HY.out.cell 4).trans rfl
      have ld1_5 := (HY.out.cell 5).trans rfl
      go_wp2_with fail
      refine (KS.out _ HB.out).mono ?_
      intro r w12 hr
      obtain ⟨Asa, csa, rfl, hl, hb⟩ := hr.flat
      have hal : Below w12.heap.size w12 (w12.alloc (.cells #[.string (txt sa.name), .string (txt sa.key), .int .i64 sa.kind, .int .u64 (sa.num : Int), .string (txt sa.text), .slice Asa sf.len csa] 27)) := (Below.refl _ _).alloc (Nat.le_refl _) _
      have hb2 := hb.trans (hal.mono hb.size)
      replace HX := Lib.hid (HX.out.below hb2 HX.out.lt)
      replace HY := Lib.hid (HY.out.below hb2 HY.out.lt)
      replace HXoa := Lib.hid (HXoa.out.below hb2 HXoa.out.lt)
      replace HLoa := Lib.hid (HLoa.out.below hb2)
      replace HB := Lib.hid (HB.out.trans (hb2.mono HB.out.size))
      have HXsa := Lib.hid (Blk.new w12 27 #[.string (txt sa.name), .string (txt sa.key), .int .i64 sa.kind, .int .u64 (sa.num : Int), .string (txt sa.text), .slice Asa sf.len csa])
      have HLsa : Hid (LieN (w12.alloc (.cells #[.string (txt sa.name), .string (txt sa.key), .int .i64 sa.kind, .int .u64 (sa.num : Int), .string (txt sa.text), .slice Asa sf.len csa] 27)) (ndC sa (.slice Asa sf.len csa)) (sa, sf)) := Lib.hid (hl.below hal)
      clear ld0_0 ld0_1 ld0_2 ld0_3 ld0_4 ld0_5 ld1_0 ld1_1 ld1_2 ld1_3 ld1_4 ld1_5 hr hl hb hal hb2
      have ld0_0 := (HX.out.cell 0).trans rfl
      have ld0_1 := (HX.out.cell 1).trans rfl
      have ld0_2 := (HX.out.cell 2).trans rfl
      have ld0_3 := (HX.out.cell 3).trans rfl
      have ld0_4 := (HX.out.cell 4).trans rfl
      have ld0_5 := (HX.out.cell 5).trans rfl
      go_wp2_with fail
      refine (KC.out _ HB.out).mono ?_
      intro r w13 hr
      obtain ⟨Aka, cka, rfl, hl, hb⟩ := hr.flat
      have hal : Below w13.heap.size w13 (w13.alloc (.cells #[.string (txt ka.name), .string (txt ka.key), .int .i64 ka.kind, .int .u64 (ka.num : Int), .string (txt ka.text), .slice Aka kf.len cka] 27)) := (Below.refl _ _).alloc (Nat.le_refl _) _
      have hb2 := hb.trans (hal.mono hb.size)
      replace HX := Lib.hid (HX.out.below hb2 HX.out.lt)
      replace HY := Lib.hid (HY.out.below hb2 HY.out.lt)
      replace HXoa := Lib.hid (HXoa.out.below hb2 HXoa.out.lt)
      replace HXsa := Lib.hid (HXsa.out.below hb2 HXsa.out.lt)
      replace HLoa := Lib.hid (HLoa.out.below hb2)
      replace HLsa := Lib.hid (HLsa.out.below hb2)
      replace HB := Lib.hid (HB.out.trans (hb2.mono HB.out.size))
      have HXka := Lib.hid (Blk.new w13 27 #[.string (txt ka.name), .string (txt ka.key), .int .i64 ka.kind, .int .u64 (ka.num : Int), .string (txt ka.text), .slice Aka kf.len cka])
      have HLka : Hid (LieN (w13.alloc (.cells #[.string (txt ka.name), .string (txt ka.key), .int .i64 ka.kind, .int .u64 (ka.num : Int), .string (txt ka.text), .slice Aka kf.len cka] 27)) (ndC ka (.slice Aka kf.len cka)) (ka, kf)) := Lib.hid (hl.below hal)
      clear ld0_0 ld0_1 ld0_2 ld0_3 ld0_4 ld0_5 hr hl hb hal hb2
      have ew : (wv != wv) = false := by cases wv <;> rfl
      have K5ka : Hid (Calls Try.prog 20 #[.agg #[.string (txt ka.name), .string (txt ka.key), .int .i64 ka.kind, .int .u64 (ka.num : Int), .string (txt ka.text), .slice Aka kf.len cka], .slice U Q q] (w13.alloc (.cells #[.string (txt ka.name), .string (txt ka.key), .int .i64 ka.kind, .int .u64 (ka.num : Int), .string (txt ka.text), .slice Aka kf.len cka] 27)) (RTreP (oa, of_) (.bool wv) (w13.alloc (.cells #[.string (txt ka.name), .string (txt ka.key), .int .i64 ka.kind, .int .u64 (ka.num : Int), .string (txt ka.text), .slice Aka kf.len cka] 27)))) := Lib.hid (by have h := get_q HC.out HB.out HLka.out (HV2.out.below HB.out) HSZ.out.2.2 HL2.out _ (Below.refl _ _); rw [HD2.out] at h; exact h.mono fun _ _ h => h.r)
      have ld0_0 := (HXka.out.cell 0).trans rfl
      have ld0_1 := (HXka.out.cell 1).trans rfl
      have ld0_2 := (HXka.out.cell 2).trans rfl
      have ld0_3 := (HXka.out.cell 3).trans rfl
      have ld0_4 := (HXka.out.cell 4).trans rfl
      have ld0_5 := (HXka.out.cell 5).trans rfl
      go_wp2_with fail
      refine K5ka.out.mono ?_
      intro r w14 hr
      obtain ⟨Azka, czka, rfl, hl, hb⟩ := hr.flat
      have hal : Below w14.heap.size w14 (w14.alloc (.cells #[.string (txt oa.name), .string (txt oa.key), .int .i64 oa.kind, .int .u64 (oa.num : Int), .string (txt oa.text), .slice Azka of_.len czka] 27)) := (Below.refl _ _).alloc (Nat.le_refl _) _
      have hb2 := hb.trans (hal.mono hb.size)
      replace HX := Lib.hid (HX.out.below hb2 HX.out.lt)
      replace HY := Lib.hid (HY.out.below hb2 HY.out.lt)
      replace HXoa := Lib.hid (HXoa.out.below hb2 HXoa.out.lt)
      replace HXsa := Lib.hid (HXsa.out.below hb2 HXsa.out.lt)
      replace HXka := Lib.hid (HXka.out.below hb2 HXka.out.lt)
      replace HLoa := Lib.hid (HLoa.out.below hb2)
      replace HLsa := Lib.hid (HLsa.out.below hb2)
      replace HLka := Lib.hid (HLka.out.below hb2)
      replace HB := Lib.hid (HB.out.trans (hb2.mono HB.out.size))
      have HXzka := Lib.hid (Blk.new w14 27 #[.string (txt oa.name), .string (txt oa.key), .int .i64 oa.kind, .int .u64 (oa.num : Int), .string (txt oa.text), .slice Azka of_.len czka])
      have HLzka : Hid (LieN (w14.alloc (.cells #[.string (txt oa.name), .string (txt oa.key), .int .i64 oa.kind, .int .u64 (oa.num : Int), .string (txt oa.text), .slice Azka of_.len czka] 27)) (ndC oa (.slice Azka of_.len czka)) (oa, of_)) := Lib.hid (hl.below hal)
      clear ld0_0 ld0_1 ld0_2 ld0_3 ld0_4 ld0_5 hr hl hb hal hb2
      have ld0_0 := (HXoa.out.cell 0).trans rfl
      have ld0_1 := (HXoa.out.cell 1).trans rfl
      have ld0_2 := (HXoa.out.cell 2).trans rfl
      have ld0_3 := (HXoa.out.cell 3).trans rfl
      have ld0_4 := (HXoa.out.cell 4).trans rfl
      have ld0_5 := (HXoa.out.cell 5).trans rfl
      have ld1_0 := (HXzka.out.cell 0).trans rfl
      have ld1_1 := (HXzka.out.cell 1).trans rfl
      have ld1_2 := (HXzka.out.cell 2).trans rfl
      have ld1_3 := (HXzka.out.cell 3).trans rfl
      have ld1_4 := (HXzka.out.cell 4).trans rfl
      have ld1_5 := (HXzka.out.cell 5).trans rfl
      go_wp2_with fail
      refine (rsame_eq HLoa.out HLzka.out HSZ.out.1).mono ?_
      rintro r w15 ⟨rfl, hb⟩
      replace HX := Lib.hid (HX.out.below hb HX.out.lt)
      replace HY := Lib.hid (HY.out.below hb HY.out.lt)
      replace HXoa := Lib.hid (HXoa.out.below hb HXoa.out.lt)
      replace HXsa := Lib.hid (HXsa.out.below hb HXsa.out.lt)
      replace HXka := Lib.hid (HXka.out.below hb HXka.out.lt)
      replace HXzka := Lib.hid (HXzka.out.below hb HXzka.out.lt)
      replace HLoa := Lib.hid (HLoa.out.below hb)
      replace HLsa := Lib.hid (HLsa.out.below hb)
      replace HLka := Lib.hid (HLka.out.below hb)
      replace HLzka := Lib.hid (HLzka.out.below hb)
      replace HB := Lib.hid (HB.out.trans (hb.mono HB.out.size))
      clear ld0_0 ld0_1 ld0_2 ld0_3 ld0_4 ld0_5 ld1_0 ld1_1 ld1_2 ld1_3 ld1_4 ld1_5 hb
      go_wp2
      go_ret
      exact ⟨rfl, HB.out⟩
set_option maxRecDepth 100000 in
set_option maxHeartbeats 8000000 in
theorem treeOther_main_10 (a b : NdD) (f g : NdF) (A B : Option Addr) (c d : Nat) (l1 l2 : List Stp) (V U : Option Addr) (N m Q q : Nat) (r o K M : Nat) (w : World) (hx : LieN w (ndC a (.slice A f.len c)) (a, f)) (hy : LieN w (ndC b (.slice B g.len d)) (b, g)) (hf : f.size ≤ 1000000) (hg : g.size ≤ 1000000) (HA : Awake9 w) (hr0 : r < w.heap.size) (hc0 : w.cell? ⟨r, o, none⟩ = some (.slice V N m)) (hc1 : w.cell? ⟨r, o + 1, none⟩ = some (.slice U Q q)) (hv1 : WayV w.heap.size w (.slice V N m) l1) (hv2 : WayV w.heap.size w (.slice U Q q) l2) (hN : N = l1.length) (hQ : Q = l2.length) (hK : 2 ≤ K) (C : TreC w) (h1 : decide (f.size + 1 ≤ 300) = true) (h2 : decide (g.size + 1 ≤ 300) = true) (hl : ¬ 20 < N) (hl2 : ¬ 20 < Q) (hr : rgtX (a, f) = true) (oa sa ka : NdD) (of_ sf kf : NdF) (wv : Bool) (ce : Nat) (hce : ce ≠ 0) (hG : GetX (a, f) l2 = ((oa, of_), wv)) (hS : SetX (a, f) l1 (b, g) = ((sa, sf), 0)) (hC : CutX (a, f) l1 = ((ka, kf), ce)) (hM : parts l1 l2 → GetX (sa, sf) l2 = ((oa, of_), wv)) :
    Calls Try.prog 6 #[.agg #[.string (txt a.name), .string (txt a.key), .int .i64 a.kind, .int .u64 (a.num : Int), .string (txt a.text), .slice A f.len c], .slice (some ⟨r, o, none⟩) K M, .agg #[.string (txt b.name), .string (txt b.key), .int .i64 b.kind, .int .u64 (b.num : Int), .string (txt b.text), .slice B g.len d]] w (Ans9 (.bool true) w) := by
  have hb2 : Blk ((w.alloc (.cells #[.string (txt a.name), .string (txt a.key), .int .i64 a.kind, .int .u64 (a.num : Int), .string (txt a.text), .slice A f.len c] 27)).alloc (.cells #[.string (txt b.name), .string (txt b.key), .int .i64 b.kind, .int .u64 (b.num : Int), .string (txt b.text), .slice B g.len d] 27)) (w.heap.size + 1) 27 #[.string (txt b.name), .string (txt b.key), .int .i64 b.kind, .int .u64 (b.num : Int), .string (txt b.text), .slice B g.len d] := by
    have h := Blk.new (w.alloc (.cells #[.string (txt a.name), .string (txt a.key), .int .i64 a.kind, .int .u64 (a.num : Int), .string (txt a.text), .slice A f.len c] 27)) 27 #[.string (txt b.name), .string (txt b.key), .int .i64 b.kind, .int .u64 (b.num : Int), .string (txt b.text), .slice B g.len d]
    rw [show (w.alloc (.cells #[.string (txt a.name), .string (txt a.key), .int .i64 a.kind, .int .u64 (a.num : Int), .string (txt a.text), .slice A f.len c] 27)).heap.size = w.heap.size + 1 by simp] at h
    exact h
  have HX := Lib.hid ((Blk.new w 27 #[.string (txt a.name), .string (txt a.key), .int .i64 a.kind, .int .u64 (a.num : Int), .string (txt a.text), .slice A f.len c]).alloc (.cells #[.string (txt b.name), .string (txt b.key), .int .i64 b.kind, .int .u64 (b.num : Int), .string (txt b.text), .slice B g.len d] 27))
  have HY := Lib.hid hb2
  have HB : Hid (Below w.heap.size w ((w.alloc (.cells #[.string (txt a.name), .string (txt a.key), .int .i64 a.kind, .int .u64 (a.num : Int), .string (txt a.text), .slice A f.len c] 27)).alloc (.cells #[.string (txt b.name), .string (txt b.key), .int .i64 b.kind, .int .u64 (b.num : Int), .string (txt b.text), .slice B g.len d] 27))) := Lib.hid (((Below.refl _ _).alloc (Nat.le_refl _) _).alloc (by simp) _)
  clear hb2
  have KA := Lib.hid HA
  have K1 : Hid (∀ W, Below w.heap.size w W → Calls Try.prog 9 #[.agg #[.string (txt a.name), .string (txt a.key), .int .i64 a.kind, .int .u64 (a.num : Int), .string (txt a.text), .slice A f.len c]] W (Ans9 (.bool true) W)) := Lib.hid (fun W hW => by have h := small_q hx hf W hW; rwa [h1] at h)
  have K2 : Hid (∀ W, Below w.heap.size w W → Calls Try.prog 9 #[.agg #[.string (txt b.name), .string (txt b.key), .int .i64 b.kind, .int .u64 (b.num : Int), .string (txt b.text), .slice B g.len d]] W (Ans9 (.bool true) W)) := Lib.hid (fun W hW => by have h := small_q hy hg W hW; rwa [h2] at h)
  have HC0 : Hid (∀ W, Below w.heap.size w W → W.cell? ⟨r, o, none⟩ = some (.slice V N m)) := Lib.hid (fun W hW => (hW.cell (p := ⟨r, o, none⟩) hr0).trans hc0)
  have HC1 : Hid (∀ W, Below w.heap.size w W → W.cell? ⟨r, o + 1, none⟩ = some (.slice U Q q)) := Lib.hid (fun W hW => (hW.cell (p := ⟨r, o + 1, none⟩) hr0).trans hc1)
  have j0 : (0 : Int) < (K : Int) := by omega
  have j1 : (1 : Int) < (K : Int) := by omega
  have j2 : ¬ (K : Int) < 2 := by omega
  have j3 : 0 < K := by omega
  have j4 : 1 < K := by omega
  have n1 : ¬ (20 : Int) < (N : Int) := by omega
  have n2 : ¬ (20 : Int) < (Q : Int) := by omega
  have KR : Hid (∀ W, Below w.heap.size w W → Calls Try.prog 12 #[.agg #[.string (txt a.name), .string (txt a.key), .int .i64 a.kind, .int .u64 (a.num : Int), .string (txt a.text), .slice A f.len c]] W (Ans9 (.bool true) W)) := Lib.hid (fun W hW => by have h := rright_q hx hf W hW; rwa [hr] at h)
  have hln : l1.length ≤ 1000000 := by omega
  have hln2 : l2.length ≤ 1000000 := by omega
  have hs1 : of_.size ≤ 1000000 := by have h := GetX_few (a, f) l2; rw [hG] at h; simp only at h; omega
  have hs2 : sf.size ≤ 1000000 := by have h := SetX_few (a, f) (b, g) l1; have := of_decide_eq_true h1; have := of_decide_eq_true h2; rw [hS] at h; simp only at h; omega
  have hs3 : kf.size ≤ 1000000 := by have h := CutX_few (a, f) l1; rw [hC] at h; simp only at h; omega
  have ece1 : ((ce : Int) == 0) = false := by rw [beq_eq_false_iff_ne]; omega
  have ece2 : ((ce : Int) != 0) = true := by simp; omega
  have KG : Hid (∀ W, Below w.heap.size w W → Calls Try.prog 20 #[.agg #[.string (txt a.name), .string (txt a.key), .int .i64 a.kind, .int .u64 (a.num : Int), .string (txt a.text), .slice A f.len c], .slice U Q q] W (RTreP (oa, of_) (.bool wv) W)) := Lib.hid (fun W hW => (by have h := get_q C (Below.refl _ _) hx hv2 hf hln2 W hW; rw [hG] at h; exact h.mono fun _ _ h => h.r))
  have KS : Hid (∀ W, Below w.heap.size w W → Calls Try.prog 22 #[.agg #[.string (txt a.name), .string (txt a.key), .int .i64 a.kind, .int .u64 (a.num : Int), .string (txt a.text), .slice A f.len c], .slice V N m, .agg #[.string (txt b.name), .string (txt b.key), .int .i64 b.kind, .int .u64 (b.num : Int), .string (txt b.text), .slice B g.len d]] W (RTreP (sa, sf) (.int .i64 0) W)) := Lib.hid (fun W hW => (by have h := set_q C (Below.refl _ _) hx hy hv1 hf hg hr hln W hW; rw [hS] at h; exact h.mono fun _ _ h => h.r))
  have KC : Hid (∀ W, Below w.heap.size w W → Calls Try.prog 24 #[.agg #[.string (txt a.name), .string (txt a.key), .int .i64 a.kind, .int .u64 (a.num : Int), .string (txt a.text), .slice A f.len c], .slice V N m] W (RTreP (ka, kf) (.int .i64 (ce : Int)) W)) := Lib.hid (fun W hW => (by have h := cut_q C (Below.refl _ _) hx hv1 hf hr hln W hW; rw [hC] at h; exact h.mono fun _ _ h => h.r))
  have HC := Lib.hid C
  have HV1 := Lib.hid hv1
  have HV2 := Lib.hid hv2
  have HN := Lib.hid hN
  have HQ := Lib.hid hQ
  have HL2 := Lib.hid hln2
  have HSZ := Lib.hid (And.intro hs1 (And.intro hs2 hs3))
  have HM := Lib.hid hM
  clear hM
  clear HA hx hy hf hg h1 h2 hr0 hc0 hc1 hv1 hv2 hN hQ hK C hl hl2 hr hG hS hC hln hln2 hs1 hs2 hs3 hce
  go_enter Try.func6, Try.ntmps6
  go_wp2_with fail
  refine (KA.out _ HB.out).mono ?_
  rintro r w1 ⟨rfl, hb⟩
  replace HX := Lib.hid (HX.out.below hb HX.out.lt)
  replace HY := Lib.hid (HY.out.below hb HY.out.lt)
  replace HB := Lib.hid (HB.out.trans (hb.mono HB.out.size))
  clear hb
  have ld0_0 := (HX.out.cell 0).trans rfl
  have ld0_1 := (HX.out.cell 1).trans rfl
  have ld0_2 := (HX.out.cell 2).trans rfl
  have ld0_3 := (HX.out.cell 3).trans rfl
  have ld0_4 := (HX.out.cell 4).trans rfl
  have ld0_5 := (HX.out.cell 5).trans rfl
  go_wp2_with fail
  refine (K1.out _ HB.out).mono ?_
  rintro r w2 ⟨rfl, hb⟩
  replace HX := Lib.hid (HX.out.below hb HX.out.lt)
  replace HY := Lib.hid (HY.out.below hb HY.out.lt)
  replace HB := Lib.hid (HB.out.trans (hb.mono HB.out.size))
  clear ld0_0 ld0_1 ld0_2 ld0_3 ld0_4 ld0_5 hb
  have ld0_0 := (HY.out.cell 0).trans rfl
  have ld0_1 := (HY.out.cell 1).trans rfl
  have ld0_2 := (HY.out.cell 2).trans rfl
  have ld0_3 := (HY.out.cell 3).trans rfl
  have ld0_4 := (HY.out.cell 4).trans rfl
  have ld0_5 := (HY.out.cell 5).trans rfl
  go_wp2_with fail
  refine (K2.out _ HB.out).mono ?_
  rintro r w3 ⟨rfl, hb⟩
  replace HX := Lib.hid (HX.out.below hb HX.out.lt)
  replace HY := Lib.hid (HY.out.below hb HY.out.lt)
  replace HB := Lib.hid (HB.out.trans (hb.mono HB.out.size))
  clear ld0_0 ld0_1 ld0_2 ld0_3 ld0_4 ld0_5 hb
  have qc0 := HC0.out _ HB.out
  have qc1 := HC1.out _ HB.out
  have ld0_0 := (HX.out.cell 0).trans rfl
  have ld0_1 := (HX.out.cell 1).trans rfl
  have ld0_2 := (HX.out.cell 2).trans rfl
  have ld0_3 := (HX.out.cell 3).trans rfl
  have ld0_4 := (HX.out.cell 4).trans rfl
  have ld0_5 := (HX.out.cell 5).trans rfl
  go_wp2_with fail
  refine (KR.out _ HB.out).mono ?_
  rintro r w4 ⟨rfl, hb⟩
  replace HX := Lib.hid (HX.out.below hb HX.out.lt)
  replace HY := Lib.hid (HY.out.below hb HY.out.lt)
  replace HB := Lib.hid (HB.out.trans (hb.mono HB.out.size))
  clear ld0_0 ld0_1 ld0_2 ld0_3 ld0_4 ld0_5 hb
  clear qc0 qc1
  have qc0 := HC0.out _ HB.out
  have qc1 := HC1.out _ HB.out
  go_upto_block 0 with fail
  go_cut [12] (fun p wr => OthL9 l1 l2 w4 p wr)
  case first =>
    go_wp2
    go_loopw [12, 13] (fun p i wr => ∃ (j : Nat) (pb : Bool), j ≤ N ∧ j ≤ Q ∧ i = .int .i64 (j : Int) ∧ p = .bool pb ∧ Hid (pb = true → parts l1 l2) ∧ Below w4.heap.size w4 wr) (fun _ i _ => N - (intOf i).toNat)
    case atStart => exact ⟨0, false, Nat.zero_le _, Nat.zero_le _, rfl, rfl, Lib.hid (fun h => by cases h), Below.refl _ _⟩
    case round =>
      obtain ⟨j, pb, hj1, hj2, rfl, rfl, HP, hb⟩ := hrel
      by_cases h9 : j < N
      · by_cases h8 : j < Q
        · have i1 : (j : Int) < (N : Int) := by omega
          have i2 : (j : Int) < (Q : Int) := by omega
          have i3 : (0 : Int) ≤ (j : Int) := by omega
          cases pb with
          | false =>
            obtain ⟨s, hs⟩ : ∃ s, l1[j]? = some s := ⟨_, List.getElem?_eq_getElem (by rw [← HN.out]; exact h9)⟩
            obtain ⟨t, ht⟩ : ∃ t, l2[j]? = some t := ⟨_, List.getElem?_eq_getElem (by rw [← HQ.out]; exact h8)⟩
            have hbw : Below w.heap.size w wr.drew := HB.out.trans (hb.drew.mono HB.out.size)
            obtain ⟨g1, o1, rfl, -, hm1, -, s0, s1⟩ := (HV1.out.below hbw).at hs
            obtain ⟨g2, o2, rfl, -, hm2, -, t0, t1⟩ := (HV2.out.below hbw).at ht
            have HBr := Lib.hid hb
            have e1 := step_neq s t
            have HS : Hid ((!decide (s = t)) = true → parts l1 l2) := Lib.hid (fun h => (parts_iff _ _).2 ⟨j, s, t, hs, ht, by simpa using h⟩)
            clear hs ht hbw hb hm1 hm2
            go_wp2_with fail
            go_region
            all_goals go_wp2
            all_goals go_roundw
            case rel => exact ⟨j + 1, !decide (s = t), by omega, by omega, by go_num, rfl, HS, HBr.out.drew⟩
            case measure => clear e1; simp [intOf]; omega
          | true =>
            have HBr := Lib.hid hb
            clear hj1 hj2 hb
            go_wp2
            go_meet
            exact ⟨true, rfl, Lib.hid (fun _ => HP.out trivial), HBr.out⟩
        · have i1 : (j : Int) < (N : Int) := by omega
          have i2 : ¬ (j : Int) < (Q : Int) := by omega
          have HBr := Lib.hid hb
          clear hj1 hj2 hb
          go_wp2
          go_meet
          exact ⟨pb, rfl, HP, HBr.out⟩
      · have i1 : ¬ (j : Int) < (N : Int) := by omega
        have HBr := Lib.hid hb
        clear hj1 hj2 hb
        go_wp2
        go_meet
        exact ⟨pb, rfl, HP, HBr.out⟩
  case rest =>
    obtain ⟨pb, rfl, HP, hb⟩ := hcut
    replace HX := Lib.hid (HX.out.below hb HX.out.lt)
    replace HY := Lib.hid (HY.out.below hb HY.out.lt)
    replace HB := Lib.hid (HB.out.trans (hb.mono HB.out.size))
    clear hb
    cases pb with
    | false =>
      go_wp2
      go_ret
      exact ⟨rfl, HB.out⟩
    | true =>
      have hP := HP.out rfl
      clear HP
      have HM2 := Lib.hid (HM.out hP)
      clear hP
      have ld0_0 := (HX.out.cell 0).trans rfl
      have ld0_1 := (HX.out.cell 1).trans rfl
      have ld0_2 := (HX.out.cell 2).trans rfl
      have ld0_3 := (HX.out.cell 3).trans rfl
      have ld0_4 := (HX.out.cell 4).trans rfl
      have ld0_5 := (HX.out.cell 5).trans rfl
      go_wp2_with fail
      refine (KG.out _ HB.out).mono ?_
      intro r w11 hr
      obtain ⟨Aoa, coa, rfl, hl, hb⟩ := hr.flat
      have hal : Below w11.heap.size w11 (w11.alloc (.cells #[.string (txt oa.name), .string (txt oa.key), .int .i64 oa.kind, .int .u64 (oa.num : Int), .string (txt oa.text), .slice Aoa of_.len coa] 27)) := (Below.refl _ _).alloc (Nat.le_refl _) _
      have hb2 := hb.trans (hal.mono hb.size)
      replace HX := Lib.hid (HX.out.below hb2 HX.out.lt)
      replace HY := Lib.hid (HY.out.below hb2 HY.out.lt)
      replace HB := Lib.hid (HB.out.trans (hb2.mono HB.out.size))
      have HXoa := Lib.hid (Blk.new w11 27 #[.string (txt oa.name), .string (txt oa.key), .int .i64 oa.kind, .int .u64 (oa.num : Int), .string (txt oa.text), .slice Aoa of_.len coa])
      have HLoa : Hid (LieN (w11.alloc (.cells #[.string (txt oa.name), .string (txt oa.key), .int .i64 oa.kind, .int .u64 (oa.num : Int), .string (txt oa.text), .slice Aoa of_.len coa] 27)) (ndC oa (.slice Aoa of_.len coa)) (oa, of_)) := Lib.hid (hl.below hal)
      clear ld0_0 ld0_1 ld0_2 ld0_3 ld0_4 ld0_5 hr hl hb hal hb2
      have ld0_0 := (HX.out.cell 0).trans rfl
      have ld0_1 := (HX.out.cell 1).trans rfl
      have ld0_2 := (HX.out.cell 2).trans rfl
      have ld0_3 := (HX.out.cell 3).trans rfl
      have ld0_4 := (HX.out.cell 4).trans rfl
      have ld0_5 := (HX.out.cell 5).trans rfl
      have ld1_0 := (HY.out.cell 0).trans rfl
      have ld1_1 := (HY.out.cell 1).trans rfl
      have ld1_2 := (HY.out.cell 2).trans rfl
      have ld1_3 := (HY.out.cell 3).trans rfl
      have ld1_4 := (HY.out.cell 4).trans rfl
      have ld1_5 := (HY.out.cell 5).trans rfl
      go_wp2_with fail
      refine (KS.out _ HB.out).mono ?_
      intro r w12 hr
      obtain ⟨Asa, csa, rfl, hl, hb⟩ := hr.flat
      have hal : Below w12.heap.size w12 (w12.alloc (.cells #[.string (txt sa.name), .string (txt sa.key), .int .i64 sa.kind, .int .u64 (sa.num : Int), .string (txt sa.text), .slice Asa sf.len csa] 27)) := (Below.refl _ _).alloc (Nat.le_refl _) _
      have hb2 := hb.trans (hal.mono hb.size)
      replace HX := Lib.hid (HX.out.below hb2 HX.out.lt)
      replace HY := Lib.hid (HY.out.below hb2 HY.out.lt)
      replace HXoa := Lib.hid (HXoa.out.below hb2 HXoa.out.lt)
      replace HLoa := Lib.hid (HLoa.out.below hb2)
      replace HB := Lib.hid (HB.out.trans (hb2.mono HB.out.size))
      have HXsa := Lib.hid (Blk.new w12 27 #[.string (txt sa.name), .string (txt sa.key), .int .i64 sa.kind, .int .u64 (sa.num : Int), .string (txt sa.text), .slice Asa sf.len csa])
      have HLsa : Hid (LieN (w12.alloc (.cells #[.string (txt sa.name), .string (txt sa.key), .int .i64 sa.kind, .int .u64 (sa.num : Int), .string (txt sa.text), .slice Asa sf.len csa] 27)) (ndC sa (.slice Asa sf.len csa)) (sa, sf)) := Lib.hid (hl.below hal)
      clear ld0_0 ld0_1 ld0_2 ld0_3 ld0_4 ld0_5 ld1_0 ld1_1 ld1_2 ld1_3 ld1_4 ld1_5 hr hl hb hal hb2
      have ld0_0 := (HX.out.cell 0).trans rfl
      have ld0_1 := (HX.out.cell 1).trans rfl
      have ld0_2 := (HX.out.cell 2).trans rfl
      have ld0_3 := (HX.out.cell 3).trans rfl
      have ld0_4 := (HX.out.cell 4).trans rfl
      have ld0_5 := (HX.out.cell 5).trans rfl
      go_wp2_with fail
      refine (KC.out _ HB.out).mono ?_
      intro r w13 hr
      obtain ⟨Aka, cka, rfl, hl, hb⟩ := hr.flat
      have hal : Below w13.heap.size w13 (w13.alloc (.cells #[.string (txt ka.name), .string (txt ka.key), .int .i64 ka.kind, .int .u64 (ka.num : Int), .string (txt ka.text), .slice Aka kf.len cka] 27)) := (Below.refl _ _).alloc (Nat.le_refl _) _
      have hb2 := hb.trans (hal.mono hb.size)
      replace HX := Lib.hid (HX.out.below hb2 HX.out.lt)
      replace HY := Lib.hid (HY.out.below hb2 HY.out.lt)
      replace HXoa := Lib.hid (HXoa.out.below hb2 HXoa.out.lt)
      replace HXsa := Lib.hid (HXsa.out.below hb2 HXsa.out.lt)
      replace HLoa := Lib.hid (HLoa.out.below hb2)
      replace HLsa := Lib.hid (HLsa.out.below hb2)
      replace HB := Lib.hid (HB.out.trans (hb2.mono HB.out.size))
      have HXka := Lib.hid (Blk.new w13 27 #[.string (txt ka.name), .string (txt ka.key), .int .i64 ka.kind, .int .u64 (ka.num : Int), .string (txt ka.text), .slice Aka kf.len cka])
      have HLka : Hid (LieN (w13.alloc (.cells #[.string (txt ka.name), .string (txt ka.key), .int .i64 ka.kind, .int .u64 (ka.num : Int), .string (txt ka.text), .slice Aka kf.len cka] 27)) (ndC ka (.slice Aka kf.len cka)) (ka, kf)) := Lib.hid (hl.below hal)
      clear ld0_0 ld0_1 ld0_2 ld0_3 ld0_4 ld0_5 hr hl hb hal hb2
      have ew : (wv != wv) = false := by cases wv <;> rfl
      have K5sa : Hid (Calls Try.prog 20 #[.agg #[.string (txt sa.name), .string (txt sa.key), .int .i64 sa.kind, .int .u64 (sa.num : Int), .string (txt sa.text), .slice Asa sf.len csa], .slice U Q q] (w13.alloc (.cells #[.string (txt ka.name), .string (txt ka.key), .int .i64 ka.kind, .int .u64 (ka.num : Int), .string (txt ka.text), .slice Aka kf.len cka] 27)) (RTreP (oa, of_) (.bool wv) (w13.alloc (.cells #[.string (txt ka.name), .string (txt ka.key), .int .i64 ka.kind, .int .u64 (ka.num : Int), .string (txt ka.text), .slice Aka kf.len cka] 27)))) := Lib.hid (by have h := get_q HC.out HB.out HLsa.out (HV2.out.below HB.out) HSZ.out.2.1 HL2.out _ (Below.refl _ _); rw [HM2.out] at h; exact h.mono fun _ _ h => h.r)
      have ld0_0 := (HXsa.out.cell 0).trans rfl
      have ld0_1 := (HXsa.out.cell 1).trans rfl
      have ld0_2 := (HXsa.out.cell 2).trans rfl
      have ld0_3 := (HXsa.out.cell 3).trans rfl
      have ld0_4 := (HXsa.out.cell 4).trans rfl
      have ld0_5 := (HXsa.out.cell 5).trans rfl
      go_wp2_with fail
      refine K5sa.out.mono ?_
      intro r w14 hr
      obtain ⟨Azsa, czsa, rfl, hl, hb⟩ := hr.flat
      have hal : Below w14.heap.size w14 (w14.alloc (.cells #[.string (txt oa.name), .string (txt oa.key), .int .i64 oa.kind, .int .u64 (oa.num : Int), .string (txt oa.text), .slice Azsa of_.len czsa] 27)) := (Below.refl _ _).alloc (Nat.le_refl _) _
      have hb2 := hb.trans (hal.mono hb.size)
      replace HX := Lib.hid (HX.out.below hb2 HX.out.lt)
      replace HY := Lib.hid (HY.out.below hb2 HY.out.lt)
      replace HXoa := Lib.hid (HXoa.out.below hb2 HXoa.out.lt)
      replace HXsa := Lib.hid (HXsa.out.below hb2 HXsa.out.lt)
      replace HXka := Lib.hid (HXka.out.below hb2 HXka.out.lt)
      replace HLoa := Lib.hid (HLoa.out.below hb2)
      replace HLsa := Lib.hid (HLsa.out.below hb2)
      replace HLka := Lib.hid (HLka.out.below hb2)
      replace HB := Lib.hid (HB.out.trans (hb2.mono HB.out.size))
      have HXzsa := Lib.hid (Blk.new w14 27 #[.string (txt oa.name), .string (txt oa.key), .int .i64 oa.kind, .int .u64 (oa.num : Int), .string (txt oa.text), .slice Azsa of_.len czsa])
      have HLzsa : Hid (LieN (w14.alloc (.cells #[.string (txt oa.name), .string (txt oa.key), .int .i64 oa.kind, .int .u64 (oa.num : Int), .string (txt oa.text), .slice Azsa of_.len czsa] 27)) (ndC oa (.slice Azsa of_.len czsa)) (oa, of_)) := Lib.hid (hl.below hal)
      clear ld0_0 ld0_1 ld0_2 ld0_3 ld0_4 ld0_5 hr hl hb hal hb2
      have ld0_0 := (HXoa.out.cell 0).trans rfl
      have ld0_1 := (HXoa.out.cell 1).trans rfl
      have ld0_2 := (HXoa.out.cell 2).trans rfl
      have ld0_3 := (HXoa.out.cell 3).trans rfl
      have ld0_4 := (HXoa.out.cell 4).trans rfl
      have ld0_5 := (HXoa.out.cell 5).trans rfl
      have ld1_0 := (HXzsa.out.cell 0).trans rfl
      have ld1_1 := (HXzsa.out.cell 1).trans rfl
      have ld1_2 := (HXzsa.out.cell 2).trans rfl
      have ld1_3 := (HXzsa.out.cell 3).trans rfl
      have ld1_4 := (HXzsa.out.cell 4).trans rfl
      have ld1_5 := (HXzsa.out.cell 5).trans rfl
      go_wp2_with fail
      refine (rsame_eq HLoa.out HLzsa.out HSZ.out.1).mono ?_
      rintro r w15 ⟨rfl, hb⟩
      replace HX := Lib.hid (HX.out.below hb HX.out.lt)
      replace HY := Lib.hid (HY.out.below hb HY.out.lt)
      replace HXoa := Lib.hid (HXoa.out.below hb HXoa.out.lt)
      replace HXsa := Lib.hid (HXsa.out.below hb HXsa.out.lt)
      replace HXka := Lib.hid (HXka.out.below hb HXka.out.lt)
      replace HXzsa := Lib.hid (HXzsa.out.below hb HXzsa.out.lt)
      replace HLoa := Lib.hid (HLoa.out.below hb)
      replace HLsa := Lib.hid (HLsa.out.below hb)
      replace HLka := Lib.hid (HLka.out.below hb)
      replace HLzsa := Lib.hid (HLzsa.out.below hb)
      replace HB := Lib.hid (HB.out.trans (hb.mono HB.out.size))
      clear ld0_0 ld0_1 ld0_2 ld0_3 ld0_4 ld0_5 ld1_0 ld1_1 ld1_2 ld1_3 ld1_4 ld1_5 hb
      go_wp2
      go_ret
      exact ⟨rfl, HB.out⟩
set_option maxRecDepth 100000 in
set_option maxHeartbeats 8000000 in
theorem treeOther_main_11 (a b : NdD) (f g : NdF) (A B : Option Addr) (c d : Nat) (l1 l2 : List Stp) (V U : Option Addr) (N m Q q : Nat) (r o K M : Nat) (w : World) (hx : LieN w (ndC a (.slice A f.len c)) (a, f)) (hy : LieN w (ndC b (.slice B g.len d)) (b, g)) (hf : f.size ≤ 1000000) (hg : g.size ≤ 1000000) (HA : Awake9 w) (hr0 : r < w.heap.size) (hc0 : w.cell? ⟨r, o, none⟩ = some (.slice V N m)) (hc1 : w.cell? ⟨r, o + 1, none⟩ = some (.slice U Q q)) (hv1 : WayV w.heap.size w (.slice V N m) l1) (hv2 : WayV w.heap.size w (.slice U Q q) l2) (hN : N = l1.length) (hQ : Q = l2.length) (hK : 2 ≤ K) (C : TreC w) (h1 : decide (f.size + 1 ≤ 300) = true) (h2 : decide (g.size + 1 ≤ 300) = true) (hl : ¬ 20 < N) (hl2 : ¬ 20 < Q) (hr : rgtX (a, f) = true) (oa sa ka : NdD) (of_ sf kf : NdF) (wv : Bool) (hG : GetX (a, f) l2 = ((oa, of_), wv)) (hS : SetX (a, f) l1 (b, g) = ((sa, sf), 0)) (hC : CutX (a, f) l1 = ((ka, kf), 0)) (hM : parts l1 l2 → GetX (sa, sf) l2 = ((oa, of_), wv)) (hD : parts l1 l2 → GetX (ka, kf) l2 = ((oa, of_), wv)) :
    Calls Try.prog 6 #[.agg #[.string (txt a.name), .string (txt a.key), .int .i64 a.kind, .int .u64 (a.num : Int), .string (txt a.text), .slice A f.len c], .slice (some ⟨r, o, none⟩) K M, .agg #[.string (txt b.name), .string (txt b.key), .int .i64 b.kind, .int .u64 (b.num : Int), .string (txt b.text), .slice B g.len d]] w (Ans9 (.bool true) w) := by
  have hb2 : Blk ((w.alloc (.cells #[.string (txt a.name), .string (txt a.key), .int .i64 a.kind, .int .u64 (a.num : Int), .string (txt a.text), .slice A f.len c] 27)).alloc (.cells #[.string (txt b.name), .string (txt b.key), .int .i64 b.kind, .int .u64 (b.num : Int), .string (txt b.text), .slice B g.len d] 27)) (w.heap.size + 1) 27 #[.string (txt b.name), .string (txt b.key), .int .i64 b.kind, .int .u64 (b.num : Int), .string (txt b.text), .slice B g.len d] := by
    have h := Blk.new (w.alloc (.cells #[.string (txt a.name), .string (txt a.key), .int .i64 a.kind, .int .u64 (a.num : Int), .string (txt a.text), .slice A f.len c] 27)) 27 #[.string (txt b.name), .string (txt b.key), .int .i64 b.kind, .int .u64 (b.num : Int), .string (txt b.text), .slice B g.len d]
    rw [show (w.alloc (.cells #[.string (txt a.name), .string (txt a.key), .int .i64 a.kind, .int .u64 (a.num : Int), .string (txt a.text), .slice A f.len c] 27)).heap.size = w.heap.size + 1 by simp] at h
    exact h
  have HX := Lib.hid ((Blk.new w 27 #[.string (txt a.name), .string (txt a.key), .int .i64 a.kind, .int .u64 (a.num : Int), .string (txt a.text), .slice A f.len c]).alloc (.cells #[.string (txt b.name), .string (txt b.key), .int .i64 b.kind, .int .u64 (b.num : Int), .string (txt b.text), .slice B g.len d] 27))
  have HY := Lib.hid hb2
  have HB : Hid (Below w.heap.size w ((w.alloc (.cells #[.string (txt a.name), .string (txt a.key), .int .i64 a.kind, .int .u64 (a.num : Int), .string (txt a.text), .slice A f.len c] 27)).alloc (.cells #[.string (txt b.name), .string (txt b.key), .int .i64 b.kind, .int .u64 (b.num : Int), .string (txt b.text), .slice B g.len d] 27))) := Lib.hid (((Below.refl _ _).alloc (Nat.le_refl _) _).alloc (by simp) _)
  clear hb2
  have KA := Lib.hid HA
  have K1 : Hid (∀ W, Below w.heap.size w W → Calls Try.prog 9 #[.agg #[.string (txt a.name), .string (txt a.key), .int .i64 a.kind, .int .u64 (a.num : Int), .string (txt a.text), .slice A f.len c]] W (Ans9 (.bool true) W)) := Lib.hid (fun W hW => by have h := small_q hx hf W hW; rwa [h1] at h)
  have K2 : Hid (∀ W, Below w.heap.size w W → Calls Try.prog 9 #[.agg #[.string (txt b.name), .string (txt b.key), .int .i64 b.kind, .int .u64 (b.num : Int), .string (txt b.text), .slice B g.len d]] W (Ans9 (.bool true) W)) := Lib.hid (fun W hW => by have h := small_q hy hg W hW; rwa [h2] at h)
  have HC0 : Hid (∀ W, Below w.heap.size w W → W.cell? ⟨r, o, none⟩ = some (.slice V N m)) := Lib.hid (fun W hW => (hW.cell (p := ⟨r, o, none⟩) hr0).trans hc0)
  have HC1 : Hid (∀ W, Below w.heap.size w W → W.cell? ⟨r, o + 1, none⟩ = some (.slice U Q q)) := Lib.hid (fun W hW => (hW.cell (p := ⟨r, o + 1, none⟩) hr0).trans hc1)
  have j0 : (0 : Int) < (K : Int) := by omega
  have j1 : (1 : Int) < (K : Int) := by omega
  have j2 : ¬ (K : Int) < 2 := by omega
  have j3 : 0 < K := by omega
  have j4 : 1 < K := by omega
  have n1 : ¬ (20 : Int) < (N : Int) := by omega
  have n2 : ¬ (20 : Int) < (Q : Int) := by omega
  have KR : Hid (∀ W, Below w.heap.size w W → Calls Try.prog 12 #[.agg #[.string (txt a.name), .string (txt a.key), .int .i64 a.kind, .int .u64 (a.num : Int), .string (txt a.text), .slice A f.len c]] W (Ans9 (.bool true) W)) := Lib.hid (fun W hW => by have h := rright_q hx hf W hW; rwa [hr] at h)
  have hln : l1.length ≤ 1000000 := by omega
  have hln2 : l2.length ≤ 1000000 := by omega
  have hs1 : of_.size ≤ 1000000 := by have h := GetX_few (a, f) l2; rw [hG] at h; simp only at h; omega
  have hs2 : sf.size ≤ 1000000 := by have h := SetX_few (a, f) (b, g) l1; have := of_decide_eq_true h1; have := of_decide_eq_true h2; rw [hS] at h; simp only at h; omega
  have hs3 : kf.size ≤ 1000000 := by have h := CutX_few (a, f) l1; rw [hC] at h; simp only at h; omega
  have KG : Hid (∀ W, Below w.heap.size w W → Calls Try.prog 20 #[.agg #[.string (txt a.name), .string (txt a.key), .int .i64 a.kind, .int .u64 (a.num : Int), .string (txt a.text), .slice A f.len c], .slice U Q q] W (RTreP (oa, of_) (.bool wv) W)) := Lib.hid (fun W hW => (by have h := get_q C (Below.refl _ _) hx hv2 hf hln2 W hW; rw [hG] at h; exact h.mono fun _ _ h => h.r))
  have KS : Hid (∀ W, Below w.heap.size w W → Calls Try.prog 22 #[.agg #[.string (txt a.name), .string (txt a.key), .int .i64 a.kind, .int .u64 (a.num : Int), .string (txt a.text), .slice A f.len c], .slice V N m, .agg #[.string (txt b.name), .string (txt b.key), .int .i64 b.kind, .int .u64 (b.num : Int), .string (txt b.text), .slice B g.len d]] W (RTreP (sa, sf) (.int .i64 0) W)) := Lib.hid (fun W hW => (by have h := set_q C (Below.refl _ _) hx hy hv1 hf hg hr hln W hW; rw [hS] at h; exact h.mono fun _ _ h => h.r))
  have KC : Hid (∀ W, Below w.heap.size w W → Calls Try.prog 24 #[.agg #[.string (txt a.name), .string (txt a.key), .int .i64 a.kind, .int .u64 (a.num : Int), .string (txt a.text), .slice A f.len c], .slice V N m] W (RTreP (ka, kf) (.int .i64 0) W)) := Lib.hid (fun W hW => (by have h := cut_q C (Below.refl _ _) hx hv1 hf hr hln W hW; rw [hC] at h; exact h.mono fun _ _ h => h.r))
  have HC := Lib.hid C
  have HV1 := Lib.hid hv1
  have HV2 := Lib.hid hv2
  have HN := Lib.hid hN
  have HQ := Lib.hid hQ
  have HL2 := Lib.hid hln2
  have HSZ := Lib.hid (And.intro hs1 (And.intro hs2 hs3))
  have HM := Lib.hid hM
  clear hM
  have HD := Lib.hid hD
  clear hD
  clear HA hx hy hf hg h1 h2 hr0 hc0 hc1 hv1 hv2 hN hQ hK C hl hl2 hr hG hS hC hln hln2 hs1 hs2 hs3
  go_enter Try.func6, Try.ntmps6
  go_wp2_with fail
  refine (KA.out _ HB.out).mono ?_
  rintro r w1 ⟨rfl, hb⟩
  replace HX := Lib.hid (HX.out.below hb HX.out.lt)
  replace HY := Lib.hid (HY.out.below hb HY.out.lt)
  replace HB := Lib.hid (HB.out.trans (hb.mono HB.out.size))
  clear hb
  have ld0_0 := (HX.out.cell 0).trans rfl
  have ld0_1 := (HX.out.cell 1).trans rfl
  have ld0_2 := (HX.out.cell 2).trans rfl
  have ld0_3 := (HX.out.cell 3).trans rfl
  have ld0_4 := (HX.out.cell 4).trans rfl
  have ld0_5 := (HX.out.cell 5).trans rfl
  go_wp2_with fail
  refine (K1.out _ HB.out).mono ?_
  rintro r w2 ⟨rfl, hb⟩
  replace HX := Lib.hid (HX.out.below hb HX.out.lt)
  replace HY := Lib.hid (HY.out.below hb HY.out.lt)
  replace HB := Lib.hid (HB.out.trans (hb.mono HB.out.size))
  clear ld0_0 ld0_1 ld0_2 ld0_3 ld0_4 ld0_5 hb
  have ld0_0 := (HY.out.cell 0).trans rfl
  have ld0_1 := (HY.out.cell 1).trans rfl
  have ld0_2 := (HY.out.cell 2).trans rfl
  have ld0_3 := (HY.out.cell 3).trans rfl
  have ld0_4 := (HY.out.cell 4).trans rfl
  have ld0_5 := (HY.out.cell 5).trans rfl
  go_wp2_with fail
  refine (K2.out _ HB.out).mono ?_
  rintro r w3 ⟨rfl, hb⟩
  replace HX := Lib.hid (HX.out.below hb HX.out.lt)
  replace HY := Lib.hid (HY.out.below hb HY.out.lt)
  replace HB := Lib.hid (HB.out.trans (hb.mono HB.out.size))
  clear ld0_0 ld0_1 ld0_2 ld0_3 ld0_4 ld0_5 hb
  have qc0 := HC0.out _ HB.out
  have qc1 := HC1.out _ HB.out
  have ld0_0 := (HX.out.cell 0).trans rfl
  have ld0_1 := (HX.out.cell 1).trans rfl
  have ld0_2 := (HX.out.cell 2).trans rfl
  have ld0_3 := (HX.out.cell 3).trans rfl
  have ld0_4 := (HX.out.cell 4).trans rfl
  have ld0_5 := (HX.out.cell 5).trans rfl
  go_wp2_with fail
  refine (KR.out _ HB.out).mono ?_
  rintro r w4 ⟨rfl, hb⟩
  replace HX := Lib.hid (HX.out.below hb HX.out.lt)
  replace HY := Lib.hid (HY.out.below hb HY.out.lt)
  replace HB := Lib.hid (HB.out.trans (hb.mono HB.out.size))
  clear ld0_0 ld0_1 ld0_2 ld0_3 ld0_4 ld0_5 hb
  clear qc0 qc1
  have qc0 := HC0.out _ HB.out
  have qc1 := HC1.out _ HB.out
  go_upto_block 0 with fail
  go_cut [12] (fun p wr => OthL9 l1 l2 w4 p wr)
  case first =>
    go_wp2
    go_loopw [12, 13] (fun p i wr => ∃ (j : Nat) (pb : Bool), j ≤ N ∧ j ≤ Q ∧ i = .int .i64 (j : Int) ∧ p = .bool pb ∧ Hid (pb = true → parts l1 l2) ∧ Below w4.heap.size w4 wr) (fun _ i _ => N - (intOf i).toNat)
    case atStart => exact ⟨0, false, Nat.zero_le _, Nat.zero_le _, rfl, rfl, Lib.hid (fun h => by cases h), Below.refl _ _⟩
    case round =>
      obtain ⟨j, pb, hj1, hj2, rfl, rfl, HP, hb⟩ := hrel
      by_cases h9 : j < N
      · by_cases h8 : j < Q
        · have i1 : (j : Int) < (N : Int) := by omega
          have i2 : (j : Int) < (Q : Int) := by omega
          have i3 : (0 : Int) ≤ (j : Int) := by omega
          cases pb with
          | false =>
            obtain ⟨s, hs⟩ : ∃ s, l1[j]? = some s := ⟨_, List.getElem?_eq_getElem (by rw [← HN.out]; exact h9)⟩
            obtain ⟨t, ht⟩ : ∃ t, l2[j]? = some t := ⟨_, List.getElem?_eq_getElem (by rw [← HQ.out]; exact h8)⟩
            have hbw : Below w.heap.size w wr.drew := HB.out.trans (hb.drew.mono HB.out.size)
            obtain ⟨g1, o1, rfl, -, hm1, -, s0, s1⟩ := (HV1.out.below hbw).at hs
            obtain ⟨g2, o2, rfl, -, hm2, -, t0, t1⟩ := (HV2.out.below hbw).at ht
            have HBr := Lib.hid hb
            have e1 := step_neq s t
            have HS : Hid ((!decide (s = t)) = true → parts l1 l2) := Lib.hid (fun h => (parts_iff _ _).2 ⟨j, s, t, hs, ht, by simpa using h⟩)
            clear hs ht hbw hb hm1 hm2
            go_wp2_with fail
            go_region
            all_goals go_wp2
            all_goals go_roundw
            case rel => exact ⟨j + 1, !decide (s = t), by omega, by omega, by go_num, rfl, HS, HBr.out.drew⟩
            case measure => clear e1; simp [intOf]; omega
          | true =>
            have HBr := Lib.hid hb
            clear hj1 hj2 hb
            go_wp2
            go_meet
            exact ⟨true, rfl, Lib.hid (fun _ => HP.out trivial), HBr.out⟩
        · have i1 : (j : Int) < (N : Int) := by omega
          have i2 : ¬ (j : Int) < (Q : Int) := by omega
          have HBr := Lib.hid hb
          clear hj1 hj2 hb
          go_wp2
          go_meet
          exact ⟨pb, rfl, HP, HBr.out⟩
      · have i1 : ¬ (j : Int) < (N : Int) := by omega
        have HBr := Lib.hid hb
        clear hj1 hj2 hb
        go_wp2
        go_meet
        exact ⟨pb, rfl, HP, HBr.out⟩
  case rest =>
    obtain ⟨pb, rfl, HP, hb⟩ := hcut
    replace HX := Lib.hid (HX.out.below hb HX.out.lt)
    replace HY := Lib.hid (HY.out.below hb HY.out.lt)
    replace HB := Lib.hid (HB.out.trans (hb.mono HB.out.size))
    clear hb
    cases pb with
    | false =>
      go_wp2
      go_ret
      exact ⟨rfl, HB.out⟩
    | true =>
      have hP := HP.out rfl
      clear HP
      have HM2 := Lib.hid (HM.out hP)
      have HD2 := Lib.hid (HD.out hP)
      clear hP
      have ld0_0 := (HX.out.cell 0).trans rfl
      have ld0_1 := (HX.out.cell 1).trans rfl
      have ld0_2 := (HX.out.cell 2).trans rfl
      have ld0_3 := (HX.out.cell 3).trans rfl
      have ld0_4 := (HX.out.cell 4).trans rfl
      have ld0_5 := (HX.out.cell 5).trans rfl
      go_wp2_with fail
      refine (KG.out _ HB.out).mono ?_
      intro r w11 hr
      obtain ⟨Aoa, coa, rfl, hl, hb⟩ := hr.flat
      have hal : Below w11.heap.size w11 (w11.alloc (.cells #[.string (txt oa.name), .string (txt oa.key), .int .i64 oa.kind, .int .u64 (oa.num : Int), .string (txt oa.text), .slice Aoa of_.len coa] 27)) := (Below.refl _ _).alloc (Nat.le_refl _) _
      have hb2 := hb.trans (hal.mono hb.size)
      replace HX := Lib.hid (HX.out.below hb2 HX.out.lt)
      replace HY := Lib.hid (HY.out.below hb2 HY.out.lt)
      replace HB := Lib.hid (HB.out.trans (hb2.mono HB.out.size))
      have HXoa := Lib.hid (Blk.new w11 27 #[.string (txt oa.name), .string (txt oa.key), .int .i64 oa.kind, .int .u64 (oa.num : Int), .string (txt oa.text), .slice Aoa of_.len coa])
      have HLoa : Hid (LieN (w11.alloc (.cells #[.string (txt oa.name), .string (txt oa.key), .int .i64 oa.kind, .int .u64 (oa.num : Int), .string (txt oa.text), .slice Aoa of_.len coa] 27)) (ndC oa (.slice Aoa of_.len coa)) (oa, of_)) := Lib.hid (hl.below hal)
      clear ld0_0 ld0_1 ld0_2 ld0_3 ld0_4 ld0_5 hr hl hb hal hb2
      have ld0_0 := (HX.out.cell 0).trans rfl
      have ld0_1 := (HX.out.cell 1).trans rfl
      have ld0_2 := (HX.out.cell 2).trans rfl
      have ld0_3 := (HX.out.cell 3).trans rfl
      have ld0_4 := (HX.out.cell 4).trans rfl
      have ld0_5 := (HX.out.cell 5).trans rfl
      have ld1_0 := (HY.out.cell 0).trans rfl
      have ld1_1 := (HY.out.cell 1).trans rfl
      have ld1_2 := (HY.out.cell 2).trans rfl
      have ld1_3 := (HY.out.cell 3).trans rfl
      have ld1_4 := (HY.out.cell 4).trans rfl
      have ld1_5 := (HY.out.cell 5).trans rfl
      go_wp2_with fail
      refine (KS.out _ HB.out).mono ?_
      intro r w12 hr
      obtain ⟨Asa, csa, rfl, hl, hb⟩ := hr.flat
      have hal : Below w12.heap.size w12 (w12.alloc (.cells #[.string (txt sa.name), .string (txt sa.key), .int .i64 sa.kind, .int .u64 (sa.num : Int), .string (txt sa.text), .slice Asa sf.len csa] 27)) := (Below.refl _ _).alloc (Nat.le_refl _) _
      have hb2 := hb.trans (hal.mono hb.size)
      replace HX := Lib.hid (HX.out.below hb2 HX.out.lt)
      replace HY := Lib.hid (HY.out.below hb2 HY.out.lt)
      replace HXoa := Lib.hid (HXoa.out.below hb2 HXoa.out.lt)
      replace HLoa := Lib.hid (HLoa.out.below hb2)
      replace HB := Lib.hid (HB.out.trans (hb2.mono HB.out.size))
      have HXsa := Lib.hid (Blk.new w12 27 #[.string (txt sa.name), .string (txt sa.key), .int .i64 sa.kind, .int .u64 (sa.num : Int), .string (txt sa.text), .slice Asa sf.len csa])
      have HLsa : Hid (LieN (w12.alloc (.cells #[.string (txt sa.name), .string (txt sa.key), .int .i64 sa.kind, .int .u64 (sa.num : Int), .string (txt sa.text), .slice Asa sf.len csa] 27)) (ndC sa (.slice Asa sf.len csa)) (sa, sf)) := Lib.hid (hl.below hal)
      clear ld0_0 ld0_1 ld0_2 ld0_3 ld0_4 ld0_5 ld1_0 ld1_1 ld1_2 ld1_3 ld1_4 ld1_5 hr hl hb hal hb2
      have ld0_0 := (HX.out.cell 0).trans rfl
      have ld0_1 := (HX.out.cell 1).trans rfl
      have ld0_2 := (HX.out.cell 2).trans rfl
      have ld0_3 := (HX.out.cell 3).trans rfl
      have ld0_4 := (HX.out.cell 4).trans rfl
      have ld0_5 := (HX.out.cell 5).trans rfl
      go_wp2_with fail
      refine (KC.out _ HB.out).mono ?_
      intro r w13 hr
      obtain ⟨Aka, cka, rfl, hl, hb⟩ := hr.flat
      have hal : Below w13.heap.size w13 (w13.alloc (.cells #[.string (txt ka.name), .string (txt ka.key), .int .i64 ka.kind, .int .u64 (ka.num : Int), .string (txt ka.text), .slice Aka kf.len cka] 27)) := (Below.refl _ _).alloc (Nat.le_refl _) _
      have hb2 := hb.trans (hal.mono hb.size)
      replace HX := Lib.hid (HX.out.below hb2 HX.out.lt)
      replace HY := Lib.hid (HY.out.below hb2 HY.out.lt)
      replace HXoa := Lib.hid (HXoa.out.below hb2 HXoa.out.lt)
      replace HXsa := Lib.hid (HXsa.out.below hb2 HXsa.out.lt)
      replace HLoa := Lib.hid (HLoa.out.below hb2)
      replace HLsa := Lib.hid (HLsa.out.below hb2)
      replace HB := Lib.hid (HB.out.trans (hb2.mono HB.out.size))
      have HXka := Lib.hid (Blk.new w13 27 #[.string (txt ka.name), .string (txt ka.key), .int .i64 ka.kind, .int .u64 (ka.num : Int), .string (txt ka.text), .slice Aka kf.len cka])
      have HLka : Hid (LieN (w13.alloc (.cells #[.string (txt ka.name), .string (txt ka.key), .int .i64 ka.kind, .int .u64 (ka.num : Int), .string (txt ka.text), .slice Aka kf.len cka] 27)) (ndC ka (.slice Aka kf.len cka)) (ka, kf)) := Lib.hid (hl.below hal)
      clear ld0_0 ld0_1 ld0_2 ld0_3 ld0_4 ld0_5 hr hl hb hal hb2
      have ew : (wv != wv) = false := by cases wv <;> rfl
      have K5sa : Hid (Calls Try.prog 20 #[.agg #[.string (txt sa.name), .string (txt sa.key), .int .i64 sa.kind, .int .u64 (sa.num : Int), .string (txt sa.text), .slice Asa sf.len csa], .slice U Q q] (w13.alloc (.cells #[.string (txt ka.name), .string (txt ka.key), .int .i64 ka.kind, .int .u64 (ka.num : Int), .string (txt ka.text), .slice Aka kf.len cka] 27)) (RTreP (oa, of_) (.bool wv) (w13.alloc (.cells #[.string (txt ka.name), .string (txt ka.key), .int .i64 ka.kind, .int .u64 (ka.num : Int), .string (txt ka.text), .slice Aka kf.len cka] 27)))) := Lib.hid (by have h := get_q HC.out HB.out HLsa.out (HV2.out.below HB.out) HSZ.out.2.1 HL2.out _ (Below.refl _ _); rw [HM2.out] at h; exact h.mono fun _ _ h => h.r)
      have ld0_0 := (HXsa.out.cell 0).trans rfl
      have ld0_1 := (HXsa.out.cell 1).trans rfl
      have ld0_2 := (HXsa.out.cell 2).trans rfl
      have ld0_3 := (HXsa.out.cell 3).trans rfl
      have ld0_4 := (HXsa.out.cell 4).trans rfl
      have ld0_5 := (HXsa.out.cell 5).trans rfl
      go_wp2_with fail
      refine K5sa.out.mono ?_
      intro r w14 hr
      obtain ⟨Azsa, czsa, rfl, hl, hb⟩ := hr.flat
      have hal : Below w14.heap.size w14 (w14.alloc (.cells #[.string (txt oa.name), .string (txt oa.key), .int .i64 oa.kind, .int .u64 (oa.num : Int), .string (txt oa.text), .slice Azsa of_.len czsa] 27)) := (Below.refl _ _).alloc (Nat.le_refl _) _
      have hb2 := hb.trans (hal.mono hb.size)
      replace HX := Lib.hid (HX.out.below hb2 HX.out.lt)
      replace HY := Lib.hid (HY.out.below hb2 HY.out.lt)
      replace HXoa := Lib.hid (HXoa.out.below hb2 HXoa.out.lt)
      replace HXsa := Lib.hid (HXsa.out.below hb2 HXsa.out.lt)
      replace HXka := Lib.hid (HXka.out.below hb2 HXka.out.lt)
      replace HLoa := Lib.hid (HLoa.out.below hb2)
      replace HLsa := Lib.hid (HLsa.out.below hb2)
      replace HLka := Lib.hid (HLka.out.below hb2)
      replace HB := Lib.hid (HB.out.trans (hb2.mono HB.out.size))
      have HXzsa := Lib.hid (Blk.new w14 27 #[.string (txt oa.name), .string (txt oa.key), .int .i64 oa.kind, .int .u64 (oa.num : Int), .string (txt oa.text), .slice Azsa of_.len czsa])
      have HLzsa : Hid (LieN (w14.alloc (.cells #[.string (txt oa.name), .string (txt oa.key), .int .i64 oa.kind, .int .u64 (oa.num : Int), .string (txt oa.text), .slice Azsa of_.len czsa] 27)) (ndC oa (.slice Azsa of_.len czsa)) (oa, of_)) := Lib.hid (hl.below hal)
      clear ld0_0 ld0_1 ld0_2 ld0_3 ld0_4 ld0_5 hr hl hb hal hb2
      have ld0_0 := (HXoa.out.cell 0).trans rfl
      have ld0_1 := (HXoa.out.cell 1).trans rfl
      have ld0_2 := (HXoa.out.cell 2).trans rfl
      have ld0_3 := (HXoa.out.cell 3).trans rfl
      have ld0_4 := (HXoa.out.cell 4).trans rfl
      have ld0_5 := (HXoa.out.cell 5).trans rfl
      have ld1_0 := (HXzsa.out.cell 0).trans rfl
      have ld1_1 := (HXzsa.out.cell 1).trans rfl
      have ld1_2 := (HXzsa.out.cell 2).trans rfl
      have ld1_3 := (HXzsa.out.cell 3).trans rfl
      have ld1_4 := (HXzsa.out.cell 4).trans rfl
      have ld1_5 := (HXzsa.out.cell 5).trans rfl
      go_wp2_with fail
      refine (rsame_eq HLoa.out HLzsa.out HSZ.out.1).mono ?_
      rintro r w15 ⟨rfl, hb⟩
      replace HX := Lib.hid (HX.out.below hb HX.out.lt)
      replace HY := Lib.hid (HY.out.below hb HY.out.lt)
      replace HXoa := Lib.hid (HXoa.out.below hb HXoa.out.lt)
      replace HXsa := Lib.hid (HXsa.out.below hb HXsa.out.lt)
      replace HXka := Lib.hid (HXka.out.below hb HXka.out.lt)
      replace HXzsa := Lib.hid (HXzsa.out.below hb HXzsa.out.lt)
      replace HLoa := Lib.hid (HLoa.out.below hb)
      replace HLsa := Lib.hid (HLsa.out.below hb)
      replace HLka := Lib.hid (HLka.out.below hb)
      replace HLzsa := Lib.hid (HLzsa.out.below hb)
      replace HB := Lib.hid (HB.out.trans (hb.mono HB.out.size))
      clear ld0_0 ld0_1 ld0_2 ld0_3 ld0_4 ld0_5 ld1_0 ld1_1 ld1_2 ld1_3 ld1_4 ld1_5 hb
      have K5ka : Hid (Calls Try.prog 20 #[.agg #[.string (txt ka.name), .string (txt ka.key), .int .i64 ka.kind, .int .u64 (ka.num : Int), .string (txt ka.text), .slice Aka kf.len cka], .slice U Q q] w15 (RTreP (oa, of_) (.bool wv) w15)) := Lib.hid (by have h := get_q HC.out HB.out HLka.out (HV2.out.below HB.out) HSZ.out.2.2 HL2.out _ (Below.refl _ _); rw [HD2.out] at h; exact h.mono fun _ _ h => h.r)
      have ld0_0 := (HXka.out.cell 0).trans rfl
      have ld0_1 := (HXka.out.cell 1).trans rfl
      have ld0_2 := (HXka.out.cell 2).trans rfl
      have ld0_3 := (HXka.out.cell 3).trans rfl
      have ld0_4 := (HXka.out.cell 4).trans rfl
      have ld0_5 := (HXka.out.cell 5).trans rfl
      go_wp2_with fail
      refine K5ka.out.mono ?_
      intro r w16 hr
      obtain ⟨Azka, czka, rfl, hl, hb⟩ := hr.flat
      have hal : Below w16.heap.size w16 (w16.alloc (.cells #[.string (txt oa.name), .string (txt oa.key), .int .i64 oa.kind, .int .u64 (oa.num : Int), .string (txt oa.text), .slice Azka of_.len czka] 27)) := (Below.refl _ _).alloc (Nat.le_refl _) _
      have hb2 := hb.trans (hal.mono hb.size)
      replace HX := Lib.hid (HX.out.below hb2 HX.out.lt)
      replace HY := Lib.hid (HY.out.below hb2 HY.out.lt)
      replace HXoa := Lib.hid (HXoa.out.below hb2 HXoa.out.lt)
      replace HXsa := Lib.hid (HXsa.out.below hb2 HXsa.out.lt)
      replace HXka := Lib.hid (HXka.out.below hb2 HXka.out.lt)
      replace HXzsa := Lib.hid (HXzsa.out.below hb2 HXzsa.out.lt)
      replace HLoa := Lib.hid (HLoa.out.below hb2)
      replace HLsa := Lib.hid (HLsa.out.below hb2)
      replace HLka := Lib.hid (HLka.out.below hb2)
      replace HLzsa := Lib.hid (HLzsa.out.below hb2)
      replace HB := Lib.hid (HB.out.trans (hb2.mono HB.out.size))
      have HXzka := Lib.hid (Blk.new w16 27 #[.string (txt oa.name), .string (txt oa.key), .int .i64 oa.kind, .int .u64 (oa.num : Int), .string (txt oa.text), .slice Azka of_.len czka])
      have HLzka : Hid (LieN (w16.alloc (.cells #[.string (txt oa.name), .string (txt oa.key), .int .i64 oa.kind, .int .u64 (oa.num : Int), .string (txt oa.text), .slice Azka of_.len czka] 27)) (ndC oa (.slice Azka of_.len czka)) (oa, of_)) := Lib.hid (hl.below hal)
      clear ld0_0 ld0_1 ld0_2 ld0_3 ld0_4 ld0_5 hr hl hb hal hb2
      have ld0_0 := (HXoa.out.cell 0).trans rfl
      have ld0_1 := (HXoa.out.cell 1).trans rfl
      have ld0_2 := (HXoa.out.cell 2).trans rfl
      have ld0_3 := (HXoa.out.cell 3).trans rfl
      have ld0_4 := (HXoa.out.cell 4).trans rfl
      have ld0_5 := (HXoa.out.cell 5).trans rfl
      have ld1_0 := (HXzka.out.cell 0).trans rfl
      have ld1_1 := (HXzka.out.cell 1).trans rfl
      have ld1_2 := (HXzka.out.cell 2).trans rfl
      have ld1_3 := (HXzka.out.cell 3).trans rfl
      have ld1_4 := (HXzka.out.cell 4).trans rfl
      have ld1_5 := (HXzka.out.cell 5).trans rfl
      go_wp2_with fail
      refine (rsame_eq HLoa.out HLzka.out HSZ.out.1).mono ?_
      rintro r w17 ⟨rfl, hb⟩
      replace HX := Lib.hid (HX.out.below hb HX.out.lt)
      replace HY := Lib.hid (HY.out.below hb HY.out.lt)
      replace HXoa := Lib.hid (HXoa.out.below hb HXoa.out.lt)
      replace HXsa := Lib.hid (HXsa.out.below hb HXsa.out.lt)
      replace HXka := Lib.hid (HXka.out.below hb HXka.out.lt)
      replace HXzsa := Lib.hid (HXzsa.out.below hb HXzsa.out.lt)
      replace HXzka := Lib.hid (HXzka.out.below hb HXzka.out.lt)
      replace HLoa := Lib.hid (HLoa.out.below hb)
      replace HLsa := Lib.hid (HLsa.out.below hb)
      replace HLka := Lib.hid (HLka.out.below hb)
      replace HLzsa := Lib.hid (HLzsa.out.below hb)
      replace HLzka := Lib.hid (HLzka.out.below hb)
      replace HB := Lib.hid (HB.out.trans (hb.mono HB.out.size))
      clear ld0_0 ld0_1 ld0_2 ld0_3 ld0_4 ld0_5 ld1_0 ld1_1 ld1_2 ld1_3 ld1_4 ld1_5 hb
      go_wp2
      go_ret
      exact ⟨rfl, HB.out⟩
theorem treeOther_walk (a b : NdD) (f g : NdF) (A B : Option Addr) (c d : Nat) (l1 l2 : List Stp) (V U : Option Addr) (N m Q q : Nat) (r o K M : Nat) (w : World) (hx : LieN w (ndC a (.slice A f.len c)) (a, f)) (hy : LieN w (ndC b (.slice B g.len d)) (b, g)) (hf : f.size ≤ 1000000) (hg : g.size ≤ 1000000) (HA : Awake9 w) (hr0 : r < w.heap.size) (hc0 : w.cell? ⟨r, o, none⟩ = some (.slice V N m)) (hc1 : w.cell? ⟨r, o + 1, none⟩ = some (.slice U Q q)) (hv1 : WayV w.heap.size w (.slice V N m) l1) (hv2 : WayV w.heap.size w (.slice U Q q) l2) (hN : N = l1.length) (hQ : Q = l2.length) (hK : 2 ≤ K) (C : TreC w) :
    Calls Try.prog 6 #[.agg #[.string (txt a.name), .string (txt a.key), .int .i64 a.kind, .int .u64 (a.num : Int), .string (txt a.text), .slice A f.len c], .slice (some ⟨r, o, none⟩) K M, .agg #[.string (txt b.name), .string (txt b.key), .int .i64 b.kind, .int .u64 (b.num : Int), .string (txt b.text), .slice B g.len d]] w (Ans9 (.bool true) w) := by
  cases h1 : decide (f.size + 1 ≤ 300) with
  | false =>
    cases h2 : decide (g.size + 1 ≤ 300) with
    | false => exact treeOther_none a b f g A B c d _ K M w hx hy hf hg HA h1 h2
    | true => exact treeOther_two a b f g A B c d _ K M w hx hy hf hg HA h1 h2
  | true =>
    cases h2 : decide (g.size + 1 ≤ 300) with
    | false => exact treeOther_one a b f g A B c d _ K M w hx hy hf hg HA h1 h2
    | true =>
      by_cases hl : 20 < N
      · exact treeOther_long1 a b f g A B c d l1 l2 V U N m Q q r o K M w hx hy hf hg HA hr0 hc0 hc1 hv1 hv2 hN hQ hK h1 h2 hl
      by_cases hl2 : 20 < Q
      · exact treeOther_long2 a b f g A B c d l1 l2 V U N m Q q r o K M w hx hy hf hg HA hr0 hc0 hc1 hv1 hv2 hN hQ hK h1 h2 hl hl2
      cases hr : rgtX (a, f) with
      | false => exact treeOther_wrong a b f g A B c d l1 l2 V U N m Q q r o K M w hx hy hf hg HA hr0 hc0 hc1 hv1 hv2 hN hQ hK h1 h2 hl hl2 hr
      | true =>
        have hM : (SetX (a, f) l1 (b, g)).2 = 0 → parts l1 l2 → GetX (SetX (a, f) l1 (b, g)).1 l2 = GetX (a, f) l2 := fun he hp => by
          have hok := SetX_ok.1 he
          rw [SetX_is hok]
          unfold GetX
          simp only
          rw [set_other l1 l2 _ hok hp]
        have hD : (CutX (a, f) l1).2 = 0 → parts l1 l2 → GetX (CutX (a, f) l1).1 l2 = GetX (a, f) l2 := fun he hp => by
          obtain ⟨hne, z, hz⟩ := CutX_got he
          rw [CutX_is hne hz]
          unfold GetX
          simp only
          rw [cut_other l1 l2 _ z hne hz hp]
        by_cases he : (SetX (a, f) l1 (b, g)).2 = 0
        · by_cases hc : (CutX (a, f) l1).2 = 0
          · exact treeOther_main_11 a b f g A B c d l1 l2 V U N m Q q r o K M w hx hy hf hg HA hr0 hc0 hc1 hv1 hv2 hN hQ hK C h1 h2 hl hl2 hr _ _ _ _ _ _ _ rfl (Prod.ext rfl he) (Prod.ext rfl hc) (hM he) (hD hc)
          · exact treeOther_main_10 a b f g A B c d l1 l2 V U N m Q q r o K M w hx hy hf hg HA hr0 hc0 hc1 hv1 hv2 hN hQ hK C h1 h2 hl hl2 hr _ _ _ _ _ _ _ _ hc rfl (Prod.ext rfl he) rfl (hM he)
        · by_cases hc : (CutX (a, f) l1).2 = 0
          · exact treeOther_main_01 a b f g A B c d l1 l2 V U N m Q q r o K M w hx hy hf hg HA hr0 hc0 hc1 hv1 hv2 hN hQ hK C h1 h2 hl hl2 hr _ _ _ _ _ _ _ _ he rfl rfl (Prod.ext rfl hc) (hD hc)
          · exact treeOther_main_00 a b f g A B c d l1 l2 V U N m Q q r o K M w hx hy hf hg HA hr0 hc0 hc1 hv1 hv2 hN hQ hK C h1 h2 hl hl2 hr _ _ _ _ _ _ _ _ he _ hc rfl rfl rfl
theorem treeOther_rows (a b : NdD) (f g : NdF) (A B : Option Addr) (c d : Nat) (R : Option Addr) (K M : Nat) (w : World) (hx : LieN w (ndC a (.slice A f.len c)) (a, f)) (hy : LieN w (ndC b (.slice B g.len d)) (b, g)) (hf : f.size ≤ 1000000) (hg : g.size ≤ 1000000) (HA : Awake9 w) (C : TreC w)
    (h : 2 ≤ K → ∃ (r o : Nat) (V U : Option Addr) (N m Q q : Nat) (l1 l2 : List Stp), R = some ⟨r, o, none⟩ ∧ r < w.heap.size ∧ w.cell? ⟨r, o, none⟩ = some (.slice V N m) ∧ w.cell? ⟨r, o + 1, none⟩ = some (.slice U Q q) ∧ WayV w.heap.size w (.slice V N m) l1 ∧ WayV w.heap.size w (.slice U Q q) l2 ∧ N = l1.length ∧ Q = l2.length) :
    Calls Try.prog 6 #[.agg #[.string (txt a.name), .string (txt a.key), .int .i64 a.kind, .int .u64 (a.num : Int), .string (txt a.text), .slice A f.len c], .slice R K M, .agg #[.string (txt b.name), .string (txt b.key), .int .i64 b.kind, .int .u64 (b.num : Int), .string (txt b.text), .slice B g.len d]] w (Ans9 (.bool true) w) := by
  by_cases hK : 2 ≤ K
  · obtain ⟨r, o, V, U, N, m, Q, q, l1, l2, rfl, h1, h2, h3, h4, h5, h6, h7⟩ := h hK
    exact treeOther_walk a b f g A B c d l1 l2 V U N m Q q r o K M w hx hy hf hg HA h1 h2 h3 h4 h5 h6 h7 hK C
  · cases h1 : decide (f.size + 1 ≤ 300) with
    | false =>
      cases h2 : decide (g.size + 1 ≤ 300) with
      | false => exact treeOther_none a b f g A B c d R K M w hx hy hf hg HA h1 h2
      | true => exact treeOther_two a b f g A B c d R K M w hx hy hf hg HA h1 h2
    | true =>
      cases h2 : decide (g.size + 1 ≤ 300) with
      | false => exact treeOther_one a b f g A B c d R K M w hx hy hf hg HA h1 h2
      | true => exact treeOther_few a b f g A B c d R K M w hx hy hf hg HA h1 h2 (by omega)
end Go.Proofs.Ytgipnemcmiohlaa

