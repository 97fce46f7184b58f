/- Law16B Law16C -/
import Derived.Test.YthdhchhpjoghlaaAM0
import Derived.Test.YthdhchhpjoghlaaAM9
set_option linter.unusedSimpArgs false
set_option linter.unusedVariables false
namespace Go.Proofs.Ythdhchhpjoghlaa
open Go.RowKit
attribute [local go_sem] Oper.semAt_some
set_option maxRecDepth 100000 in
set_option maxHeartbeats 4000000 in
theorem diffTells_not (a b : NdD) (f g : NdF) (A B : Option Addr) (c d : Nat) (w : World) (hx : LieN w (ndC a (.slice A f.len c)) (a, f)) (hy : LieN w (ndC b (.slice B g.len d)) (b, g)) (hf : f.size ≤ 1000000) (hg : g.size ≤ 1000000) (C : DifC w) (HA : Awake16 w) (hs : smallX a b f g = false) : Calls Try.prog 3 #[.agg #[.string (txt a.name), .string (txt a.key), .int .i64 a.kind, .int .u64 (a.num : Int), .string (txt a.text), .slice A f.len c], .agg #[.string (txt b.name), .string (txt b.key), .int .i64 b.kind, .int .u64 (b.num : Int), .string (txt b.text), .slice B g.len d]] w (Ans9 (.bool true) w) := by
 have hb2 : Blk ((w.alloc (.cells #[.string (txt a.name), .string (txt a.key), .int .i64 a.kind, .int .u64 (a.num : Int), .string (txt a.text), .slice A f.len c] 27)).alloc (.cells #[.string (txt b.name), .string (txt b.key), .int .i64 b.kind, .int .u64 (b.num : Int), .string (txt b.text), .slice B g.len d] 27)) (w.heap.size + 1) 27 #[.string (txt b.name), .string (txt b.key), .int .i64 b.kind, .int .u64 (b.num : Int), .string (txt b.text), .slice B g.len d] := by
  have h := Blk.new (w.alloc (.cells #[.string (txt a.name), .string (txt a.key), .int .i64 a.kind, .int .u64 (a.num : Int), .string (txt a.text), .slice A f.len c] 27)) 27 #[.string (txt b.name), .string (txt b.key), .int .i64 b.kind, .int .u64 (b.num : Int), .string (txt b.text), .slice B g.len d]
  rwa [show (w.alloc (.cells #[.string (txt a.name), .string (txt a.key), .int .i64 a.kind, .int .u64 (a.num : Int), .string (txt a.text), .slice A f.len c] 27)).heap.size = w.heap.size + 1 by simp] at h
 have hb1 : Blk ((w.alloc (.cells #[.string (txt a.name), .string (txt a.key), .int .i64 a.kind, .int .u64 (a.num : Int), .string (txt a.text), .slice A f.len c] 27)).alloc (.cells #[.string (txt b.name), .string (txt b.key), .int .i64 b.kind, .int .u64 (b.num : Int), .string (txt b.text), .slice B g.len d] 27)) w.heap.size 27 #[.string (txt a.name), .string (txt a.key), .int .i64 a.kind, .int .u64 (a.num : Int), .string (txt a.text), .slice A f.len c] := (Blk.new w 27 #[.string (txt a.name), .string (txt a.key), .int .i64 a.kind, .int .u64 (a.num : Int), .string (txt a.text), .slice A f.len c]).alloc (.cells #[.string (txt b.name), .string (txt b.key), .int .i64 b.kind, .int .u64 (b.num : Int), .string (txt b.text), .slice B g.len d] 27)
 have hbw : Below w.heap.size w ((w.alloc (.cells #[.string (txt a.name), .string (txt a.key), .int .i64 a.kind, .int .u64 (a.num : Int), .string (txt a.text), .slice A f.len c] 27)).alloc (.cells #[.string (txt b.name), .string (txt b.key), .int .i64 b.kind, .int .u64 (b.num : Int), .string (txt b.text), .slice B g.len d] 27)) := ((Below.refl _ _).alloc (Nat.le_refl _) _).alloc (by simp) _
 have hc1 : ∀ W, Below w.heap.size w W → Hid (Calls Try.prog 8 #[.agg #[.string (txt a.name), .string (txt a.key), .int .i64 a.kind, .int .u64 (a.num : Int), .string (txt a.text), .slice A f.len c], .agg #[.string (txt b.name), .string (txt b.key), .int .i64 b.kind, .int .u64 (b.num : Int), .string (txt b.text), .slice B g.len d]] W (Ans9 (.bool (smallX a b f g)) W)) := fun W h => Lib.hid (small16_any a b f g A B c d W (hx.below h) (hy.below h) (by omega) (by omega))
 have HX := Lib.hid hb1
 have HY := Lib.hid hb2
 have HB := Lib.hid hbw
 have HAW := Lib.hid (HA _ hbw)
 rw [hs] at hc1
 have C1 := Lib.hid hc1
 clear hx hy hf hg hc1 hb1 hb2 hbw HA C hs
 go_enter Try.func3, Try.ntmps3
 go_wp2_with fail
 refine HAW.out.mono ?_
 rintro r w1 ⟨rfl, hb⟩
 have HX1 := Lib.hid (HX.out.below hb HX.out.lt)
 have HY1 := Lib.hid (HY.out.below hb HY.out.lt)
 have HB1 := Lib.hid (HB.out.trans (hb.mono HB.out.size))
 clear hb
 have q0 := (HX1.out.cell 0).trans rfl
 have q1 := (HX1.out.cell 1).trans rfl
 have q2 := (HX1.out.cell 2).trans rfl
 have q3 := (HX1.out.cell 3).trans rfl
 have q4 := (HX1.out.cell 4).trans rfl
 have q5 := (HX1.out.cell 5).trans rfl
 have x0 := (HY1.out.cell 0).trans rfl
 have x1 := (HY1.out.cell 1).trans rfl
 have x2 := (HY1.out.cell 2).trans rfl
 have x3 := (HY1.out.cell 3).trans rfl
 have x4 := (HY1.out.cell 4).trans rfl
 have x5 := (HY1.out.cell 5).trans rfl
 go_wp2_with fail
 refine (C1.out _ HB1.out).out.mono ?_
 rintro r w2 ⟨rfl, hb⟩
 have HX2 := Lib.hid (HX1.out.below hb HX1.out.lt)
 have HY2 := Lib.hid (HY1.out.below hb HY1.out.lt)
 have HB2 := Lib.hid (HB1.out.trans (hb.mono HB1.out.size))
 clear hb
 have q0 := (HX2.out.cell 0).trans rfl
 have q1 := (HX2.out.cell 1).trans rfl
 have q2 := (HX2.out.cell 2).trans rfl
 have q3 := (HX2.out.cell 3).trans rfl
 have q4 := (HX2.out.cell 4).trans rfl
 have q5 := (HX2.out.cell 5).trans rfl
 have x0 := (HY2.out.cell 0).trans rfl
 have x1 := (HY2.out.cell 1).trans rfl
 have x2 := (HY2.out.cell 2).trans rfl
 have x3 := (HY2.out.cell 3).trans rfl
 have x4 := (HY2.out.cell 4).trans rfl
 have x5 := (HY2.out.cell 5).trans rfl
 have hdr : Below w2.heap.size w2 w2.drew := (Below.refl _ _).drew
 have HBX := Lib.hid (And.intro (HX2.out.below hdr HX2.out.lt) (HY2.out.below hdr HY2.out.lt))
 have HWc := Lib.hid (HB2.out.trans (hdr.mono HB2.out.size))
 clear hdr q0 q1 q2 q3 q4 q5 x0 x1 x2 x3 x4 x5
 go_wp2_with fail
 refine wp_region_noPanic ?_
 refine wp_region_held_drew (S := fun _ => True) (by kernel_rfl) trivial (fun hS => ?_)
 refine held_more (S' := fun w' => Blk w' w.heap.size 27 #[.string (txt a.name), .string (txt a.key), .int .i64 a.kind, .int .u64 (a.num : Int), .string (txt a.text), .slice A f.len c] ∧ Blk w' (w.heap.size + 1) 27 #[.string (txt b.name), .string (txt b.key), .int .i64 b.kind, .int .u64 (b.num : Int), .string (txt b.text), .slice B g.len d]) (fun _ _ => trivial) _ _ _ _ ?_
 replace hS := HBX.out
 refine tkH 0 hS ?_
 refine tkH 1 hS ?_
 refine tkH 2 hS ?_
 refine tkHo 3 hS ?_
 refine tkHo 4 hS ?_
 refine tkHo 5 hS ?_
 refine tkHo 6 hS ?_
 refine tkHo 7 hS ?_
 refine tkHo 8 hS ?_
 refine tkHo 9 hS ?_
 refine tkH 10 hS ?_
 refine tkH 11 hS ?_
 refine wpAnyH_done (by kernel_rfl) ?_ _
 refine NoPanic.normal ?_
 clear hS
 go_wp2
 go_ret
 exact ⟨rfl, HWc.out⟩
set_option maxRecDepth 100000 in
set_option maxHeartbeats 4000000 in
theorem diffTells_yes (a b : NdD) (f g : NdF) (A B : Option Addr) (c d : Nat) (w : World) (hx : LieN w (ndC a (.slice A f.len c)) (a, f)) (hy : LieN w (ndC b (.slice B g.len d)) (b, g)) (hf : f.size ≤ 1000000) (hg : g.size ≤ 1000000) (C : DifC w) (HA : Awake16 w) (hs : smallX a b f g = true) : Calls Try.prog 3 #[.agg #[.string (txt a.name), .string (txt a.key), .int .i64 a.kind, .int .u64 (a.num : Int), .string (txt a.text), .slice A f.len c], .agg #[.string (txt b.name), .string (txt b.key), .int .i64 b.kind, .int .u64 (b.num : Int), .string (txt b.text), .slice B g.len d]] w (Ans9 (.bool true) w) := by
 have hb2 : Blk ((w.alloc (.cells #[.string (txt a.name), .string (txt a.key), .int .i64 a.kind, .int .u64 (a.num : Int), .string (txt a.text), .slice A f.len c] 27)).alloc (.cells #[.string (txt b.name), .string (txt b.key), .int .i64 b.kind, .int .u64 (b.num : Int), .string (txt b.text), .slice B g.len d] 27)) (w.heap.size + 1) 27 #[.string (txt b.name), .string (txt b.key), .int .i64 b.kind, .int .u64 (b.num : Int), .string (txt b.text), .slice B g.len d] := by
  have h := Blk.new (w.alloc (.cells #[.string (txt a.name), .string (txt a.key), .int .i64 a.kind, .int .u64 (a.num : Int), .string (txt a.text), .slice A f.len c] 27)) 27 #[.string (txt b.name), .string (txt b.key), .int .i64 b.kind, .int .u64 (b.num : Int), .string (txt b.text), .slice B g.len d]
  rwa [show (w.alloc (.cells #[.string (txt a.name), .string (txt a.key), .int .i64 a.kind, .int .u64 (a.num : Int), .string (txt a.text), .slice A f.len c] 27)).heap.size = w.heap.size + 1 by simp] at h
 have hb1 : Blk ((w.alloc (.cells #[.string (txt a.name), .string (txt a.key), .int .i64 a.kind, .int .u64 (a.num : Int), .string (txt a.text), .slice A f.len c] 27)).alloc (.cells #[.string (txt b.name), .string (txt b.key), .int .i64 b.kind, .int .u64 (b.num : Int), .string (txt b.text), .slice B g.len d] 27)) w.heap.size 27 #[.string (txt a.name), .string (txt a.key), .int .i64 a.kind, .int .u64 (a.num : Int), .string (txt a.text), .slice A f.len c] := (Blk.new w 27 #[.string (txt a.name), .string (txt a.key), .int .i64 a.kind, .int .u64 (a.num : Int), .string (txt a.text), .slice A f.len c]).alloc (.cells #[.string (txt b.name), .string (txt b.key), .int .i64 b.kind, .int .u64 (b.num : Int), .string (txt b.text), .slice B g.len d] 27)
 have hbw : Below w.heap.size w ((w.alloc (.cells #[.string (txt a.name), .string (txt a.key), .int .i64 a.kind, .int .u64 (a.num : Int), .string (txt a.text), .slice A f.len c] 27)).alloc (.cells #[.string (txt b.name), .string (txt b.key), .int .i64 b.kind, .int .u64 (b.num : Int), .string (txt b.text), .slice B g.len d] 27)) := ((Below.refl _ _).alloc (Nat.le_refl _) _).alloc (by simp) _
 have hc1 : ∀ W, Below w.heap.size w W → Hid (Calls Try.prog 8 #[.agg #[.string (txt a.name), .string (txt a.key), .int .i64 a.kind, .int .u64 (a.num : Int), .string (txt a.text), .slice A f.len c], .agg #[.string (txt b.name), .string (txt b.key), .int .i64 b.kind, .int .u64 (b.num : Int), .string (txt b.text), .slice B g.len d]] W (Ans9 (.bool (smallX a b f g)) W)) := fun W h => Lib.hid (small16_any a b f g A B c d W (hx.below h) (hy.below h) (by omega) (by omega))
 have HX := Lib.hid hb1
 have HY := Lib.hid hb2
 have HB := Lib.hid hbw
 have HAW := Lib.hid (HA _ hbw)
 rw [hs] at hc1
 obtain ⟨⟨⟨⟨⟨s1, s2⟩, s3⟩, s4⟩, s5⟩, s6⟩ : ((((f.size + 1 ≤ 300 ∧ g.size + 1 ≤ 300) ∧ a.kind = 0) ∧ b.kind = 0) ∧ rgtX (a, f) = true) ∧ rgtX (b, g) = true := by simpa [smallX] using hs
 obtain ⟨L, hL⟩ : ∃ L, L = edF f g [] := ⟨_, rfl⟩
 have hfw : FewE L := hL ▸ fewE_ed (by omega)
 have hc2 : ∀ W, Below w.heap.size w W → Hid (Calls Try.prog 10 #[.agg #[.string (txt a.name), .string (txt a.key), .int .i64 a.kind, .int .u64 (a.num : Int), .string (txt a.text), .slice A f.len c], .agg #[.string (txt b.name), .string (txt b.key), .int .i64 b.kind, .int .u64 (b.num : Int), .string (txt b.text), .slice B g.len d]] W (InvP L W)) := fun W h => Lib.hid (hL ▸ C.edits a b f g A B c d W (hx.below h) (hy.below h) (by omega) s3 s4 s5 s6 h)
 have hc3 : ∀ W, Below w.heap.size w W → Hid (Calls Try.prog 11 #[.agg #[.string (txt a.name), .string (txt a.key), .int .i64 a.kind, .int .u64 (a.num : Int), .string (txt a.text), .slice A f.len c], .agg #[.string (txt b.name), .string (txt b.key), .int .i64 b.kind, .int .u64 (b.num : Int), .string (txt b.text), .slice B g.len d]] W (InvP L W)) := fun W h => Lib.hid (hL ▸ rEdits16_any a b f g A B c d W (hx.below h) (hy.below h) (by omega))
 have C1 := Lib.hid hc1
 have C2 := Lib.hid hc2
 have C3 := Lib.hid hc3
 have HF := Lib.hid hfw
 clear hx hy hf hg hc1 hc2 hc3 hb1 hb2 hbw HA C hs s1 s2 s3 s4 s5 s6 hL hfw
 go_enter Try.func3, Try.ntmps3
 go_wp2_with fail
 refine HAW.out.mono ?_
 rintro r w1 ⟨rfl, hb⟩
 have HX1 := Lib.hid (HX.out.below hb HX.out.lt)
 have HY1 := Lib.hid (HY.out.below hb HY.out.lt)
 have HB1 := Lib.hid (HB.out.trans (hb.mono HB.out.size))
 clear hb
 have q0 := (HX1.out.cell 0).trans rfl
 have q1 := (HX1.out.cell 1).trans rfl
 have q2 := (HX1.out.cell 2).trans rfl
 have q3 := (HX1.out.cell 3).trans rfl
 have q4 := (HX1.out.cell 4).trans rfl
 have q5 := (HX1.out.cell 5).trans rfl
 have x0 := (HY1.out.cell 0).trans rfl
 have x1 := (HY1.out.cell 1).trans rfl
 have x2 := (HY1.out.cell 2).trans rfl
 have x3 := (HY1.out.cell 3).trans rfl
 have x4 := (HY1.out.cell 4).trans rfl
 have x5 := (HY1.out.cell 5).trans rfl
 go_wp2_with fail
 refine (C1.out _ HB1.out).out.mono ?_
 rintro r w2 ⟨rfl, hb⟩
 have HX2 := Lib.hid (HX1.out.below hb HX1.out.lt)
 have HY2 := Lib.hid (HY1.out.below hb HY1.out.lt)
 have HB2 := Lib.hid (HB1.out.trans (hb.mono HB1.out.size))
 clear hb
 have q0 := (HX2.out.cell 0).trans rfl
 have q1 := (HX2.out.cell 1).trans rfl
 have q2 := (HX2.out.cell 2).trans rfl
 have q3 := (HX2.out.cell 3).trans rfl
 have q4 := (HX2.out.cell 4).trans rfl
 have q5 := (HX2.out.cell 5).trans rfl
 have x0 := (HY2.out.cell 0).trans rfl
 have x1 := (HY2.out.cell 1).trans rfl
 have x2 := (HY2.out.cell 2).trans rfl
 have x3 := (HY2.out.cell 3).trans rfl
 have x4 := (HY2.out.cell 4).trans rfl
 have x5 := (HY2.out.cell 5).trans rfl
 have hdr : Below w2.heap.size w2 w2.drew := (Below.refl _ _).drew
 have HBX := Lib.hid (And.intro (HX2.out.below hdr HX2.out.lt) (HY2.out.below hdr HY2.out.lt))
 have HWc := Lib.hid (HB2.out.trans (hdr.mono HB2.out.size))
 clear hdr q0 q1 q2 q3 q4 q5 x0 x1 x2 x3 x4 x5
 go_wp2_with fail
 refine wp_region_noPanic ?_
 refine wp_region_held_drew (S := fun _ => True) (by kernel_rfl) trivial (fun hS => ?_)
 refine held_more (S' := fun w' => Blk w' w.heap.size 27 #[.string (txt a.name), .string (txt a.key), .int .i64 a.kind, .int .u64 (a.num : Int), .string (txt a.text), .slice A f.len c] ∧ Blk w' (w.heap.size + 1) 27 #[.string (txt b.name), .string (txt b.key), .int .i64 b.kind, .int .u64 (b.num : Int), .string (txt b.text), .slice B g.len d]) (fun _ _ => trivial) _ _ _ _ ?_
 replace hS := HBX.out
 refine tkH 0 hS ?_
 refine tkH 1 hS ?_
 refine tkH 2 hS ?_
 refine tkH 3 hS ?_ (hy := fun w hSw => by have q0 := (hSw.1.cell 0).trans rfl; have q1 := (hSw.1.cell 1).trans rfl; have q2 := (hSw.1.cell 2).trans rfl; have q3 := (hSw.1.cell 3).trans rfl; have q4 := (hSw.1.cell 4).trans rfl; have q5 := (hSw.1.cell 5).trans rfl; (go_simp <;> with_reducible rfl))
 refine tkH 4 hS ?_ (hy := fun w hSw => by have x0 := (hSw.2.cell 0).trans rfl; have x1 := (hSw.2.cell 1).trans rfl; have x2 := (hSw.2.cell 2).trans rfl; have x3 := (hSw.2.cell 3).trans rfl; have x4 := (hSw.2.cell 4).trans rfl; have x5 := (hSw.2.cell 5).trans rfl; (go_simp <;> with_reducible rfl))
 refine tkH 6 hS ?_ (hy := fun w hSw => by have q0 := (hSw.1.cell 0).trans rfl; have q1 := (hSw.1.cell 1).trans rfl; have q2 := (hSw.1.cell 2).trans rfl; have q3 := (hSw.1.cell 3).trans rfl; have q4 := (hSw.1.cell 4).trans rfl; have q5 := (hSw.1.cell 5).trans rfl; (go_simp <;> with_reducible rfl))
 refine tkH 7 hS ?_ (hy := fun w hSw => by have x0 := (hSw.2.cell 0).trans rfl; have x1 := (hSw.2.cell 1).trans rfl; have x2 := (hSw.2.cell 2).trans rfl; have x3 := (hSw.2.cell 3).trans rfl; have x4 := (hSw.2.cell 4).trans rfl; have x5 := (hSw.2.cell 5).trans rfl; (go_simp <;> with_reducible rfl))
 refine wpAnyH_ready (rs := [5]) (by kernel_rfl) (by simp) ?_
 refine (AllReadyH.cons (o := ?or_0) ?ir_0 (fun K hK => ?str_0) AllReadyH.nil)
 case ir_0 => simp only [layG]; rfl
 rw [if_pos (by rfl)]
 go_simp
 refine (C2.out _ HWc.out).out.mono ?_
 rintro r w5 ⟨v1, rfl, hv1, hb5⟩
 replace HBX := Lib.hid (And.intro (HBX.out.1.below hb5 HBX.out.1.lt) (HBX.out.2.below hb5 HBX.out.2.lt))
 replace HWc := Lib.hid (HWc.out.trans (hb5.mono HWc.out.size))
 have HV1 := Lib.hid hv1
 clear hv1 hb5
 go_wp2_with fail
 refine hK.out _ _ ?sr_0 (fun hS => ?_)
 case sr_0 => (exact HBX.out)
 clear hK K
 (try simp only [Act.put, layS])
 refine wpAnyH_ready (rs := [8]) (by kernel_rfl) (by simp) ?_
 refine (AllReadyH.cons (o := ?or_1) ?ir_1 (fun K hK => ?str_1) AllReadyH.nil)
 case ir_1 => simp only [layG]; rfl
 rw [if_pos (by rfl)]
 go_simp
 refine (C3.out _ HWc.out).out.mono ?_
 rintro r w8 ⟨v2, rfl, hv2, hb8⟩
 replace HBX := Lib.hid (And.intro (HBX.out.1.below hb8 HBX.out.1.lt) (HBX.out.2.below hb8 HBX.out.2.lt))
 replace HWc := Lib.hid (HWc.out.trans (hb8.mono HWc.out.size))
 have hsm := rsame16_any L L v1 v2 w8 (HV1.out.below hb8) hv2 HF.out HF.out
 rw [decide_eq_true rfl] at hsm
 have HSM := Lib.hid hsm
 clear hv2 hb8 hsm
 go_wp2_with fail
 refine hK.out _ _ ?sr_1 (fun hS => ?_)
 case sr_1 => (exact HBX.out)
 clear hK K
 (try simp only [Act.put, layS])
 refine wpAnyH_ready (rs := [9]) (by kernel_rfl) (by simp) ?_
 refine (AllReadyH.cons (o := ?or_2) ?ir_2 (fun K hK => ?str_2) AllReadyH.nil)
 case ir_2 => simp only [layG]; rfl
 rw [if_pos (by rfl)]
 go_simp
 refine HSM.out.mono ?_
 rintro r w9 ⟨rfl, hb9⟩
 replace HBX := Lib.hid (And.intro (HBX.out.1.below hb9 HBX.out.1.lt) (HBX.out.2.below hb9 HBX.out.2.lt))
 replace HWc := Lib.hid (HWc.out.trans (hb9.mono HWc.out.size))
 clear hb9
 go_wp2_with fail
 refine hK.out _ _ ?sr_2 (fun hS => ?_)
 case sr_2 => (exact HBX.out)
 clear hK K
 (try simp only [Act.put, layS])
 refine tkH 10 hS ?_
 refine tkH 11 hS ?_
 refine wpAnyH_done (by kernel_rfl) ?_ _
 refine NoPanic.normal ?_
 clear hS
 go_wp2
 go_ret
 exact ⟨rfl, HWc.out⟩
theorem diffTells_walk (a b : NdD) (f g : NdF) (A B : Option Addr) (c d : Nat) (w : World) (hx : LieN w (ndC a (.slice A f.len c)) (a, f)) (hy : LieN w (ndC b (.slice B g.len d)) (b, g)) (hf : f.size ≤ 1000000) (hg : g.size ≤ 1000000) (C : DifC w) (HA : Awake16 w) : Calls Try.prog 3 #[.agg #[.string (txt a.name), .string (txt a.key), .int .i64 a.kind, .int .u64 (a.num : Int), .string (txt a.text), .slice A f.len c], .agg #[.string (txt b.name), .string (txt b.key), .int .i64 b.kind, .int .u64 (b.num : Int), .string (txt b.text), .slice B g.len d]] w (Ans9 (.bool true) w) := by
 cases hs : smallX a b f g with
 | true => exact diffTells_yes a b f g A B c d w hx hy hf hg C HA hs
 | false => exact diffTells_not a b f g A B c d w hx hy hf hg C HA hs
end Go.Proofs.Ythdhchhpjoghlaa
namespace Go.Proofs.Ythdhchhpjoghlaa
open Go.RowKit
attribute [local go_sem] Oper.semAt_some
def fewX (l : List EdD) : Bool := l.all (fun e => decide (sizeX e.node ≤ 300) && decide (sizeX e.old ≤ 300) && decide (e.way.length ≤ 20)) && decide (l.length ≤ 60)
theorem fewX_iff {l : List EdD} : fewX l = true ↔ (∀ e ∈ l, sizeX e.node ≤ 300 ∧ sizeX e.old ≤ 300 ∧ e.way.length ≤ 20) ∧ l.length ≤ 60 := by
 simp [fewX, and_assoc]
theorem fewX_few {l : List EdD} (h : fewX l = true) : FewE l := by
 obtain ⟨h1, h2⟩ := fewX_iff.1 h
 refine ⟨by omega, fun e he => ?_⟩
 obtain ⟨g1, g2, g3⟩ := h1 e he
 have e1 : sizeX e.node = e.node.2.size + 1 := rfl
 have e2 : sizeX e.old = e.old.2.size + 1 := rfl
 exact ⟨by omega, by unfold Few9; omega, by unfold Few9; omega⟩
def FewN (l : List EdD) : Prop := l.length ≤ 1000000 ∧ ∀ e ∈ l, Few9 e.node ∧ Few9 e.old
set_option maxRecDepth 100000 in
set_option maxHeartbeats 4000000 in
theorem few16_any (l : List EdD) (v : Value) (w : World) (hv : EdsV (Bel w) w v l) (hl : FewN l) :
  Calls Try.prog 12 #[v] w (Ans9 (.bool (fewX l)) w) := by
 obtain ⟨A, c, rfl⟩ := hv.shape
 have HV := Lib.hid hv
 have HL := Lib.hid hl
 have l0 : l.length ≤ 1000000 := hl.1
 clear hv hl
 go_enter Try.func12, Try.ntmps12
 go_wp2
 go_loopw [3] (fun i wr => ∃ j : Nat, j ≤ l.length ∧ i = .int .i64 (j : Int) ∧ Hid (∀ e ∈ l.take j, sizeX e.node ≤ 300 ∧ sizeX e.old ≤ 300 ∧ e.way.length ≤ 20) ∧ Hid (Below w.heap.size w wr)) (fun i _ => l.length - (intOf i).toNat)
 case atStart => exact ⟨0, Nat.zero_le _, rfl, Lib.hid (by simp), Lib.hid (Below.refl _ _)⟩
 case round =>
  obtain ⟨j, hj, rfl, HK, HB⟩ := hrel
  have i1 : (0 : Int) ≤ (j : Int) := by omega
  by_cases hlt : j < l.length
  ·have i2 : (j : Int) < (l.length : Int) := by omega
   obtain ⟨e, he⟩ : ∃ e, l[j]? = some e := ⟨_, List.getElem?_eq_getElem hlt⟩
   have hem := List.mem_of_getElem? he
   have HM := Lib.hid hem
   obtain ⟨g, o, Aw, cw, An, cn, Ao, co, rfl, -, -, hgS, hw, hn, hod, hcl⟩ := (HV.out.below HB.out).at he
   have HG : Hid (g < wr.heap.size) := Lib.hid hgS
   have hq : ∀ W, Below wr.heap.size wr W → ∀ i u, (edC e.kind (.slice Aw e.way.length cw) e.node.1 (.slice An e.node.2.len cn) e.old.1 (.slice Ao e.old.2.len co))[i]? = some u → W.cell? ⟨g, o + j * 14 + i, none⟩ = some u := fun W hW i u hu => (hW.cell (p := ⟨g, o + j * 14 + i, none⟩) hgS).trans (hcl i u hu)
   have HQ := Lib.hid hq
   have hn2 : LieN wr (ndC e.node.1 (.slice An e.node.2.len cn)) (e.node.1, e.node.2) := LieB.make hn
   have ho2 : LieN wr (ndC e.old.1 (.slice Ao e.old.2.len co)) (e.old.1, e.old.2) := LieB.make hod
   obtain ⟨z, hz⟩ : ∃ z, z = sizeX e.node := ⟨_, rfl⟩
   obtain ⟨y, hy⟩ : ∃ y, y = sizeX e.old := ⟨_, rfl⟩
   have hfw := HL.out.2 e hem
   have hc1 : ∀ W, Below wr.heap.size wr W → Hid (Calls Try.prog 20 #[.agg (ndC e.node.1 (.slice An e.node.2.len cn)).toArray] W (Ans9 (.int .i64 (z : Int)) W)) := fun W h => Lib.hid (by rw [hz]; exact rsizet_any e.node _ W (hn2.below h) hfw.1)
   have hc2 : ∀ W, Below wr.heap.size wr W → Hid (Calls Try.prog 20 #[.agg (ndC e.old.1 (.slice Ao e.old.2.len co)).toArray] W (Ans9 (.int .i64 (y : Int)) W)) := fun W h => Lib.hid (by rw [hy]; exact rsizet_any e.old _ W (ho2.below h) hfw.2)
   simp only [ndC] at hc1 hc2
   have C1 := Lib.hid hc1
   have C2 := Lib.hid hc2
   have HZ : Hid (z = sizeX e.node ∧ y = sizeX e.old) := Lib.hid ⟨hz, hy⟩
   have lz : z ≤ 1000001 := by rw [hz]; have := hfw.1; unfold Few9 at this; show e.node.2.size + 1 ≤ _; omega
   have ly : y ≤ 1000001 := by rw [hy]; have := hfw.2; unfold Few9 at this; show e.old.2.size + 1 ≤ _; omega
   have HT := Lib.hid (take_snocE he)
   have n0 : j < l.length := hlt
   have H0 : Hid (Below wr.heap.size wr wr) := Lib.hid (Below.refl _ _)
   clear hcl he hw hn hod hn2 ho2 hc1 hc2 hq hz hy hfw hem hgS
   have a2 : wr.cell? ⟨g, o + j * 14 + 2, none⟩ = _ := HQ.out _ H0.out 2 _ rfl
   have a3 : wr.cell? ⟨g, o + j * 14 + 3, none⟩ = _ := HQ.out _ H0.out 3 _ rfl
   have a4 : wr.cell? ⟨g, o + j * 14 + 4, none⟩ = _ := HQ.out _ H0.out 4 _ rfl
   have a5 : wr.cell? ⟨g, o + j * 14 + 5, none⟩ = _ := HQ.out _ H0.out 5 _ rfl
   have a6 : wr.cell? ⟨g, o + j * 14 + 6, none⟩ = _ := HQ.out _ H0.out 6 _ rfl
   have a7 : wr.cell? ⟨g, o + j * 14 + 7, none⟩ = _ := HQ.out _ H0.out 7 _ rfl
   by_cases h1 : z ≤ 300
   ·have j1 : ¬ (300 : Int) < (z : Int) := by omega
    by_cases h2 : y ≤ 300
    ·have j2 : ¬ (300 : Int) < (y : Int) := by omega
     by_cases h3 : e.way.length ≤ 20
     ·have j3 : ¬ (20 : Int) < (e.way.length : Int) := by omega
      have HK2 : Hid (∀ x ∈ l.take (j + 1), sizeX x.node ≤ 300 ∧ sizeX x.old ≤ 300 ∧ x.way.length ≤ 20) := Lib.hid (by
       rw [HT.out]
       intro x hx
       rcases List.mem_append.1 hx with hx | hx
       ·exact HK.out x hx
       ·obtain rfl : x = e := by simpa using hx
        exact ⟨by rw [← HZ.out.1]; exact h1, by rw [← HZ.out.2]; exact h2, h3⟩)
      clear h1 h2 h3
      go_wp2_with fail
      refine (C1.out wr H0.out).out.mono ?_
      rintro r w1 ⟨rfl, hb1⟩
      have HB1 := Lib.hid hb1
      have b8 : w1.cell? ⟨g, o + j * 14 + 8, none⟩ = _ := HQ.out _ hb1 8 _ rfl
      have b9 : w1.cell? ⟨g, o + j * 14 + 9, none⟩ = _ := HQ.out _ hb1 9 _ rfl
      have b10 : w1.cell? ⟨g, o + j * 14 + 10, none⟩ = _ := HQ.out _ hb1 10 _ rfl
      have b11 : w1.cell? ⟨g, o + j * 14 + 11, none⟩ = _ := HQ.out _ hb1 11 _ rfl
      have b12 : w1.cell? ⟨g, o + j * 14 + 12, none⟩ = _ := HQ.out _ hb1 12 _ rfl
      have b13 : w1.cell? ⟨g, o + j * 14 + 13, none⟩ = _ := HQ.out _ hb1 13 _ rfl
      clear hb1
      go_wp2_with fail
      refine (C2.out w1 HB1.out).out.mono ?_
      rintro r w2 ⟨rfl, hb2⟩
      have HB2 := Lib.hid (HB1.out.trans (hb2.mono HB1.out.size))
      have d1 : w2.cell? ⟨g, o + j * 14 + 1, none⟩ = _ := HQ.out _ HB2.out 1 _ rfl
      clear hb2
      go_wp2
      go_roundw
      case rel => exact ⟨j + 1, by omega, by go_num, HK2, Lib.hid (HB.out.trans (HB2.out.mono HB.out.size))⟩
      case measure => simp [intOf]; omega
     ·have j3 : (20 : Int) < (e.way.length : Int) := by omega
      have HN : Hid (fewX l = false) := Lib.hid (Bool.eq_false_iff.2 fun hh => h3 ((fewX_iff.1 hh).1 e HM.out).2.2)
      clear h1 h2 h3
      go_wp2_with fail
      refine (C1.out wr H0.out).out.mono ?_
      rintro r w1 ⟨rfl, hb1⟩
      have HB1 := Lib.hid hb1
      have b8 : w1.cell? ⟨g, o + j * 14 + 8, none⟩ = _ := HQ.out _ hb1 8 _ rfl
      have b9 : w1.cell? ⟨g, o + j * 14 + 9, none⟩ = _ := HQ.out _ hb1 9 _ rfl
      have b10 : w1.cell? ⟨g, o + j * 14 + 10, none⟩ = _ := HQ.out _ hb1 10 _ rfl
      have b11 : w1.cell? ⟨g, o + j * 14 + 11, none⟩ = _ := HQ.out _ hb1 11 _ rfl
      have b12 : w1.cell? ⟨g, o + j * 14 + 12, none⟩ = _ := HQ.out _ hb1 12 _ rfl
      have b13 : w1.cell? ⟨g, o + j * 14 + 13, none⟩ = _ := HQ.out _ hb1 13 _ rfl
      clear hb1
      go_wp2_with fail
      refine (C2.out w1 HB1.out).out.mono ?_
      rintro r w2 ⟨rfl, hb2⟩
      have HB2 := Lib.hid (HB1.out.trans (hb2.mono HB1.out.size))
      have d1 : w2.cell? ⟨g, o + j * 14 + 1, none⟩ = _ := HQ.out _ HB2.out 1 _ rfl
      clear hb2
      go_wp2
      go_ret
      exact ⟨congrArg (fun b => Ending.returned (Value.bool b)) HN.out.symm, HB.out.trans (HB2.out.mono HB.out.size)⟩
    ·have j2 : (300 : Int) < (y : Int) := by omega
     have HN : Hid (fewX l = false) := Lib.hid (Bool.eq_false_iff.2 fun hh => h2 (by rw [HZ.out.2]; exact ((fewX_iff.1 hh).1 e HM.out).2.1))
     clear h1 h2
     go_wp2_with fail
     refine (C1.out wr H0.out).out.mono ?_
     rintro r w1 ⟨rfl, hb1⟩
     have HB1 := Lib.hid hb1
     have b8 : w1.cell? ⟨g, o + j * 14 + 8, none⟩ = _ := HQ.out _ hb1 8 _ rfl
     have b9 : w1.cell? ⟨g, o + j * 14 + 9, none⟩ = _ := HQ.out _ hb1 9 _ rfl
     have b10 : w1.cell? ⟨g, o + j * 14 + 10, none⟩ = _ := HQ.out _ hb1 10 _ rfl
     have b11 : w1.cell? ⟨g, o + j * 14 + 11, none⟩ = _ := HQ.out _ hb1 11 _ rfl
     have b12 : w1.cell? ⟨g, o + j * 14 + 12, none⟩ = _ := HQ.out _ hb1 12 _ rfl
     have b13 : w1.cell? ⟨g, o + j * 14 + 13, none⟩ = _ := HQ.out _ hb1 13 _ rfl
     clear hb1
     go_wp2_with fail
     refine (C2.out w1 HB1.out).out.mono ?_
     rintro r w2 ⟨rfl, hb2⟩
     have HB2 := Lib.hid (HB1.out.trans (hb2.mono HB1.out.size))
     have d1 : w2.cell? ⟨g, o + j * 14 + 1, none⟩ = _ := HQ.out _ HB2.out 1 _ rfl
     clear hb2
     go_wp2
     go_ret
     exact ⟨congrArg (fun b => Ending.returned (Value.bool b)) HN.out.symm, HB.out.trans (HB2.out.mono HB.out.size)⟩
   ·have j1 : (300 : Int) < (z : Int) := by omega
    have HN : Hid (fewX l = false) := Lib.hid (Bool.eq_false_iff.2 fun hh => h1 (by rw [HZ.out.1]; exact ((fewX_iff.1 hh).1 e HM.out).1))
    clear h1
    go_wp2_with fail
    refine (C1.out wr H0.out).out.mono ?_
    rintro r w1 ⟨rfl, hb1⟩
    have HB1 := Lib.hid hb1
    have b8 : w1.cell? ⟨g, o + j * 14 + 8, none⟩ = _ := HQ.out _ hb1 8 _ rfl
    have b9 : w1.cell? ⟨g, o + j * 14 + 9, none⟩ = _ := HQ.out _ hb1 9 _ rfl
    have b10 : w1.cell? ⟨g, o + j * 14 + 10, none⟩ = _ := HQ.out _ hb1 10 _ rfl
    have b11 : w1.cell? ⟨g, o + j * 14 + 11, none⟩ = _ := HQ.out _ hb1 11 _ rfl
    have b12 : w1.cell? ⟨g, o + j * 14 + 12, none⟩ = _ := HQ.out _ hb1 12 _ rfl
    have b13 : w1.cell? ⟨g, o + j * 14 + 13, none⟩ = _ := HQ.out _ hb1 13 _ rfl
    clear hb1
    go_wp2
    go_ret
    exact ⟨congrArg (fun b => Ending.returned (Value.bool b)) HN.out.symm, HB.out.trans (HB1.out.mono HB.out.size)⟩
  ·obtain rfl : j = l.length := by omega
   have i2 : ¬ (l.length : Int) < (l.length : Int) := by omega
   have HF : Hid (fewX l = decide (l.length ≤ 60)) := Lib.hid (by
    have h := HK.out
    rw [List.take_length] at h
    by_cases h6 : l.length ≤ 60
    ·rw [decide_eq_true h6, fewX_iff]; exact ⟨h, h6⟩
    ·rw [decide_eq_false h6]; exact Bool.eq_false_iff.2 fun hh => h6 (fewX_iff.1 hh).2)
   have HD : Hid (decide ((l.length : Int) ≤ 60) = decide (l.length ≤ 60)) := Lib.hid (by rw [Bool.eq_iff_iff]; simp; omega)
   clear HK hlt
   go_wp2
   go_ret
   exact ⟨congrArg (fun b => Ending.returned (Value.bool b)) (HD.out.trans HF.out.symm), HB.out⟩
set_option maxRecDepth 100000 in
set_option maxHeartbeats 4000000 in
theorem diffRows_not1 (l m : List EdD) (way : List Stp) (vl vm vw : Value) (w : World) (hl : EdsV (Bel w) w vl l) (hm : EdsV (Bel w) w vm m) (hw : WayV w.heap.size w vw way) (fl : FewN l) (fm : FewN m) (C : DifC w) (HA : Awake16 w) (h1 : fewX l = false) : Calls Try.prog 4 #[vl, vm, vw] w (Ans9 (.bool true) w) := by
 obtain ⟨A, c, rfl⟩ := hl.shape
 obtain ⟨B, d, rfl⟩ := hm.shape
 obtain ⟨Aw, cw, rfl⟩ := hw.shape
 have HAW := Lib.hid (HA w (Below.refl _ _))
 have hc1 : ∀ W, Below w.heap.size w W → Hid (Calls Try.prog 12 #[.slice A l.length c] W (Ans9 (.bool (fewX l)) W)) := fun W h => Lib.hid (few16_any l _ W (hl.below h) fl)
 have hc2 : ∀ W, Below w.heap.size w W → Hid (Calls Try.prog 12 #[.slice B m.length d] W (Ans9 (.bool (fewX m)) W)) := fun W h => Lib.hid (few16_any m _ W (hm.below h) fm)
 rw [h1] at hc1
 obtain ⟨y, hy⟩ : ∃ y, y = fewX m := ⟨_, rfl⟩
 rw [← hy] at hc2
 have C1 := Lib.hid hc1
 have C2 := Lib.hid hc2
 clear hc1 hc2 hl hm hw fl fm C HA h1 hy
 go_enter Try.func4, Try.ntmps4
 go_wp2_with fail
 refine HAW.out.mono ?_
 rintro r w1 ⟨rfl, hb⟩
 have HB1 := Lib.hid hb
 clear hb
 go_wp2_with fail
 refine (C1.out _ HB1.out).out.mono ?_
 rintro r w2 ⟨rfl, hb⟩
 have HB2 := Lib.hid (HB1.out.trans (hb.mono HB1.out.size))
 clear hb
 go_wp2_with fail
 refine (C2.out _ HB2.out).out.mono ?_
 rintro r w3 ⟨rfl, hb⟩
 have HB3 := Lib.hid (HB2.out.trans (hb.mono HB2.out.size))
 clear hb
 go_wp2
 go_ret
 exact ⟨rfl, HB3.out⟩
set_option maxRecDepth 100000 in
set_option maxHeartbeats 4000000 in
theorem diffRows_not2 (l m : List EdD) (way : List Stp) (vl vm vw : Value) (w : World) (hl : EdsV (Bel w) w vl l) (hm : EdsV (Bel w) w vm m) (hw : WayV w.heap.size w vw way) (fl : FewN l) (fm : FewN m) (C : DifC w) (HA : Awake16 w) (h1 : fewX l = true) (h2 : fewX m = false) : Calls Try.prog 4 #[vl, vm, vw] w (Ans9 (.bool true) w) := by
 obtain ⟨A, c, rfl⟩ := hl.shape
 obtain ⟨B, d, rfl⟩ := hm.shape
 obtain ⟨Aw, cw, rfl⟩ := hw.shape
 have HAW := Lib.hid (HA w (Below.refl _ _))
 have hc1 : ∀ W, Below w.heap.size w W → Hid (Calls Try.prog 12 #[.slice A l.length c] W (Ans9 (.bool (fewX l)) W)) := fun W h => Lib.hid (few16_any l _ W (hl.below h) fl)
 have hc2 : ∀ W, Below w.heap.size w W → Hid (Calls Try.prog 12 #[.slice B m.length d] W (Ans9 (.bool (fewX m)) W)) := fun W h => Lib.hid (few16_any m _ W (hm.below h) fm)
 rw [h1] at hc1
 rw [h2] at hc2
 have C1 := Lib.hid hc1
 have C2 := Lib.hid hc2
 clear hc1 hc2 hl hm hw fl fm C HA h1 h2
 go_enter Try.func4, Try.ntmps4
 go_wp2_with fail
 refine HAW.out.mono ?_
 rintro r w1 ⟨rfl, hb⟩
 have HB1 := Lib.hid hb
 clear hb
 go_wp2_with fail
 refine (C1.out _ HB1.out).out.mono ?_
 rintro r w2 ⟨rfl, hb⟩
 have HB2 := Lib.hid (HB1.out.trans (hb.mono HB1.out.size))
 clear hb
 go_wp2_with fail
 refine (C2.out _ HB2.out).out.mono ?_
 rintro r w3 ⟨rfl, hb⟩
 have HB3 := Lib.hid (HB2.out.trans (hb.mono HB2.out.size))
 clear hb
 go_wp2
 go_ret
 exact ⟨rfl, HB3.out⟩
set_option maxRecDepth 100000 in
set_option maxHeartbeats 4000000 in
theorem diffRows_not3 (l m : List EdD) (way : List Stp) (vl vm vw : Value) (w : World) (hl : EdsV (Bel w) w vl l) (hm : EdsV (Bel w) w vm m) (hw : WayV w.heap.size w vw way) (fl : FewN l) (fm : FewN m) (C : DifC w) (HA : Awake16 w) (h1 : fewX l = true) (h2 : fewX m = true) (h3 : 20 < way.length) : Calls Try.prog 4 #[vl, vm, vw] w (Ans9 (.bool true) w) := by
 obtain ⟨A, c, rfl⟩ := hl.shape
 obtain ⟨B, d, rfl⟩ := hm.shape
 obtain ⟨Aw, cw, rfl⟩ := hw.shape
 have HAW := Lib.hid (HA w (Below.refl _ _))
 have hc1 : ∀ W, Below w.heap.size w W → Hid (Calls Try.prog 12 #[.slice A l.length c] W (Ans9 (.bool (fewX l)) W)) := fun W h => Lib.hid (few16_any l _ W (hl.below h) fl)
 have hc2 : ∀ W, Below w.heap.size w W → Hid (Calls Try.prog 12 #[.slice B m.length d] W (Ans9 (.bool (fewX m)) W)) := fun W h => Lib.hid (few16_any m _ W (hm.below h) fm)
 rw [h1] at hc1
 rw [h2] at hc2
 have C1 := Lib.hid hc1
 have C2 := Lib.hid hc2
 have j3 : (20 : Int) < (way.length : Int) := by omega
 clear hc1 hc2 hl hm hw fl fm C HA h1 h2 h3
 go_enter Try.func4, Try.ntmps4
 go_wp2_with fail
 refine HAW.out.mono ?_
 rintro r w1 ⟨rfl, hb⟩
 have HB1 := Lib.hid hb
 clear hb
 go_wp2_with fail
 refine (C1.out _ HB1.out).out.mono ?_
 rintro r w2 ⟨rfl, hb⟩
 have HB2 := Lib.hid (HB1.out.trans (hb.mono HB1.out.size))
 clear hb
 go_wp2_with fail
 refine (C2.out _ HB2.out).out.mono ?_
 rintro r w3 ⟨rfl, hb⟩
 have HB3 := Lib.hid (HB2.out.trans (hb.mono HB2.out.size))
 clear hb
 go_wp2
 go_ret
 exact ⟨rfl, HB3.out⟩
set_option maxRecDepth 100000 in
set_option maxHeartbeats 4000000 in
theorem diffRows_yes (l m : List EdD) (way : List Stp) (vl vm vw : Value) (w : World) (hl : EdsV (Bel w) w vl l) (hm : EdsV (Bel w) w vm m) (hw : WayV w.heap.size w vw way) (fl : FewN l) (fm : FewN m) (C : DifC w) (HA : Awake16 w) (h1 : fewX l = true) (h2 : fewX m = true) (h3 : ¬ 20 < way.length) : Calls Try.prog 4 #[vl, vm, vw] w (Ans9 (.bool true) w) := by
 obtain ⟨A, c, rfl⟩ := hl.shape
 obtain ⟨B, d, rfl⟩ := hm.shape
 obtain ⟨Aw, cw, rfl⟩ := hw.shape
 have HAW := Lib.hid (HA w (Below.refl _ _))
 have hc1 : ∀ W, Below w.heap.size w W → Hid (Calls Try.prog 12 #[.slice A l.length c] W (Ans9 (.bool (fewX l)) W)) := fun W h => Lib.hid (few16_any l _ W (hl.below h) fl)
 have hc2 : ∀ W, Below w.heap.size w W → Hid (Calls Try.prog 12 #[.slice B m.length d] W (Ans9 (.bool (fewX m)) W)) := fun W h => Lib.hid (few16_any m _ W (hm.below h) fm)
 replace fl := fewX_few h1
 replace fm := fewX_few h2
 have fw : way.length ≤ 1000000 := by omega
 rw [h1] at hc1
 rw [h2] at hc2
 have C1 := Lib.hid hc1
 have C2 := Lib.hid hc2
 have j3 : ¬ (20 : Int) < (way.length : Int) := by omega
 obtain ⟨I, hI⟩ : ∃ I, I = invX l := ⟨_, rfl⟩
 have fi : FewE I := hI ▸ fewE_inv fl
 obtain ⟨n, hn⟩ : ∃ n, n = undE l way := ⟨_, rfl⟩
 obtain ⟨s, hs⟩ : ∃ s, s = decide (l = m) := ⟨_, rfl⟩
 have hc3 : ∀ W, Below w.heap.size w W → Hid (Calls Try.prog 13 #[.slice A l.length c] W (InvP I W)) := fun W h => Lib.hid (hI ▸ C.inv l _ W (hl.below h) fl h)
 have hc4 : ∀ W, Below w.heap.size w W → Hid (Calls Try.prog 14 #[.slice A l.length c] W (InvP I W)) := fun W h => Lib.hid (hI ▸ rinv16_any l _ W (hl.below h) fl.1)
 have hc5 : ∀ W, Below w.heap.size w W → Hid (Calls Try.prog 15 #[.slice A l.length c, .slice Aw way.length cw] W (Ans9 (.int .i64 (n : Int)) W)) := fun W h => Lib.hid (hn ▸ C.under l way _ _ W (hl.below h) (hw.below h) fl fw h)
 have hc6 : ∀ W, Below w.heap.size w W → Hid (Calls Try.prog 16 #[.slice A l.length c, .slice Aw way.length cw] W (Ans9 (.int .i64 (n : Int)) W)) := fun W h => Lib.hid (hn ▸ runder16_any l way _ _ W (hl.below h) (hw.below h) fl fw)
 have hc7 : ∀ W, Below w.heap.size w W → Hid (Calls Try.prog 17 #[.slice A l.length c, .slice B m.length d] W (Ans9 (.bool s) W)) := fun W h => Lib.hid (hs ▸ C.same l m _ _ W (hl.below h) (hm.below h) fl fm h)
 have hc8 : ∀ W, Below w.heap.size w W → Hid (Calls Try.prog 9 #[.slice A l.length c, .slice B m.length d] W (Ans9 (.bool s) W)) := fun W h => Lib.hid (hs ▸ rsame16_any l m _ _ W (hl.below h) (hm.below h) fl fm)
 have hc9 : ∀ W, Below w.heap.size w W → Hid (Calls Try.prog 17 #[.slice A l.length c, .slice A l.length c] W (Ans9 (.bool true) W)) := fun W h => Lib.hid (by have h9 := C.same l l _ _ W (hl.below h) (hl.below h) fl fl h; rwa [decide_eq_true rfl] at h9)
 have C3 := Lib.hid hc3
 have C4 := Lib.hid hc4
 have C5 := Lib.hid hc5
 have C6 := Lib.hid hc6
 have C7 := Lib.hid hc7
 have C8 := Lib.hid hc8
 have C9 := Lib.hid hc9
 have HFI := Lib.hid fi
 clear hc1 hc2 hc3 hc4 hc5 hc6 hc7 hc8 hc9 hl hm hw fl fm C HA h1 h2 h3 hI fi hn hs
 go_enter Try.func4, Try.ntmps4
 go_wp2_with fail
 refine HAW.out.mono ?_
 rintro r w1 ⟨rfl, hb⟩
 have HB1 := Lib.hid hb
 clear hb
 go_wp2_with fail
 refine (C1.out _ HB1.out).out.mono ?_
 rintro r w2 ⟨rfl, hb⟩
 have HB2 := Lib.hid (HB1.out.trans (hb.mono HB1.out.size))
 clear hb
 go_wp2_with fail
 refine (C2.out _ HB2.out).out.mono ?_
 rintro r w3 ⟨rfl, hb⟩
 have HB3 := Lib.hid (HB2.out.trans (hb.mono HB2.out.size))
 clear hb
 go_wp2_with fail
 refine (C3.out _ HB3.out).out.mono ?_
 rintro r w4 ⟨v1, rfl, hv1, hb4⟩
 have HV1 := Lib.hid hv1
 have HB4 := Lib.hid (HB3.out.trans (hb4.mono HB3.out.size))
 clear hv1 hb4
 go_wp2_with fail
 refine (C4.out _ HB4.out).out.mono ?_
 rintro r w5 ⟨v2, rfl, hv2, hb5⟩
 have hsm := rsame16_any I I v1 v2 w5 (HV1.out.below hb5) hv2 HFI.out HFI.out
 rw [decide_eq_true rfl] at hsm
 have HSM := Lib.hid hsm
 have HB5 := Lib.hid (HB4.out.trans (hb5.mono HB4.out.size))
 clear hv2 hb5 hsm
 go_wp2_with fail
 refine HSM.out.mono ?_
 rintro r w6 ⟨rfl, hb⟩
 have HB6 := Lib.hid (HB5.out.trans (hb.mono HB5.out.size))
 clear hb
 go_wp2_with fail
 refine (C5.out _ HB6.out).out.mono ?_
 rintro r w7 ⟨rfl, hb⟩
 have HB7 := Lib.hid (HB6.out.trans (hb.mono HB6.out.size))
 clear hb
 go_wp2_with fail
 refine (C6.out _ HB7.out).out.mono ?_
 rintro r w8 ⟨rfl, hb⟩
 have HB8 := Lib.hid (HB7.out.trans (hb.mono HB7.out.size))
 clear hb
 go_wp2_with fail
 refine (C7.out _ HB8.out).out.mono ?_
 rintro r w9 ⟨rfl, hb⟩
 have HB9 := Lib.hid (HB8.out.trans (hb.mono HB8.out.size))
 clear hb
 go_wp2_with fail
 refine (C8.out _ HB9.out).out.mono ?_
 rintro r w10 ⟨rfl, hb⟩
 have HB10 := Lib.hid (HB9.out.trans (hb.mono HB9.out.size))
 clear hb
 go_wp2_with fail
 refine (C9.out _ HB10.out).out.mono ?_
 rintro r w11 ⟨rfl, hb⟩
 have HB11 := Lib.hid (HB10.out.trans (hb.mono HB10.out.size))
 clear hb
 go_wp2
 go_ret
 exact ⟨by simp, HB11.out⟩
theorem diffRows_walk (l m : List EdD) (way : List Stp) (vl vm vw : Value) (w : World) (hl : EdsV (Bel w) w vl l) (hm : EdsV (Bel w) w vm m) (hw : WayV w.heap.size w vw way) (fl : FewN l) (fm : FewN m) (C : DifC w) (HA : Awake16 w) : Calls Try.prog 4 #[vl, vm, vw] w (Ans9 (.bool true) w) := by
 cases h1 : fewX l with
 | false => exact diffRows_not1 l m way vl vm vw w hl hm hw fl fm C HA h1
 | true =>
  cases h2 : fewX m with
  | false => exact diffRows_not2 l m way vl vm vw w hl hm hw fl fm C HA h1 h2
  | true =>
   by_cases h3 : 20 < way.length
   ·exact diffRows_not3 l m way vl vm vw w hl hm hw fl fm C HA h1 h2 h3
   ·exact diffRows_yes l m way vl vm vw w hl hm hw fl fm C HA h1 h2 h3
end Go.Proofs.Ythdhchhpjoghlaa
