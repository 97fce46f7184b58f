/- What ValidClasses stands on: TreCutS. -/
import Derived.Test.YtljjaikejfoanaaGreatXM0
import Derived.Test.YtljjaikejfoanaaGreatXM9
set_option linter.unusedSimpArgs false
set_option linter.unusedVariables false
namespace Go.Proofs.YtljjaikejfoanaaGreat
open Go.RowKit
set_option maxRecDepth 100000 in
set_option maxHeartbeats 4000000 in
theorem rCut_none (d : Nat) (a : NdD) (f : NdF) (A : Option Addr) (c : Nat) (B : Option Addr) (N m : Nat) (pa : NdD) (pf : NdF) (w : World) (hd : d ≤ w.heap.size) (hx : LieB d w (ndC a (.slice A f.len c)) (a, f))
  (hG : ∀ W, Below w.heap.size w W → Calls Tryz.prog 17 #[.agg #[.string (txt a.name), .string (txt a.key), .int .i64 a.kind, .int .u64 (a.num : Int), .string (txt a.text), .slice A f.len c], .slice B N m] W (PTreP d (pa, pf) (.bool false) W)) :
  Calls Tryz.prog 16 #[.agg #[.string (txt a.name), .string (txt a.key), .int .i64 a.kind, .int .u64 (a.num : Int), .string (txt a.text), .slice A f.len c], .slice B N m] w (PTreP d noN (.int .i64 30) w) := by
 obtain ⟨h1, h2, h3, h4⟩ := get_boxes a f A c w (hx.keep (fun _ _ => rfl) hd)
 have HX := Lib.hid h1
 have HZ := Lib.hid h2
 have HB := Lib.hid h3
 have HD := Lib.hid hd
 have HGT := Lib.hid (hG ((w.alloc (.cells #[.string (txt a.name), .string (txt a.key), .int .i64 a.kind, .int .u64 (a.num : Int), .string (txt a.text), .slice A f.len c] 27)).alloc (.cells #[.string ⟨#[]⟩, .string ⟨#[]⟩, .int .i64 0, .int .u64 0, .string ⟨#[]⟩, .slice none 0 0] 27)) h3)
 skip
 clear h1 h2 h3 h4 hx hd hG
 have q0 := (HX.out.cell 0).trans rfl
 have q1 := (HX.out.cell 1).trans rfl
 have q2 := (HX.out.cell 2).trans rfl
 have q3 := (HX.out.cell 3).trans rfl
 have q4 := (HX.out.cell 4).trans rfl
 have q5 := (HX.out.cell 5).trans rfl
 go_enter Tryz.func16, Tryz.ntmps16
 go_wp2_with fail
 refine HGT.out.mono ?_
 intro r w6 hr
 obtain ⟨A6, c6, rfl, hl6, hb6⟩ := hr.flat
 have HX7 := Lib.hid ((HX.out.below hb6 HX.out.lt).alloc (.cells #[.string (txt pa.name), .string (txt pa.key), .int .i64 pa.kind, .int .u64 (pa.num : Int), .string (txt pa.text), .slice A6 pf.len c6] 27))
 have HZ7 := Lib.hid ((HZ.out.below hb6 HZ.out.lt).alloc (.cells #[.string (txt pa.name), .string (txt pa.key), .int .i64 pa.kind, .int .u64 (pa.num : Int), .string (txt pa.text), .slice A6 pf.len c6] 27))
 have HB6 := HB.out.trans (hb6.mono HB.out.size)
 have HB7 := Lib.hid (HB6.alloc HB6.size (.cells #[.string (txt pa.name), .string (txt pa.key), .int .i64 pa.kind, .int .u64 (pa.num : Int), .string (txt pa.text), .slice A6 pf.len c6] 27))
 clear hb6 hr hl6 q0 q1 q2 q3 q4 q5 HB6
 have fz0 : ((w6.alloc (.cells #[.string (txt pa.name), .string (txt pa.key), .int .i64 pa.kind, .int .u64 (pa.num : Int), .string (txt pa.text), .slice A6 pf.len c6] 27))).frozen? ⟨w.heap.size + 1, 0, none⟩ = false := HZ7.out.frozen 0
 have fq0 := (HZ7.out.cell 0).trans rfl
 have fz1 : ((w6.alloc (.cells #[.string (txt pa.name), .string (txt pa.key), .int .i64 pa.kind, .int .u64 (pa.num : Int), .string (txt pa.text), .slice A6 pf.len c6] 27))).frozen? ⟨w.heap.size + 1, 1, none⟩ = false := HZ7.out.frozen 1
 have fq1 := (HZ7.out.cell 1).trans rfl
 have fz2 : ((w6.alloc (.cells #[.string (txt pa.name), .string (txt pa.key), .int .i64 pa.kind, .int .u64 (pa.num : Int), .string (txt pa.text), .slice A6 pf.len c6] 27))).frozen? ⟨w.heap.size + 1, 2, none⟩ = false := HZ7.out.frozen 2
 have fq2 := (HZ7.out.cell 2).trans rfl
 have fz3 : ((w6.alloc (.cells #[.string (txt pa.name), .string (txt pa.key), .int .i64 pa.kind, .int .u64 (pa.num : Int), .string (txt pa.text), .slice A6 pf.len c6] 27))).frozen? ⟨w.heap.size + 1, 3, none⟩ = false := HZ7.out.frozen 3
 have fq3 := (HZ7.out.cell 3).trans rfl
 have fz4 : ((w6.alloc (.cells #[.string (txt pa.name), .string (txt pa.key), .int .i64 pa.kind, .int .u64 (pa.num : Int), .string (txt pa.text), .slice A6 pf.len c6] 27))).frozen? ⟨w.heap.size + 1, 4, none⟩ = false := HZ7.out.frozen 4
 have fq4 := (HZ7.out.cell 4).trans rfl
 have fz5 : ((w6.alloc (.cells #[.string (txt pa.name), .string (txt pa.key), .int .i64 pa.kind, .int .u64 (pa.num : Int), .string (txt pa.text), .slice A6 pf.len c6] 27))).frozen? ⟨w.heap.size + 1, 5, none⟩ = false := HZ7.out.frozen 5
 have fq5 := (HZ7.out.cell 5).trans rfl
 go_wp2
 refine bodyPost_ret (res_ct9 rfl _ _ (w.heap.size + 1) 27 _ (0, 0) _ rfl (HZ7.out.set6 _ _ _ _ _ _) Tryz.underlying27 rfl (by kernel_rfl)) rfl ?_
 exact ⟨_, rfl, (LieB.zero _ _).p _, HB7.out.trans (set6_below (by omega))⟩
set_option maxRecDepth 100000 in
set_option maxHeartbeats 4000000 in
theorem rCut_nil (d : Nat) (a : NdD) (f : NdF) (A : Option Addr) (c : Nat) (B : Option Addr) (N m : Nat) (pa : NdD) (pf : NdF) (w : World) (hd : d ≤ w.heap.size) (hx : LieB d w (ndC a (.slice A f.len c)) (a, f)) (hN : N = 0)
  (hG : ∀ W, Below w.heap.size w W → Calls Tryz.prog 17 #[.agg #[.string (txt a.name), .string (txt a.key), .int .i64 a.kind, .int .u64 (a.num : Int), .string (txt a.text), .slice A f.len c], .slice B N m] W (PTreP d (pa, pf) (.bool true) W)) :
  Calls Tryz.prog 16 #[.agg #[.string (txt a.name), .string (txt a.key), .int .i64 a.kind, .int .u64 (a.num : Int), .string (txt a.text), .slice A f.len c], .slice B N m] w (PTreP d noN (.int .i64 30) w) := by
 obtain ⟨h1, h2, h3, h4⟩ := get_boxes a f A c w (hx.keep (fun _ _ => rfl) hd)
 have HX := Lib.hid h1
 have HZ := Lib.hid h2
 have HB := Lib.hid h3
 have HD := Lib.hid hd
 have HGT := Lib.hid (hG ((w.alloc (.cells #[.string (txt a.name), .string (txt a.key), .int .i64 a.kind, .int .u64 (a.num : Int), .string (txt a.text), .slice A f.len c] 27)).alloc (.cells #[.string ⟨#[]⟩, .string ⟨#[]⟩, .int .i64 0, .int .u64 0, .string ⟨#[]⟩, .slice none 0 0] 27)) h3)
 subst hN
 clear h1 h2 h3 h4 hx hd hG
 have q0 := (HX.out.cell 0).trans rfl
 have q1 := (HX.out.cell 1).trans rfl
 have q2 := (HX.out.cell 2).trans rfl
 have q3 := (HX.out.cell 3).trans rfl
 have q4 := (HX.out.cell 4).trans rfl
 have q5 := (HX.out.cell 5).trans rfl
 go_enter Tryz.func16, Tryz.ntmps16
 go_wp2_with fail
 refine HGT.out.mono ?_
 intro r w6 hr
 obtain ⟨A6, c6, rfl, hl6, hb6⟩ := hr.flat
 have HX7 := Lib.hid ((HX.out.below hb6 HX.out.lt).alloc (.cells #[.string (txt pa.name), .string (txt pa.key), .int .i64 pa.kind, .int .u64 (pa.num : Int), .string (txt pa.text), .slice A6 pf.len c6] 27))
 have HZ7 := Lib.hid ((HZ.out.below hb6 HZ.out.lt).alloc (.cells #[.string (txt pa.name), .string (txt pa.key), .int .i64 pa.kind, .int .u64 (pa.num : Int), .string (txt pa.text), .slice A6 pf.len c6] 27))
 have HB6 := HB.out.trans (hb6.mono HB.out.size)
 have HB7 := Lib.hid (HB6.alloc HB6.size (.cells #[.string (txt pa.name), .string (txt pa.key), .int .i64 pa.kind, .int .u64 (pa.num : Int), .string (txt pa.text), .slice A6 pf.len c6] 27))
 clear hb6 hr hl6 q0 q1 q2 q3 q4 q5 HB6
 have fz0 : ((w6.alloc (.cells #[.string (txt pa.name), .string (txt pa.key), .int .i64 pa.kind, .int .u64 (pa.num : Int), .string (txt pa.text), .slice A6 pf.len c6] 27))).frozen? ⟨w.heap.size + 1, 0, none⟩ = false := HZ7.out.frozen 0
 have fq0 := (HZ7.out.cell 0).trans rfl
 have fz1 : ((w6.alloc (.cells #[.string (txt pa.name), .string (txt pa.key), .int .i64 pa.kind, .int .u64 (pa.num : Int), .string (txt pa.text), .slice A6 pf.len c6] 27))).frozen? ⟨w.heap.size + 1, 1, none⟩ = false := HZ7.out.frozen 1
 have fq1 := (HZ7.out.cell 1).trans rfl
 have fz2 : ((w6.alloc (.cells #[.string (txt pa.name), .string (txt pa.key), .int .i64 pa.kind, .int .u64 (pa.num : Int), .string (txt pa.text), .slice A6 pf.len c6] 27))).frozen? ⟨w.heap.size + 1, 2, none⟩ = false := HZ7.out.frozen 2
 have fq2 := (HZ7.out.cell 2).trans rfl
 have fz3 : ((w6.alloc (.cells #[.string (txt pa.name), .string (txt pa.key), .int .i64 pa.kind, .int .u64 (pa.num : Int), .string (txt pa.text), .slice A6 pf.len c6] 27))).frozen? ⟨w.heap.size + 1, 3, none⟩ = false := HZ7.out.frozen 3
 have fq3 := (HZ7.out.cell 3).trans rfl
 have fz4 : ((w6.alloc (.cells #[.string (txt pa.name), .string (txt pa.key), .int .i64 pa.kind, .int .u64 (pa.num : Int), .string (txt pa.text), .slice A6 pf.len c6] 27))).frozen? ⟨w.heap.size + 1, 4, none⟩ = false := HZ7.out.frozen 4
 have fq4 := (HZ7.out.cell 4).trans rfl
 have fz5 : ((w6.alloc (.cells #[.string (txt pa.name), .string (txt pa.key), .int .i64 pa.kind, .int .u64 (pa.num : Int), .string (txt pa.text), .slice A6 pf.len c6] 27))).frozen? ⟨w.heap.size + 1, 5, none⟩ = false := HZ7.out.frozen 5
 have fq5 := (HZ7.out.cell 5).trans rfl
 go_wp2
 refine bodyPost_ret (res_ct9 rfl _ _ (w.heap.size + 1) 27 _ (0, 0) _ rfl (HZ7.out.set6 _ _ _ _ _ _) Tryz.underlying27 rfl (by kernel_rfl)) rfl ?_
 exact ⟨_, rfl, (LieB.zero _ _).p _, HB7.out.trans (set6_below (by omega))⟩
set_option maxRecDepth 100000 in
set_option maxHeartbeats 4000000 in
theorem rCut_ok (d : Nat) (a : NdD) (f : NdF) (A : Option Addr) (c : Nat) (B : Option Addr) (N m : Nat) (pa : NdD) (pf : NdF) (w : World) (hd : d ≤ w.heap.size) (hx : LieB d w (ndC a (.slice A f.len c)) (a, f)) (hN : 0 < N) (ra : NdD) (rf : NdF) (hS : ∀ W, Below w.heap.size w W → Calls Tryz.prog 28 #[.agg #[.string (txt a.name), .string (txt a.key), .int .i64 a.kind, .int .u64 (a.num : Int), .string (txt a.text), .slice A f.len c], .slice B N m] W (PTreP1 d (ra, rf) W))
  (hG : ∀ W, Below w.heap.size w W → Calls Tryz.prog 17 #[.agg #[.string (txt a.name), .string (txt a.key), .int .i64 a.kind, .int .u64 (a.num : Int), .string (txt a.text), .slice A f.len c], .slice B N m] W (PTreP d (pa, pf) (.bool true) W)) :
  Calls Tryz.prog 16 #[.agg #[.string (txt a.name), .string (txt a.key), .int .i64 a.kind, .int .u64 (a.num : Int), .string (txt a.text), .slice A f.len c], .slice B N m] w (PTreP d (ra, rf) (.int .i64 0) w) := by
 obtain ⟨h1, h2, h3, h4⟩ := get_boxes a f A c w (hx.keep (fun _ _ => rfl) hd)
 have HX := Lib.hid h1
 have HZ := Lib.hid h2
 have HB := Lib.hid h3
 have HD := Lib.hid hd
 have HGT := Lib.hid (hG ((w.alloc (.cells #[.string (txt a.name), .string (txt a.key), .int .i64 a.kind, .int .u64 (a.num : Int), .string (txt a.text), .slice A f.len c] 27)).alloc (.cells #[.string ⟨#[]⟩, .string ⟨#[]⟩, .int .i64 0, .int .u64 0, .string ⟨#[]⟩, .slice none 0 0] 27)) h3)
 have HST := Lib.hid hS
 have n1 : ((N : Int) == 0) = false := by rw [beq_eq_false_iff_ne]; omega
 have n2 : (N == 0) = false := by rw [beq_eq_false_iff_ne]; omega
 clear hS hN
 clear h1 h2 h3 h4 hx hd hG
 have q0 := (HX.out.cell 0).trans rfl
 have q1 := (HX.out.cell 1).trans rfl
 have q2 := (HX.out.cell 2).trans rfl
 have q3 := (HX.out.cell 3).trans rfl
 have q4 := (HX.out.cell 4).trans rfl
 have q5 := (HX.out.cell 5).trans rfl
 go_enter Tryz.func16, Tryz.ntmps16
 go_wp2_with fail
 refine HGT.out.mono ?_
 intro r w6 hr
 obtain ⟨A6, c6, rfl, hl6, hb6⟩ := hr.flat
 have HX7 := Lib.hid ((HX.out.below hb6 HX.out.lt).alloc (.cells #[.string (txt pa.name), .string (txt pa.key), .int .i64 pa.kind, .int .u64 (pa.num : Int), .string (txt pa.text), .slice A6 pf.len c6] 27))
 have HZ7 := Lib.hid ((HZ.out.below hb6 HZ.out.lt).alloc (.cells #[.string (txt pa.name), .string (txt pa.key), .int .i64 pa.kind, .int .u64 (pa.num : Int), .string (txt pa.text), .slice A6 pf.len c6] 27))
 have HB6 := HB.out.trans (hb6.mono HB.out.size)
 have HB7 := Lib.hid (HB6.alloc HB6.size (.cells #[.string (txt pa.name), .string (txt pa.key), .int .i64 pa.kind, .int .u64 (pa.num : Int), .string (txt pa.text), .slice A6 pf.len c6] 27))
 clear hb6 hr hl6 q0 q1 q2 q3 q4 q5 HB6
 have q0 := (HX7.out.cell 0).trans rfl
 have q1 := (HX7.out.cell 1).trans rfl
 have q2 := (HX7.out.cell 2).trans rfl
 have q3 := (HX7.out.cell 3).trans rfl
 have q4 := (HX7.out.cell 4).trans rfl
 have q5 := (HX7.out.cell 5).trans rfl
 go_wp2_with fail
 refine (HST.out (w6.alloc (.cells #[.string (txt pa.name), .string (txt pa.key), .int .i64 pa.kind, .int .u64 (pa.num : Int), .string (txt pa.text), .slice A6 pf.len c6] 27)) HB7.out).mono ?_
 intro r w8 hr
 obtain ⟨A8, c8, rfl, hl8, hb8⟩ := hr.flat
 have HL8 := Lib.hid hl8
 have HB8 := Lib.hid (HB7.out.trans (hb8.mono HB7.out.size))
 have HZ8 := Lib.hid (HZ7.out.below hb8 HZ7.out.lt)
 have HSZ := Lib.hid HZ7.out.lt
 clear hb8 hr hl8 q0 q1 q2 q3 q4 q5
 have fz0 : (w8).frozen? ⟨w.heap.size + 1, 0, none⟩ = false := HZ8.out.frozen 0
 have fq0 := (HZ8.out.cell 0).trans rfl
 have fz1 : (w8).frozen? ⟨w.heap.size + 1, 1, none⟩ = false := HZ8.out.frozen 1
 have fq1 := (HZ8.out.cell 1).trans rfl
 have fz2 : (w8).frozen? ⟨w.heap.size + 1, 2, none⟩ = false := HZ8.out.frozen 2
 have fq2 := (HZ8.out.cell 2).trans rfl
 have fz3 : (w8).frozen? ⟨w.heap.size + 1, 3, none⟩ = false := HZ8.out.frozen 3
 have fq3 := (HZ8.out.cell 3).trans rfl
 have fz4 : (w8).frozen? ⟨w.heap.size + 1, 4, none⟩ = false := HZ8.out.frozen 4
 have fq4 := (HZ8.out.cell 4).trans rfl
 have fz5 : (w8).frozen? ⟨w.heap.size + 1, 5, none⟩ = false := HZ8.out.frozen 5
 have fq5 := (HZ8.out.cell 5).trans rfl
 go_wp2
 have HBZ : Hid (Below w.heap.size w (set6 w8 (w.heap.size + 1) (.string (txt ra.name)) (.string (txt ra.key)) (.int .i64 ra.kind) (.int .u64 (ra.num : Int)) (.string (txt ra.text)) (.slice A8 rf.len c8))) := Lib.hid (HB8.out.trans (set6_below (by omega)))
 have HLZ : Hid (LieP d w.heap.size (set6 w8 (w.heap.size + 1) (.string (txt ra.name)) (.string (txt ra.key)) (.int .i64 ra.kind) (.int .u64 (ra.num : Int)) (.string (txt ra.text)) (.slice A8 rf.len c8)) (ndC ra (.slice A8 rf.len c8)) (ra, rf)) := Lib.hid ((HL8.out.set6 (by have := HD.out; omega) HSZ.out _ _ _ _ _ _).after HB7.out.size)
 refine bodyPost_ret (res_ct9 rfl _ _ (w.heap.size + 1) 27 _ (0, 0) _ rfl (HZ8.out.set6 _ _ _ _ _ _) Tryz.underlying27 rfl (by kernel_rfl)) rfl ?_
 exact ⟨_, rfl, HLZ.out, HBZ.out⟩
theorem rCut_any (d : Nat) (x : Nd) (l : List Stp) (cs : List Value) (v : Value) (w : World) (hd : d ≤ w.heap.size) (hx : LieB d w cs x) (hv : WayV w.heap.size w v l) (hfew : Few9 x) (hll : l.length ≤ 1000000) :
  Calls Tryz.prog 16 #[.agg cs.toArray, v] w (PTreP d (CutX x l).1 (.int .i64 ((CutX x l).2 : Int)) w) := by
 obtain ⟨A, c, rfl, hk⟩ := hx.shape
 obtain ⟨a, f⟩ := x
 obtain ⟨B, m, rfl⟩ := hv.shape
 have hG : ∀ W, Below w.heap.size w W → Calls Tryz.prog 17 #[.agg #[.string (txt a.name), .string (txt a.key), .int .i64 a.kind, .int .u64 (a.num : Int), .string (txt a.text), .slice A f.len c], .slice B l.length m] W (PTreP d ((GetX (a, f) l).1.1, (GetX (a, f) l).1.2) (.bool (GetX (a, f) l).2) W) := fun W hW =>
  rget_any d l (a, f) _ _ W (Nat.le_trans hd hW.size) (hx.under hW hd (Nat.le_refl _)) (hv.under hW (Nat.le_refl _) hW.size) hfew
 cases hp : getX (a, f) l with
 | none =>
  have hGX : GetX (a, f) l = (noN, false) := by unfold GetX; rw [hp]
  have hC : CutX (a, f) l = (noN, 30) := by unfold CutX; split <;> simp [hp]
  rw [hGX] at hG
  rw [hC]
  exact rCut_none d a f A c B l.length m _ _ w hd hx hG
 | some p =>
  have hGX : GetX (a, f) l = (p, true) := by unfold GetX; rw [hp]
  rw [hGX] at hG
  by_cases hl : l = []
  ·have hC : CutX (a, f) l = (noN, 30) := by unfold CutX; rw [if_pos hl]
   rw [hC]
   exact rCut_nil d a f A c B l.length m _ _ w hd hx (by rw [hl]; rfl) hG
  ·rw [CutX_is hl hp]
   exact rCut_ok d a f A c B l.length m _ _ w hd hx (by have : l.length ≠ 0 := fun h => hl (List.eq_nil_of_length_eq_zero h); omega) (cutX (a, f) l).1 (cutX (a, f) l).2
    (fun W hW => rcut_any d l (a, f) p _ _ W (Nat.le_trans hd hW.size) (hx.under hW hd (Nat.le_refl _)) (hv.under hW (Nat.le_refl _) hW.size) hfew hl hp) hG
end Go.Proofs.YtljjaikejfoanaaGreat
