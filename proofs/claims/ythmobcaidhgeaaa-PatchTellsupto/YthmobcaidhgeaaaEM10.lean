/- PatZst -/
import Derived.Test.YthmobcaidhgeaaaEM9
set_option linter.unusedSimpArgs false
set_option linter.unusedVariables false
set_option maxRecDepth 100000
set_option maxHeartbeats 8000000
namespace Go.Proofs.Ythmobcaidhgeaaa
open Go.RowKit
theorem zset_any (d : Nat → Prop) (y : Nd) : ∀ (l : List Stp) (x : Nd) (cs ds : List Value) (v : Value) (w : World), UndZ d w → LieZ d w cs x → LieZ d w ds y → WayV w.heap.size w v l → Few9 x → okSet x l y →
  Calls Try.prog 33 #[.agg cs.toArray, v, .agg ds.toArray] w (PTreZ1 d (setX x l y) w) := by
 intro l
 induction l with
 | nil => intro x cs ds v w _ _ _ _ _ h; exact absurd rfl (ok_ne h)
 | cons s l ih =>
  intro x cs ds v w hd hx hy hv hfew hok
  obtain ⟨A, c, rfl, hk⟩ := hx.shape
  obtain ⟨E, ec, rfl, hk2⟩ := hy.shape
  obtain ⟨a, f⟩ := x
  obtain ⟨e, eg⟩ := y
  obtain ⟨B, m, rfl⟩ := hv.shape
  obtain ⟨g, o, rfl, hN, hNm, hg, hs1, hs2⟩ := hv.at (j := 0) (s := s) rfl
  have hl : f.len ≤ 1000000 := Nat.le_trans (Fr.len_size f) hfew
  cases l with
  | nil =>
   rw [set_one]
   obtain ⟨rfl, hk0⟩ := ok_one.1 hok
   cases hfi : findN (stp e) f with
   | none =>
    rw [show gtF (stp e) f = none from findN_none hfi]
    exact zset_ins d a e f eg A E c ec (stp e) g o _ m (insF (e, eg) f) w hd hx hy hl hv hfi (with_ins (y := (e, eg)))
   | some i =>
    obtain ⟨z, hz1, _, hz2⟩ := find_stp hfi
    rw [show gtF (stp e) f = some z from hz2]
    exact zset_rep d a e f eg A E c ec (stp e) g o _ m i (repF (stp e) (e, eg) f) w hd hx hy hl hv hfi (Fr.get_lt hz1) (with_rep hfi)
  | cons t l =>
   obtain ⟨z, h1, h2⟩ := ok_more.1 hok
   rw [set_more, h1]
   obtain ⟨i, hfi, hgi⟩ := getF_find h1
   obtain ⟨a1, q⟩ := z
   exact zset_deep d a e f eg A E c ec s t l g o _ m i a1 q (setX (a1, q) (t :: l) (e, eg)).1 (setX (a1, q) (t :: l) (e, eg)).2 _ w hd hx hy hl hv hfi hgi (with_rep hfi)
    (fun cs ds v W h3 h4 h5 h6 => ih (a1, q) cs ds v W h3 h4 h5 h6 (by have h4 : q.size < f.size := Fr.size_get hgi; have : f.size ≤ 1000000 := hfew; show q.size ≤ 1000000; omega) h2)
theorem zSet_nil (d : Nat → Prop) (a e : NdD) (f eg : NdF) (A E B : Option Addr) (c ec m : Nat) (w : World) (hd : UndZ d w) (hx : LieZ d w (ndC a (.slice A f.len c)) (a, f)) :
  Calls Try.prog 24 #[.agg (cN a (.slice A f.len c)), .slice B 0 m, .agg (cN e (.slice E eg.len ec))] w (PTreZ d noN (.int .i64 1) w) := by
 obtain ⟨h1, hbx, h2, h3, h4⟩ := set_boxes a e f eg A E c ec w (hx.lie hd)
 have HX := hHd h1
 have HE := hHd hbx
 have HZ := hHd h2
 have HB := hHd h3
 clear h1 hbx h2 h3 h4
 clear hx hd
 go_enter Try.func24, Try.ntmps24
 go_wp2_with fail
 go_region
 have HZd := hHd (HZ.out.below (Below.refl _ _).drew HZ.out.lt)
 have HBd := hHd HB.out.drew
 revert HZd HBd
 generalize (((w.alloc (.cells (cN a (.slice A f.len c)) 27)).alloc (.cells (cN e (.slice E eg.len ec)) 27)).alloc (.cells #[.string ⟨#[]⟩, .string ⟨#[]⟩, .int .i64 0, .int .u64 0, .string ⟨#[]⟩, .slice none 0 0] 27)).drew = w5
 intro HZd HBd
 have fz0 : (w5).frozen? ⟨w.heap.size + 2, 0, none⟩ = false := HZd.out.frozen 0
 have fq0 := (HZd.out.cell 0).trans rfl
 have fz1 : (w5).frozen? ⟨w.heap.size + 2, 1, none⟩ = false := HZd.out.frozen 1
 have fq1 := (HZd.out.cell 1).trans rfl
 have fz2 : (w5).frozen? ⟨w.heap.size + 2, 2, none⟩ = false := HZd.out.frozen 2
 have fq2 := (HZd.out.cell 2).trans rfl
 have fz3 : (w5).frozen? ⟨w.heap.size + 2, 3, none⟩ = false := HZd.out.frozen 3
 have fq3 := (HZd.out.cell 3).trans rfl
 have fz4 : (w5).frozen? ⟨w.heap.size + 2, 4, none⟩ = false := HZd.out.frozen 4
 have fq4 := (HZd.out.cell 4).trans rfl
 have fz5 : (w5).frozen? ⟨w.heap.size + 2, 5, none⟩ = false := HZd.out.frozen 5
 have fq5 := (HZd.out.cell 5).trans rfl
 go_wp2
 refine bodyPost_ret (res_ct9 rfl _ _ (w.heap.size + 2) 27 _ (0, 0) _ rfl (HZd.out.set6 _ _ _ _ _ _) Try.underlying27 rfl (by kernel_rfl)) rfl ?_
 exact ⟨_, rfl, (LieZ.zero _ _).p _, HBd.out.trans (set6_below (by omega))⟩
theorem zSet_arg_name (d : Nat → Prop) (a e : NdD) (f eg : NdF) (A E : Option Addr) (c ec m g o n : Nat) (s : Stp) (w : World) (hd : UndZ d w) (hx : LieZ d w (ndC a (.slice A f.len c)) (a, f)) (hg : g < w.heap.size) (hs1 : w.cell? ⟨g, o + n * 2, none⟩ = some (.string (txt s.1))) (hs2 : w.cell? ⟨g, o + n * 2 + 1, none⟩ = some (.string (txt s.2))) (hn : n ≤ 1000000) (hm : n + 1 ≤ m) (h : (s.1 == e.name) = false) :
  Calls Try.prog 24 #[.agg (cN a (.slice A f.len c)), .slice (some ⟨g, o, none⟩) (n + 1) m, .agg (cN e (.slice E eg.len ec))] w (PTreZ d noN (.int .i64 1) w) := by
 obtain ⟨h1, hbx, h2, h3, h4⟩ := set_boxes a e f eg A E c ec w (hx.lie hd)
 have HX := hHd h1
 have HE := hHd hbx
 have HZ := hHd h2
 have HB := hHd h3
 clear h1 hbx h2 h3 h4
 -- the last step in memory
 have hst : Stp0 w g (o + n * 2) s := ⟨hs1, hs2⟩
 have HSt := hHd (hst.below hg HB.out.drew)
 have hnm : n ≤ m := by omega
 have i1 : (0 : Int) ≤ (n : Int) := by omega
 have i2 : (n : Int) < (n : Int) + 1 := by omega
 have i3 : (n : Int) ≤ 1000000 := by omega
 have tn : (txt s.1).toList = s.1 := txt_toList _
 have tk : (txt s.2).toList = s.2 := txt_toList _
 have ta : (txt e.name).toList = e.name := txt_toList _
 have tb : (txt e.key).toList = e.key := txt_toList _
 have HW : Hid (IntKind.i64.wrap (n : Int) = (n : Int)) := hHd (Go.IntWalk.i64_in _ (by omega))
 clear hx hd hst hs1 hs2
 go_enter Try.func24, Try.ntmps24
 go_wp2_with fail
 refine wp_region_noPanic ?_
 refine wp_region_held_drew (S := fun _ => True) (by kernel_rfl) trivial (fun hS => ?_)
 refine held_more (S' := fun w' => Blk w' (w.heap.size + 1) 27 (cN e (.slice E eg.len ec)) ∧ Stp0 w' g (o + n * 2) s) (fun _ _ => trivial) _ _ _ _ ?_
 replace hS := And.intro (HE.out.below (Below.refl _ _).drew HE.out.lt) HSt.out
 refine tkH 0 hS ?_
 refine tkH 1 hS ?_
 refine tkH 2 hS ?_
 refine tkH 3 hS ?_
 refine tkH 4 hS ?_
 refine tkH 5 hS ?_
 refine tkH 6 hS ?_
 refine tkH 7 hS ?_ (hy := fun w hSw => by have q0 := hSw.2.1; (go_simp <;> with_reducible rfl))
 refine tkH 8 hS ?_
 refine tkH 9 hS ?_ (hy := fun w hSw => by have q0 := (hSw.1.cell 0).trans rfl; (go_simp <;> with_reducible rfl))
 refine tkH 10 hS ?_
 refine tkH 11 hS ?_
 refine tkH 12 hS ?_
 refine tkHo 13 hS ?_
 refine tkHo 14 hS ?_
 refine tkHo 15 hS ?_
 refine tkHo 16 hS ?_
 refine tkHo 17 hS ?_
 refine tkHo 18 hS ?_
 refine tkHo 19 hS ?_
 refine tkHo 20 hS ?_
 refine tkH 21 hS ?_
 refine wpAnyH_done (by kernel_rfl) ?_ _
 refine NoPanic.normal ?_
 clear hS
 have HZd := hHd (HZ.out.below (Below.refl _ _).drew HZ.out.lt)
 have HBd := hHd HB.out.drew
 revert HZd HBd
 generalize (((w.alloc (.cells (cN a (.slice A f.len c)) 27)).alloc (.cells (cN e (.slice E eg.len ec)) 27)).alloc (.cells #[.string ⟨#[]⟩, .string ⟨#[]⟩, .int .i64 0, .int .u64 0, .string ⟨#[]⟩, .slice none 0 0] 27)).drew = w5
 intro HZd HBd
 have fz0 : (w5).frozen? ⟨w.heap.size + 2, 0, none⟩ = false := HZd.out.frozen 0
 have fq0 := (HZd.out.cell 0).trans rfl
 have fz1 : (w5).frozen? ⟨w.heap.size + 2, 1, none⟩ = false := HZd.out.frozen 1
 have fq1 := (HZd.out.cell 1).trans rfl
 have fz2 : (w5).frozen? ⟨w.heap.size + 2, 2, none⟩ = false := HZd.out.frozen 2
 have fq2 := (HZd.out.cell 2).trans rfl
 have fz3 : (w5).frozen? ⟨w.heap.size + 2, 3, none⟩ = false := HZd.out.frozen 3
 have fq3 := (HZd.out.cell 3).trans rfl
 have fz4 : (w5).frozen? ⟨w.heap.size + 2, 4, none⟩ = false := HZd.out.frozen 4
 have fq4 := (HZd.out.cell 4).trans rfl
 have fz5 : (w5).frozen? ⟨w.heap.size + 2, 5, none⟩ = false := HZd.out.frozen 5
 have fq5 := (HZd.out.cell 5).trans rfl
 go_wp2
 refine bodyPost_ret (res_ct9 rfl _ _ (w.heap.size + 2) 27 _ (0, 0) _ rfl (HZd.out.set6 _ _ _ _ _ _) Try.underlying27 rfl (by kernel_rfl)) rfl ?_
 exact ⟨_, rfl, (LieZ.zero _ _).p _, HBd.out.trans (set6_below (by omega))⟩
theorem zSet_arg_key (d : Nat → Prop) (a e : NdD) (f eg : NdF) (A E : Option Addr) (c ec m g o n : Nat) (s : Stp) (w : World) (hd : UndZ d w) (hx : LieZ d w (ndC a (.slice A f.len c)) (a, f)) (hg : g < w.heap.size) (hs1 : w.cell? ⟨g, o + n * 2, none⟩ = some (.string (txt s.1))) (hs2 : w.cell? ⟨g, o + n * 2 + 1, none⟩ = some (.string (txt s.2))) (hn : n ≤ 1000000) (hm : n + 1 ≤ m) (h : (s.1 == e.name) = true) (h' : (s.2 == e.key) = false) :
  Calls Try.prog 24 #[.agg (cN a (.slice A f.len c)), .slice (some ⟨g, o, none⟩) (n + 1) m, .agg (cN e (.slice E eg.len ec))] w (PTreZ d noN (.int .i64 1) w) := by
 obtain ⟨h1, hbx, h2, h3, h4⟩ := set_boxes a e f eg A E c ec w (hx.lie hd)
 have HX := hHd h1
 have HE := hHd hbx
 have HZ := hHd h2
 have HB := hHd h3
 clear h1 hbx h2 h3 h4
 -- the last step in memory
 have hst : Stp0 w g (o + n * 2) s := ⟨hs1, hs2⟩
 have HSt := hHd (hst.below hg HB.out.drew)
 have hnm : n ≤ m := by omega
 have i1 : (0 : Int) ≤ (n : Int) := by omega
 have i2 : (n : Int) < (n : Int) + 1 := by omega
 have i3 : (n : Int) ≤ 1000000 := by omega
 have tn : (txt s.1).toList = s.1 := txt_toList _
 have tk : (txt s.2).toList = s.2 := txt_toList _
 have ta : (txt e.name).toList = e.name := txt_toList _
 have tb : (txt e.key).toList = e.key := txt_toList _
 have HW : Hid (IntKind.i64.wrap (n : Int) = (n : Int)) := hHd (Go.IntWalk.i64_in _ (by omega))
 clear hx hd hst hs1 hs2
 go_enter Try.func24, Try.ntmps24
 go_wp2_with fail
 refine wp_region_noPanic ?_
 refine wp_region_held_drew (S := fun _ => True) (by kernel_rfl) trivial (fun hS => ?_)
 refine held_more (S' := fun w' => Blk w' (w.heap.size + 1) 27 (cN e (.slice E eg.len ec)) ∧ Stp0 w' g (o + n * 2) s) (fun _ _ => trivial) _ _ _ _ ?_
 replace hS := And.intro (HE.out.below (Below.refl _ _).drew HE.out.lt) HSt.out
 refine tkH 0 hS ?_
 refine tkH 1 hS ?_
 refine tkH 2 hS ?_
 refine tkH 3 hS ?_
 refine tkH 4 hS ?_
 refine tkH 5 hS ?_
 refine tkH 6 hS ?_
 refine tkH 7 hS ?_ (hy := fun w hSw => by have q0 := hSw.2.1; (go_simp <;> with_reducible rfl))
 refine tkH 8 hS ?_
 refine tkH 9 hS ?_ (hy := fun w hSw => by have q0 := (hSw.1.cell 0).trans rfl; (go_simp <;> with_reducible rfl))
 refine tkH 10 hS ?_
 refine tkH 11 hS ?_
 refine tkH 12 hS ?_
 refine tkH 13 hS ?_
 refine tkH 14 hS ?_
 refine tkH 15 hS ?_
 refine tkH 16 hS ?_
 refine tkH 17 hS ?_ (hy := fun w hSw => by have q0 := hSw.2.2; (go_simp <;> with_reducible rfl))
 refine tkH 18 hS ?_
 refine tkH 19 hS ?_ (hy := fun w hSw => by have q0 := (hSw.1.cell 1).trans rfl; (go_simp <;> with_reducible rfl))
 refine tkH 20 hS ?_
 refine tkH 21 hS ?_
 refine wpAnyH_done (by kernel_rfl) ?_ _
 refine NoPanic.normal ?_
 clear hS
 have HZd := hHd (HZ.out.below (Below.refl _ _).drew HZ.out.lt)
 have HBd := hHd HB.out.drew
 revert HZd HBd
 generalize (((w.alloc (.cells (cN a (.slice A f.len c)) 27)).alloc (.cells (cN e (.slice E eg.len ec)) 27)).alloc (.cells #[.string ⟨#[]⟩, .string ⟨#[]⟩, .int .i64 0, .int .u64 0, .string ⟨#[]⟩, .slice none 0 0] 27)).drew = w5
 intro HZd HBd
 have fz0 : (w5).frozen? ⟨w.heap.size + 2, 0, none⟩ = false := HZd.out.frozen 0
 have fq0 := (HZd.out.cell 0).trans rfl
 have fz1 : (w5).frozen? ⟨w.heap.size + 2, 1, none⟩ = false := HZd.out.frozen 1
 have fq1 := (HZd.out.cell 1).trans rfl
 have fz2 : (w5).frozen? ⟨w.heap.size + 2, 2, none⟩ = false := HZd.out.frozen 2
 have fq2 := (HZd.out.cell 2).trans rfl
 have fz3 : (w5).frozen? ⟨w.heap.size + 2, 3, none⟩ = false := HZd.out.frozen 3
 have fq3 := (HZd.out.cell 3).trans rfl
 have fz4 : (w5).frozen? ⟨w.heap.size + 2, 4, none⟩ = false := HZd.out.frozen 4
 have fq4 := (HZd.out.cell 4).trans rfl
 have fz5 : (w5).frozen? ⟨w.heap.size + 2, 5, none⟩ = false := HZd.out.frozen 5
 have fq5 := (HZd.out.cell 5).trans rfl
 go_wp2
 refine bodyPost_ret (res_ct9 rfl _ _ (w.heap.size + 2) 27 _ (0, 0) _ rfl (HZd.out.set6 _ _ _ _ _ _) Try.underlying27 rfl (by kernel_rfl)) rfl ?_
 exact ⟨_, rfl, (LieZ.zero _ _).p _, HBd.out.trans (set6_below (by omega))⟩
theorem zSet_none (d : Nat → Prop) (a e : NdD) (f eg : NdF) (A E : Option Addr) (c ec m g o n : Nat) (s : Stp) (pa : NdD) (pf : NdF) (w : World) (hd : UndZ d w) (hx : LieZ d w (ndC a (.slice A f.len c)) (a, f)) (hg : g < w.heap.size) (hs1 : w.cell? ⟨g, o + n * 2, none⟩ = some (.string (txt s.1))) (hs2 : w.cell? ⟨g, o + n * 2 + 1, none⟩ = some (.string (txt s.2))) (hn : n ≤ 1000000) (hm : n + 1 ≤ m)
  (h : (s.1 == e.name) = true) (h' : (s.2 == e.key) = true)
  (hG : ∀ W, Below w.heap.size w W → Calls Try.prog 22 #[.agg (cN a (.slice A f.len c)), .slice (some ⟨g, o, none⟩) n m] W (PTreZ d (pa, pf) (.bool false) W)) :
  Calls Try.prog 24 #[.agg (cN a (.slice A f.len c)), .slice (some ⟨g, o, none⟩) (n + 1) m, .agg (cN e (.slice E eg.len ec))] w (PTreZ d noN (.int .i64 30) w) := by
 obtain ⟨h1, hbx, h2, h3, h4⟩ := set_boxes a e f eg A E c ec w (hx.lie hd)
 have HX := hHd h1
 have HE := hHd hbx
 have HZ := hHd h2
 have HB := hHd h3
 clear h1 hbx h2 h3 h4
 -- the last step in memory
 have hst : Stp0 w g (o + n * 2) s := ⟨hs1, hs2⟩
 have HSt := hHd (hst.below hg HB.out.drew)
 have hnm : n ≤ m := by omega
 have i1 : (0 : Int) ≤ (n : Int) := by omega
 have i2 : (n : Int) < (n : Int) + 1 := by omega
 have i3 : (n : Int) ≤ 1000000 := by omega
 have tn : (txt s.1).toList = s.1 := txt_toList _
 have tk : (txt s.2).toList = s.2 := txt_toList _
 have ta : (txt e.name).toList = e.name := txt_toList _
 have tb : (txt e.key).toList = e.key := txt_toList _
 have HW : Hid (IntKind.i64.wrap (n : Int) = (n : Int)) := hHd (Go.IntWalk.i64_in _ (by omega))
 have HGT : Hid (∀ W, Below (((w.alloc (.cells (cN a (.slice A f.len c)) 27)).alloc (.cells (cN e (.slice E eg.len ec)) 27)).alloc (.cells #[.string ⟨#[]⟩, .string ⟨#[]⟩, .int .i64 0, .int .u64 0, .string ⟨#[]⟩, .slice none 0 0] 27)).heap.size (((w.alloc (.cells (cN a (.slice A f.len c)) 27)).alloc (.cells (cN e (.slice E eg.len ec)) 27)).alloc (.cells #[.string ⟨#[]⟩, .string ⟨#[]⟩, .int .i64 0, .int .u64 0, .string ⟨#[]⟩, .slice none 0 0] 27)) W → Calls Try.prog 22 #[.agg (cN a (.slice A f.len c)), .slice (some ⟨g, o, none⟩) n m] W (PTreZ d (pa, pf) (.bool false) W)) := hHd (fun W hW => hG W (HB.out.trans (hW.mono HB.out.size)))
 skip
 clear hx hd hst hs1 hs2 hG
 go_enter Try.func24, Try.ntmps24
 go_wp2_with fail
 refine wp_region_noPanic ?_
 refine wp_region_held_drew (S := fun _ => True) (by kernel_rfl) trivial (fun hS => ?_)
 refine held_more (S' := fun w' => Blk w' (w.heap.size + 1) 27 (cN e (.slice E eg.len ec)) ∧ Stp0 w' g (o + n * 2) s) (fun _ _ => trivial) _ _ _ _ ?_
 replace hS := And.intro (HE.out.below (Below.refl _ _).drew HE.out.lt) HSt.out
 refine tkH 0 hS ?_
 refine tkH 1 hS ?_
 refine tkH 2 hS ?_
 refine tkH 3 hS ?_
 refine tkH 4 hS ?_
 refine tkH 5 hS ?_
 refine tkH 6 hS ?_
 refine tkH 7 hS ?_ (hy := fun w hSw => by have q0 := hSw.2.1; (go_simp <;> with_reducible rfl))
 refine tkH 8 hS ?_
 refine tkH 9 hS ?_ (hy := fun w hSw => by have q0 := (hSw.1.cell 0).trans rfl; (go_simp <;> with_reducible rfl))
 refine tkH 10 hS ?_
 refine tkH 11 hS ?_
 refine tkH 12 hS ?_
 refine tkH 13 hS ?_
 refine tkH 14 hS ?_
 refine tkH 15 hS ?_
 refine tkH 16 hS ?_
 refine tkH 17 hS ?_ (hy := fun w hSw => by have q0 := hSw.2.2; (go_simp <;> with_reducible rfl))
 refine tkH 18 hS ?_
 refine tkH 19 hS ?_ (hy := fun w hSw => by have q0 := (hSw.1.cell 1).trans rfl; (go_simp <;> with_reducible rfl))
 refine tkH 20 hS ?_
 refine tkH 21 hS ?_
 refine wpAnyH_done (by kernel_rfl) ?_ _
 refine NoPanic.normal ?_
 clear hS
 go_wp2_with fail
 replace HX := hHd (HX.out.below (Below.refl _ _).drew HX.out.lt)
 replace HE := hHd (HE.out.below (Below.refl _ _).drew HE.out.lt)
 replace HZ := hHd (HZ.out.below (Below.refl _ _).drew HZ.out.lt)
 replace HB := hHd HB.out.drew
 replace HGT := hHd (fun (W : World) (hW : Below (((w.alloc (.cells (cN a (.slice A f.len c)) 27)).alloc (.cells (cN e (.slice E eg.len ec)) 27)).alloc (.cells #[.string ⟨#[]⟩, .string ⟨#[]⟩, .int .i64 0, .int .u64 0, .string ⟨#[]⟩, .slice none 0 0] 27)).drew.heap.size (((w.alloc (.cells (cN a (.slice A f.len c)) 27)).alloc (.cells (cN e (.slice E eg.len ec)) 27)).alloc (.cells #[.string ⟨#[]⟩, .string ⟨#[]⟩, .int .i64 0, .int .u64 0, .string ⟨#[]⟩, .slice none 0 0] 27)).drew W) => HGT.out W ((Below.refl _ _).drew.trans hW))
 clear HSt HW
 revert HX HE HZ HB HGT
 generalize (((w.alloc (.cells (cN a (.slice A f.len c)) 27)).alloc (.cells (cN e (.slice E eg.len ec)) 27)).alloc (.cells #[.string ⟨#[]⟩, .string ⟨#[]⟩, .int .i64 0, .int .u64 0, .string ⟨#[]⟩, .slice none 0 0] 27)).drew = w4
 intro HX HE HZ HB HGT
 refine wp_region_noPanic ?_
 refine wp_region_held_drew (S := fun _ => True) (by kernel_rfl) trivial (fun hS => ?_)
 refine held_more (S' := fun w' => Blk w' w.heap.size 27 (cN a (.slice A f.len c))) (fun _ _ => trivial) _ _ _ _ ?_
 replace hS := HX.out.below (Below.refl _ _).drew HX.out.lt
 refine tkH 0 hS ?_ (hy := fun w hSw => by obtain ⟨q0, q1, q2, q3, q4, q5⟩ := cl6 hSw; (go_simp <;> with_reducible rfl))
 refine tkH 1 hS ?_
 refine tkH 2 hS ?_
 refine tkH 3 hS ?_
 refine rdy [4, 8] (rdC (fun K hK => ?str_0) (rdC (fun K hK => ?str_1) .nil))
 case' str_0 =>
  go_simp
  refine (HGT.out w4.drew (Below.refl _ _).drew).mono ?_
  intro r w6 hr
  obtain ⟨A6, c6, rfl, hl6, hb6⟩ := hr.flat
  have HB6 := hHd (HB.out.drew.trans (hb6.mono HB.out.drew.size))
  have HW6 : Hid (Below w4.heap.size w4 w6) := hHd ((Below.refl w4.heap.size w4).drew.trans hb6)
  have HX6 := hHd (HX.out.below HW6.out HX.out.lt)
  clear hb6 hr hl6
  go_wp2_with fail
  refine hK.out _ _ ?sr_0 (fun hS => ?_)
  case sr_0 => (exact HX6.out)
  clear hK K
  (try simp only [Act.put, layS])
  refine tkH 5 hS ?_
  refine tkH 6 hS ?_
  refine tkH 7 hS ?_
  refine rdy1 8 fun K hK => ?_
  go_simp
  refine hK.out _ _ ?sr_2 (fun hS => ?_)
  case sr_2 => (exact HX6.out.alloc _)
  clear hK K
  (try simp only [Act.put, layS])
  refine rdy1 9 fun K hK => ?_
  go_simp
  refine hK.out _ _ ?sr_3 (fun hS => ?_)
  case sr_3 => (exact HX6.out.alloc _)
  clear hK K
  (try simp only [Act.put, layS])
  refine tkH 10 hS ?_
  refine wpAnyH_done (by kernel_rfl) ?_ _
  refine NoPanic.normal ?_
 case' str_1 =>
  go_simp
  refine hK.out _ _ ?sr_1 (fun hS => ?_)
  case sr_1 => (exact Blk.alloc (w := w4) HX.out _)
  clear hK K
  (try simp only [Act.put, layS])
  refine rdy1 4 fun K hK => ?_
  go_simp
  refine (HGT.out (w4.alloc (.cells #[.string ⟨#[]⟩, .string ⟨#[]⟩, .int .i64 0, .int .u64 0, .string ⟨#[]⟩, .slice none 0 0] 27)).drew bAl.drew).mono ?_
  intro r w6 hr
  obtain ⟨A6, c6, rfl, hl6, hb6⟩ := hr.flat
  have HB6 := hHd ((HB.out.alloc HB.out.size (.cells #[.string ⟨#[]⟩, .string ⟨#[]⟩, .int .i64 0, .int .u64 0, .string ⟨#[]⟩, .slice none 0 0] 27)).drew.trans (hb6.mono (HB.out.alloc HB.out.size (.cells #[.string ⟨#[]⟩, .string ⟨#[]⟩, .int .i64 0, .int .u64 0, .string ⟨#[]⟩, .slice none 0 0] 27)).drew.size))
  have HW6 : Hid (Below w4.heap.size w4 w6) := hHd (((Below.refl _ _).alloc (Nat.le_refl _) (.cells #[.string ⟨#[]⟩, .string ⟨#[]⟩, .int .i64 0, .int .u64 0, .string ⟨#[]⟩, .slice none 0 0] 27)).drew.trans (hb6.mono (by simp)))
  have HP6 : Hid (Blk w6 w4.heap.size 27 #[.string ⟨#[]⟩, .string ⟨#[]⟩, .int .i64 0, .int .u64 0, .string ⟨#[]⟩, .slice none 0 0]) := hHd ((((Blk.new w4 27 #[.string ⟨#[]⟩, .string ⟨#[]⟩, .int .i64 0, .int .u64 0, .string ⟨#[]⟩, .slice none 0 0]).below (Below.refl _ _).drew (Blk.new w4 27 #[.string ⟨#[]⟩, .string ⟨#[]⟩, .int .i64 0, .int .u64 0, .string ⟨#[]⟩, .slice none 0 0]).lt)).below hb6 (Blk.new w4 27 #[.string ⟨#[]⟩, .string ⟨#[]⟩, .int .i64 0, .int .u64 0, .string ⟨#[]⟩, .slice none 0 0]).lt)
  have HX6 := hHd (HX.out.below HW6.out HX.out.lt)
  clear hb6 hr hl6
  go_wp2_with fail
  refine hK.out _ _ ?sr_4 (fun hS => ?_)
  case sr_4 => (exact HX6.out)
  clear hK K
  (try simp only [Act.put, layS])
  refine tkH 5 hS ?_
  refine tkH 6 hS ?_
  refine tkH 7 hS ?_
  refine rdy1 9 fun K hK => ?_
  have fz0 : (w6).frozen? ⟨w4.heap.size, 0, none⟩ = false := HP6.out.frozen 0
  have fq0 := (HP6.out.cell 0).trans rfl
  have fz1 : (w6).frozen? ⟨w4.heap.size, 1, none⟩ = false := HP6.out.frozen 1
  have fq1 := (HP6.out.cell 1).trans rfl
  have fz2 : (w6).frozen? ⟨w4.heap.size, 2, none⟩ = false := HP6.out.frozen 2
  have fq2 := (HP6.out.cell 2).trans rfl
  have fz3 : (w6).frozen? ⟨w4.heap.size, 3, none⟩ = false := HP6.out.frozen 3
  have fq3 := (HP6.out.cell 3).trans rfl
  have fz4 : (w6).frozen? ⟨w4.heap.size, 4, none⟩ = false := HP6.out.frozen 4
  have fq4 := (HP6.out.cell 4).trans rfl
  have fz5 : (w6).frozen? ⟨w4.heap.size, 5, none⟩ = false := HP6.out.frozen 5
  have fq5 := (HP6.out.cell 5).trans rfl
  go_simp
  refine hK.out _ _ ?sr_5 (fun hS => ?_)
  case sr_5 => (exact (set6_other (w := w6) (b := w4.heap.size) (by have := HX.out.lt; omega)).trans HX6.out)
  clear hK K
  (try simp only [Act.put, layS])
  refine tkH 10 hS ?_
  refine wpAnyH_done (by kernel_rfl) ?_ _
  refine NoPanic.normal ?_
 ·skip
  -- the box was made ahead of the call
  clear hS
  have hlx : w.heap.size < w4.heap.size := HX.out.lt
  have hle : w.heap.size + 1 < w4.heap.size := HE.out.lt
  have hlz : w.heap.size + 2 < w4.heap.size := HZ.out.lt
  have HX7 : Hid (Blk (set6 w6 w4.heap.size (.string (txt pa.name)) (.string (txt pa.key)) (.int .i64 pa.kind) (.int .u64 (pa.num : Int)) (.string (txt pa.text)) (.slice A6 pf.len c6)) w.heap.size 27 (cN a (.slice A f.len c))) := hHd ((set6_other (by omega)).trans HX6.out)
  have HE7 : Hid (Blk (set6 w6 w4.heap.size (.string (txt pa.name)) (.string (txt pa.key)) (.int .i64 pa.kind) (.int .u64 (pa.num : Int)) (.string (txt pa.text)) (.slice A6 pf.len c6)) (w.heap.size + 1) 27 (cN e (.slice E eg.len ec))) := hHd ((set6_other (by omega)).trans (HE.out.below HW6.out HE.out.lt))
  have HZ7 : Hid (Blk (set6 w6 w4.heap.size (.string (txt pa.name)) (.string (txt pa.key)) (.int .i64 pa.kind) (.int .u64 (pa.num : Int)) (.string (txt pa.text)) (.slice A6 pf.len c6)) (w.heap.size + 2) 27 #[.string ⟨#[]⟩, .string ⟨#[]⟩, .int .i64 0, .int .u64 0, .string ⟨#[]⟩, .slice none 0 0]) := hHd ((set6_other (by omega)).trans (HZ.out.below HW6.out HZ.out.lt))
  have HB7 : Hid (Below w.heap.size w (set6 w6 w4.heap.size (.string (txt pa.name)) (.string (txt pa.key)) (.int .i64 pa.kind) (.int .u64 (pa.num : Int)) (.string (txt pa.text)) (.slice A6 pf.len c6))) := hHd (HB6.out.trans (set6_below (by omega)))
  have HP7 : Hid (Blk (set6 w6 w4.heap.size (.string (txt pa.name)) (.string (txt pa.key)) (.int .i64 pa.kind) (.int .u64 (pa.num : Int)) (.string (txt pa.text)) (.slice A6 pf.len c6)) w4.heap.size 27 (cN pa (.slice A6 pf.len c6))) := hHd (HP6.out.set6 _ _ _ _ _ _)
  clear hlx hle hlz
  revert HX7 HE7 HZ7 HB7 HP7
  unfold set6
  generalize (((((w6.setCell ⟨w4.heap.size, 0, none⟩ (.string (txt pa.name))).setCell ⟨w4.heap.size, 1, none⟩ (.string (txt pa.key))).setCell ⟨w4.heap.size, 2, none⟩ (.int .i64 pa.kind)).setCell ⟨w4.heap.size, 3, none⟩ (.int .u64 (pa.num : Int))).setCell ⟨w4.heap.size, 4, none⟩ (.string (txt pa.text))).setCell ⟨w4.heap.size, 5, none⟩ (.slice A6 pf.len c6) = w7
  intro HX7 HE7 HZ7 HB7 HP7
  have p2 := (HP7.out.cell 2).trans rfl
  have fz0 : (w7).frozen? ⟨w.heap.size + 2, 0, none⟩ = false := HZ7.out.frozen 0
  have fq0 := (HZ7.out.cell 0).trans rfl
  have fz1 : (w7).frozen? ⟨w.heap.size + 2, 1, none⟩ = false := HZ7.out.frozen 1
  have fq1 := (HZ7.out.cell 1).trans rfl
  have fz2 : (w7).frozen? ⟨w.heap.size + 2, 2, none⟩ = false := HZ7.out.frozen 2
  have fq2 := (HZ7.out.cell 2).trans rfl
  have fz3 : (w7).frozen? ⟨w.heap.size + 2, 3, none⟩ = false := HZ7.out.frozen 3
  have fq3 := (HZ7.out.cell 3).trans rfl
  have fz4 : (w7).frozen? ⟨w.heap.size + 2, 4, none⟩ = false := HZ7.out.frozen 4
  have fq4 := (HZ7.out.cell 4).trans rfl
  have fz5 : (w7).frozen? ⟨w.heap.size + 2, 5, none⟩ = false := HZ7.out.frozen 5
  have fq5 := (HZ7.out.cell 5).trans rfl
  go_wp2
  refine bodyPost_ret (res_ct9 rfl _ _ (w.heap.size + 2) 27 _ (0, 0) _ rfl (HZ7.out.set6 _ _ _ _ _ _) Try.underlying27 rfl (by kernel_rfl)) rfl ?_
  exact ⟨_, rfl, (LieZ.zero _ _).p _, HB7.out.trans (set6_below (by omega))⟩
 ·skip
  -- the box was made behind the call
  clear hS
  have HX7 := hHd (HX6.out.alloc (.cells (cN pa (.slice A6 pf.len c6)) 27))
  have HE7 := hHd ((HE.out.below HW6.out HE.out.lt).alloc (.cells (cN pa (.slice A6 pf.len c6)) 27))
  have HZ7 := hHd ((HZ.out.below HW6.out HZ.out.lt).alloc (.cells (cN pa (.slice A6 pf.len c6)) 27))
  have HB7 := hHd (HB6.out.alloc HB6.out.size (.cells (cN pa (.slice A6 pf.len c6)) 27))
  have HP7 := hHd (Blk.new w6 27 (cN pa (.slice A6 pf.len c6)))
  revert HX7 HE7 HZ7 HB7 HP7
  generalize w6.alloc (.cells (cN pa (.slice A6 pf.len c6)) 27) = w7
  generalize w6.heap.size = pb
  intro HX7 HE7 HZ7 HB7 HP7
  have p2 := (HP7.out.cell 2).trans rfl
  have fz0 : (w7).frozen? ⟨w.heap.size + 2, 0, none⟩ = false := HZ7.out.frozen 0
  have fq0 := (HZ7.out.cell 0).trans rfl
  have fz1 : (w7).frozen? ⟨w.heap.size + 2, 1, none⟩ = false := HZ7.out.frozen 1
  have fq1 := (HZ7.out.cell 1).trans rfl
  have fz2 : (w7).frozen? ⟨w.heap.size + 2, 2, none⟩ = false := HZ7.out.frozen 2
  have fq2 := (HZ7.out.cell 2).trans rfl
  have fz3 : (w7).frozen? ⟨w.heap.size + 2, 3, none⟩ = false := HZ7.out.frozen 3
  have fq3 := (HZ7.out.cell 3).trans rfl
  have fz4 : (w7).frozen? ⟨w.heap.size + 2, 4, none⟩ = false := HZ7.out.frozen 4
  have fq4 := (HZ7.out.cell 4).trans rfl
  have fz5 : (w7).frozen? ⟨w.heap.size + 2, 5, none⟩ = false := HZ7.out.frozen 5
  have fq5 := (HZ7.out.cell 5).trans rfl
  go_wp2
  refine bodyPost_ret (res_ct9 rfl _ _ (w.heap.size + 2) 27 _ (0, 0) _ rfl (HZ7.out.set6 _ _ _ _ _ _) Try.underlying27 rfl (by kernel_rfl)) rfl ?_
  exact ⟨_, rfl, (LieZ.zero _ _).p _, HB7.out.trans (set6_below (by omega))⟩
theorem zSet_leaf (d : Nat → Prop) (a e : NdD) (f eg : NdF) (A E : Option Addr) (c ec m g o n : Nat) (s : Stp) (pa : NdD) (pf : NdF) (w : World) (hd : UndZ d w) (hx : LieZ d w (ndC a (.slice A f.len c)) (a, f)) (hg : g < w.heap.size) (hs1 : w.cell? ⟨g, o + n * 2, none⟩ = some (.string (txt s.1))) (hs2 : w.cell? ⟨g, o + n * 2 + 1, none⟩ = some (.string (txt s.2))) (hn : n ≤ 1000000) (hm : n + 1 ≤ m)
  (h : (s.1 == e.name) = true) (h' : (s.2 == e.key) = true) (hk : pa.kind ≠ 0)
  (hG : ∀ W, Below w.heap.size w W → Calls Try.prog 22 #[.agg (cN a (.slice A f.len c)), .slice (some ⟨g, o, none⟩) n m] W (PTreZ d (pa, pf) (.bool true) W)) :
  Calls Try.prog 24 #[.agg (cN a (.slice A f.len c)), .slice (some ⟨g, o, none⟩) (n + 1) m, .agg (cN e (.slice E eg.len ec))] w (PTreZ d noN (.int .i64 30) w) := by
 obtain ⟨h1, hbx, h2, h3, h4⟩ := set_boxes a e f eg A E c ec w (hx.lie hd)
 have HX := hHd h1
 have HE := hHd hbx
 have HZ := hHd h2
 have HB := hHd h3
 clear h1 hbx h2 h3 h4
 -- the last step in memory
 have hst : Stp0 w g (o + n * 2) s := ⟨hs1, hs2⟩
 have HSt := hHd (hst.below hg HB.out.drew)
 have hnm : n ≤ m := by omega
 have i1 : (0 : Int) ≤ (n : Int) := by omega
 have i2 : (n : Int) < (n : Int) + 1 := by omega
 have i3 : (n : Int) ≤ 1000000 := by omega
 have tn : (txt s.1).toList = s.1 := txt_toList _
 have tk : (txt s.2).toList = s.2 := txt_toList _
 have ta : (txt e.name).toList = e.name := txt_toList _
 have tb : (txt e.key).toList = e.key := txt_toList _
 have HW : Hid (IntKind.i64.wrap (n : Int) = (n : Int)) := hHd (Go.IntWalk.i64_in _ (by omega))
 have HGT : Hid (∀ W, Below (((w.alloc (.cells (cN a (.slice A f.len c)) 27)).alloc (.cells (cN e (.slice E eg.len ec)) 27)).alloc (.cells #[.string ⟨#[]⟩, .string ⟨#[]⟩, .int .i64 0, .int .u64 0, .string ⟨#[]⟩, .slice none 0 0] 27)).heap.size (((w.alloc (.cells (cN a (.slice A f.len c)) 27)).alloc (.cells (cN e (.slice E eg.len ec)) 27)).alloc (.cells #[.string ⟨#[]⟩, .string ⟨#[]⟩, .int .i64 0, .int .u64 0, .string ⟨#[]⟩, .slice none 0 0] 27)) W → Calls Try.prog 22 #[.agg (cN a (.slice A f.len c)), .slice (some ⟨g, o, none⟩) n m] W (PTreZ d (pa, pf) (.bool true) W)) := hHd (fun W hW => hG W (HB.out.trans (hW.mono HB.out.size)))
 have k1 : (pa.kind == 0) = false := beq_eq_false_iff_ne.2 hk
 have k2 : (pa.kind != 0) = true := by simp [hk]
 clear hk
 clear hx hd hst hs1 hs2 hG
 go_enter Try.func24, Try.ntmps24
 go_wp2_with fail
 refine wp_region_noPanic ?_
 refine wp_region_held_drew (S := fun _ => True) (by kernel_rfl) trivial (fun hS => ?_)
 refine held_more (S' := fun w' => Blk w' (w.heap.size + 1) 27 (cN e (.slice E eg.len ec)) ∧ Stp0 w' g (o + n * 2) s) (fun _ _ => trivial) _ _ _ _ ?_
 replace hS := And.intro (HE.out.below (Below.refl _ _).drew HE.out.lt) HSt.out
 refine tkH 0 hS ?_
 refine tkH 1 hS ?_
 refine tkH 2 hS ?_
 refine tkH 3 hS ?_
 refine tkH 4 hS ?_
 refine tkH 5 hS ?_
 refine tkH 6 hS ?_
 refine tkH 7 hS ?_ (hy := fun w hSw => by have q0 := hSw.2.1; (go_simp <;> with_reducible rfl))
 refine tkH 8 hS ?_
 refine tkH 9 hS ?_ (hy := fun w hSw => by have q0 := (hSw.1.cell 0).trans rfl; (go_simp <;> with_reducible rfl))
 refine tkH 10 hS ?_
 refine tkH 11 hS ?_
 refine tkH 12 hS ?_
 refine tkH 13 hS ?_
 refine tkH 14 hS ?_
 refine tkH 15 hS ?_
 refine tkH 16 hS ?_
 refine tkH 17 hS ?_ (hy := fun w hSw => by have q0 := hSw.2.2; (go_simp <;> with_reducible rfl))
 refine tkH 18 hS ?_
 refine tkH 19 hS ?_ (hy := fun w hSw => by have q0 := (hSw.1.cell 1).trans rfl; (go_simp <;> with_reducible rfl))
 refine tkH 20 hS ?_
 refine tkH 21 hS ?_
 refine wpAnyH_done (by kernel_rfl) ?_ _
 refine NoPanic.normal ?_
 clear hS
 go_wp2_with fail
 replace HX := hHd (HX.out.below (Below.refl _ _).drew HX.out.lt)
 replace HE := hHd (HE.out.below (Below.refl _ _).drew HE.out.lt)
 replace HZ := hHd (HZ.out.below (Below.refl _ _).drew HZ.out.lt)
 replace HB := hHd HB.out.drew
 replace HGT := hHd (fun (W : World) (hW : Below (((w.alloc (.cells (cN a (.slice A f.len c)) 27)).alloc (.cells (cN e (.slice E eg.len ec)) 27)).alloc (.cells #[.string ⟨#[]⟩, .string ⟨#[]⟩, .int .i64 0, .int .u64 0, .string ⟨#[]⟩, .slice none 0 0] 27)).drew.heap.size (((w.alloc (.cells (cN a (.slice A f.len c)) 27)).alloc (.cells (cN e (.slice E eg.len ec)) 27)).alloc (.cells #[.string ⟨#[]⟩, .string ⟨#[]⟩, .int .i64 0, .int .u64 0, .string ⟨#[]⟩, .slice none 0 0] 27)).drew W) => HGT.out W ((Below.refl _ _).drew.trans hW))
 clear HSt HW
 revert HX HE HZ HB HGT
 generalize (((w.alloc (.cells (cN a (.slice A f.len c)) 27)).alloc (.cells (cN e (.slice E eg.len ec)) 27)).alloc (.cells #[.string ⟨#[]⟩, .string ⟨#[]⟩, .int .i64 0, .int .u64 0, .string ⟨#[]⟩, .slice none 0 0] 27)).drew = w4
 intro HX HE HZ HB HGT
 refine wp_region_noPanic ?_
 refine wp_region_held_drew (S := fun _ => True) (by kernel_rfl) trivial (fun hS => ?_)
 refine held_more (S' := fun w' => Blk w' w.heap.size 27 (cN a (.slice A f.len c))) (fun _ _ => trivial) _ _ _ _ ?_
 replace hS := HX.out.below (Below.refl _ _).drew HX.out.lt
 refine tkH 0 hS ?_ (hy := fun w hSw => by obtain ⟨q0, q1, q2, q3, q4, q5⟩ := cl6 hSw; (go_simp <;> with_reducible rfl))
 refine tkH 1 hS ?_
 refine tkH 2 hS ?_
 refine tkH 3 hS ?_
 refine rdy [4, 8] (rdC (fun K hK => ?str_6) (rdC (fun K hK => ?str_7) .nil))
 case' str_6 =>
  go_simp
  refine (HGT.out w4.drew (Below.refl _ _).drew).mono ?_
  intro r w6 hr
  obtain ⟨A6, c6, rfl, hl6, hb6⟩ := hr.flat
  have HB6 := hHd (HB.out.drew.trans (hb6.mono HB.out.drew.size))
  have HW6 : Hid (Below w4.heap.size w4 w6) := hHd ((Below.refl w4.heap.size w4).drew.trans hb6)
  have HX6 := hHd (HX.out.below HW6.out HX.out.lt)
  clear hb6 hr hl6
  go_wp2_with fail
  refine hK.out _ _ ?sr_6 (fun hS => ?_)
  case sr_6 => (exact HX6.out)
  clear hK K
  (try simp only [Act.put, layS])
  refine tkH 5 hS ?_
  refine tkH 6 hS ?_
  refine tkH 7 hS ?_
  refine rdy1 8 fun K hK => ?_
  go_simp
  refine hK.out _ _ ?sr_8 (fun hS => ?_)
  case sr_8 => (exact HX6.out.alloc _)
  clear hK K
  (try simp only [Act.put, layS])
  refine rdy1 9 fun K hK => ?_
  go_simp
  refine hK.out _ _ ?sr_9 (fun hS => ?_)
  case sr_9 => (exact HX6.out.alloc _)
  clear hK K
  (try simp only [Act.put, layS])
  refine tkH 10 hS ?_
  refine wpAnyH_done (by kernel_rfl) ?_ _
  refine NoPanic.normal ?_
 case' str_7 =>
  go_simp
  refine hK.out _ _ ?sr_7 (fun hS => ?_)
  case sr_7 => (exact Blk.alloc (w := w4) HX.out _)
  clear hK K
  (try simp only [Act.put, layS])
  refine rdy1 4 fun K hK => ?_
  go_simp
  refine (HGT.out (w4.alloc (.cells #[.string ⟨#[]⟩, .string ⟨#[]⟩, .int .i64 0, .int .u64 0, .string ⟨#[]⟩, .slice none 0 0] 27)).drew bAl.drew).mono ?_
  intro r w6 hr
  obtain ⟨A6, c6, rfl, hl6, hb6⟩ := hr.flat
  have HB6 := hHd ((HB.out.alloc HB.out.size (.cells #[.string ⟨#[]⟩, .string ⟨#[]⟩, .int .i64 0, .int .u64 0, .string ⟨#[]⟩, .slice none 0 0] 27)).drew.trans (hb6.mono (HB.out.alloc HB.out.size (.cells #[.string ⟨#[]⟩, .string ⟨#[]⟩, .int .i64 0, .int .u64 0, .string ⟨#[]⟩, .slice none 0 0] 27)).drew.size))
  have HW6 : Hid (Below w4.heap.size w4 w6) := hHd (((Below.refl _ _).alloc (Nat.le_refl _) (.cells #[.string ⟨#[]⟩, .string ⟨#[]⟩, .int .i64 0, .int .u64 0, .string ⟨#[]⟩, .slice none 0 0] 27)).drew.trans (hb6.mono (by simp)))
  have HP6 : Hid (Blk w6 w4.heap.size 27 #[.string ⟨#[]⟩, .string ⟨#[]⟩, .int .i64 0, .int .u64 0, .string ⟨#[]⟩, .slice none 0 0]) := hHd ((((Blk.new w4 27 #[.string ⟨#[]⟩, .string ⟨#[]⟩, .int .i64 0, .int .u64 0, .string ⟨#[]⟩, .slice none 0 0]).below (Below.refl _ _).drew (Blk.new w4 27 #[.string ⟨#[]⟩, .string ⟨#[]⟩, .int .i64 0, .int .u64 0, .string ⟨#[]⟩, .slice none 0 0]).lt)).below hb6 (Blk.new w4 27 #[.string ⟨#[]⟩, .string ⟨#[]⟩, .int .i64 0, .int .u64 0, .string ⟨#[]⟩, .slice none 0 0]).lt)
  have HX6 := hHd (HX.out.below HW6.out HX.out.lt)
  clear hb6 hr hl6
  go_wp2_with fail
  refine hK.out _ _ ?sr_a (fun hS => ?_)
  case sr_a => (exact HX6.out)
  clear hK K
  (try simp only [Act.put, layS])
  refine tkH 5 hS ?_
  refine tkH 6 hS ?_
  refine tkH 7 hS ?_
  refine rdy1 9 fun K hK => ?_
  have fz0 : (w6).frozen? ⟨w4.heap.size, 0, none⟩ = false := HP6.out.frozen 0
  have fq0 := (HP6.out.cell 0).trans rfl
  have fz1 : (w6).frozen? ⟨w4.heap.size, 1, none⟩ = false := HP6.out.frozen 1
  have fq1 := (HP6.out.cell 1).trans rfl
  have fz2 : (w6).frozen? ⟨w4.heap.size, 2, none⟩ = false := HP6.out.frozen 2
  have fq2 := (HP6.out.cell 2).trans rfl
  have fz3 : (w6).frozen? ⟨w4.heap.size, 3, none⟩ = false := HP6.out.frozen 3
  have fq3 := (HP6.out.cell 3).trans rfl
  have fz4 : (w6).frozen? ⟨w4.heap.size, 4, none⟩ = false := HP6.out.frozen 4
  have fq4 := (HP6.out.cell 4).trans rfl
  have fz5 : (w6).frozen? ⟨w4.heap.size, 5, none⟩ = false := HP6.out.frozen 5
  have fq5 := (HP6.out.cell 5).trans rfl
  go_simp
  refine hK.out _ _ ?sr_b (fun hS => ?_)
  case sr_b => (exact (set6_other (w := w6) (b := w4.heap.size) (by have := HX.out.lt; omega)).trans HX6.out)
  clear hK K
  (try simp only [Act.put, layS])
  refine tkH 10 hS ?_
  refine wpAnyH_done (by kernel_rfl) ?_ _
  refine NoPanic.normal ?_
 ·skip
  -- the box was made ahead of the call
  clear hS
  have hlx : w.heap.size < w4.heap.size := HX.out.lt
  have hle : w.heap.size + 1 < w4.heap.size := HE.out.lt
  have hlz : w.heap.size + 2 < w4.heap.size := HZ.out.lt
  have HX7 : Hid (Blk (set6 w6 w4.heap.size (.string (txt pa.name)) (.string (txt pa.key)) (.int .i64 pa.kind) (.int .u64 (pa.num : Int)) (.string (txt pa.text)) (.slice A6 pf.len c6)) w.heap.size 27 (cN a (.slice A f.len c))) := hHd ((set6_other (by omega)).trans HX6.out)
  have HE7 : Hid (Blk (set6 w6 w4.heap.size (.string (txt pa.name)) (.string (txt pa.key)) (.int .i64 pa.kind) (.int .u64 (pa.num : Int)) (.string (txt pa.text)) (.slice A6 pf.len c6)) (w.heap.size + 1) 27 (cN e (.slice E eg.len ec))) := hHd ((set6_other (by omega)).trans (HE.out.below HW6.out HE.out.lt))
  have HZ7 : Hid (Blk (set6 w6 w4.heap.size (.string (txt pa.name)) (.string (txt pa.key)) (.int .i64 pa.kind) (.int .u64 (pa.num : Int)) (.string (txt pa.text)) (.slice A6 pf.len c6)) (w.heap.size + 2) 27 #[.string ⟨#[]⟩, .string ⟨#[]⟩, .int .i64 0, .int .u64 0, .string ⟨#[]⟩, .slice none 0 0]) := hHd ((set6_other (by omega)).trans (HZ.out.below HW6.out HZ.out.lt))
  have HB7 : Hid (Below w.heap.size w (set6 w6 w4.heap.size (.string (txt pa.name)) (.string (txt pa.key)) (.int .i64 pa.kind) (.int .u64 (pa.num : Int)) (.string (txt pa.text)) (.slice A6 pf.len c6))) := hHd (HB6.out.trans (set6_below (by omega)))
  have HP7 : Hid (Blk (set6 w6 w4.heap.size (.string (txt pa.name)) (.string (txt pa.key)) (.int .i64 pa.kind) (.int .u64 (pa.num : Int)) (.string (txt pa.text)) (.slice A6 pf.len c6)) w4.heap.size 27 (cN pa (.slice A6 pf.len c6))) := hHd (HP6.out.set6 _ _ _ _ _ _)
  clear hlx hle hlz
  revert HX7 HE7 HZ7 HB7 HP7
  unfold set6
  generalize (((((w6.setCell ⟨w4.heap.size, 0, none⟩ (.string (txt pa.name))).setCell ⟨w4.heap.size, 1, none⟩ (.string (txt pa.key))).setCell ⟨w4.heap.size, 2, none⟩ (.int .i64 pa.kind)).setCell ⟨w4.heap.size, 3, none⟩ (.int .u64 (pa.num : Int))).setCell ⟨w4.heap.size, 4, none⟩ (.string (txt pa.text))).setCell ⟨w4.heap.size, 5, none⟩ (.slice A6 pf.len c6) = w7
  intro HX7 HE7 HZ7 HB7 HP7
  have p2 := (HP7.out.cell 2).trans rfl
  have fz0 : (w7).frozen? ⟨w.heap.size + 2, 0, none⟩ = false := HZ7.out.frozen 0
  have fq0 := (HZ7.out.cell 0).trans rfl
  have fz1 : (w7).frozen? ⟨w.heap.size + 2, 1, none⟩ = false := HZ7.out.frozen 1
  have fq1 := (HZ7.out.cell 1).trans rfl
  have fz2 : (w7).frozen? ⟨w.heap.size + 2, 2, none⟩ = false := HZ7.out.frozen 2
  have fq2 := (HZ7.out.cell 2).trans rfl
  have fz3 : (w7).frozen? ⟨w.heap.size + 2, 3, none⟩ = false := HZ7.out.frozen 3
  have fq3 := (HZ7.out.cell 3).trans rfl
  have fz4 : (w7).frozen? ⟨w.heap.size + 2, 4, none⟩ = false := HZ7.out.frozen 4
  have fq4 := (HZ7.out.cell 4).trans rfl
  have fz5 : (w7).frozen? ⟨w.heap.size + 2, 5, none⟩ = false := HZ7.out.frozen 5
  have fq5 := (HZ7.out.cell 5).trans rfl
  go_wp2
  refine bodyPost_ret (res_ct9 rfl _ _ (w.heap.size + 2) 27 _ (0, 0) _ rfl (HZ7.out.set6 _ _ _ _ _ _) Try.underlying27 rfl (by kernel_rfl)) rfl ?_
  exact ⟨_, rfl, (LieZ.zero _ _).p _, HB7.out.trans (set6_below (by omega))⟩
 ·skip
  -- the box was made behind the call
  clear hS
  have HX7 := hHd (HX6.out.alloc (.cells (cN pa (.slice A6 pf.len c6)) 27))
  have HE7 := hHd ((HE.out.below HW6.out HE.out.lt).alloc (.cells (cN pa (.slice A6 pf.len c6)) 27))
  have HZ7 := hHd ((HZ.out.below HW6.out HZ.out.lt).alloc (.cells (cN pa (.slice A6 pf.len c6)) 27))
  have HB7 := hHd (HB6.out.alloc HB6.out.size (.cells (cN pa (.slice A6 pf.len c6)) 27))
  have HP7 := hHd (Blk.new w6 27 (cN pa (.slice A6 pf.len c6)))
  revert HX7 HE7 HZ7 HB7 HP7
  generalize w6.alloc (.cells (cN pa (.slice A6 pf.len c6)) 27) = w7
  generalize w6.heap.size = pb
  intro HX7 HE7 HZ7 HB7 HP7
  have p2 := (HP7.out.cell 2).trans rfl
  have fz0 : (w7).frozen? ⟨w.heap.size + 2, 0, none⟩ = false := HZ7.out.frozen 0
  have fq0 := (HZ7.out.cell 0).trans rfl
  have fz1 : (w7).frozen? ⟨w.heap.size + 2, 1, none⟩ = false := HZ7.out.frozen 1
  have fq1 := (HZ7.out.cell 1).trans rfl
  have fz2 : (w7).frozen? ⟨w.heap.size + 2, 2, none⟩ = false := HZ7.out.frozen 2
  have fq2 := (HZ7.out.cell 2).trans rfl
  have fz3 : (w7).frozen? ⟨w.heap.size + 2, 3, none⟩ = false := HZ7.out.frozen 3
  have fq3 := (HZ7.out.cell 3).trans rfl
  have fz4 : (w7).frozen? ⟨w.heap.size + 2, 4, none⟩ = false := HZ7.out.frozen 4
  have fq4 := (HZ7.out.cell 4).trans rfl
  have fz5 : (w7).frozen? ⟨w.heap.size + 2, 5, none⟩ = false := HZ7.out.frozen 5
  have fq5 := (HZ7.out.cell 5).trans rfl
  go_wp2
  refine bodyPost_ret (res_ct9 rfl _ _ (w.heap.size + 2) 27 _ (0, 0) _ rfl (HZ7.out.set6 _ _ _ _ _ _) Try.underlying27 rfl (by kernel_rfl)) rfl ?_
  exact ⟨_, rfl, (LieZ.zero _ _).p _, HB7.out.trans (set6_below (by omega))⟩
theorem zSet_ok (d : Nat → Prop) (a e : NdD) (f eg : NdF) (A E : Option Addr) (c ec m g o n : Nat) (s : Stp) (pa : NdD) (pf : NdF) (w : World) (hd : UndZ d w) (hx : LieZ d w (ndC a (.slice A f.len c)) (a, f)) (hg : g < w.heap.size) (hs1 : w.cell? ⟨g, o + n * 2, none⟩ = some (.string (txt s.1))) (hs2 : w.cell? ⟨g, o + n * 2 + 1, none⟩ = some (.string (txt s.2))) (hn : n ≤ 1000000) (hm : n + 1 ≤ m)
  (h : (s.1 == e.name) = true) (h' : (s.2 == e.key) = true) (hk : pa.kind = 0) (ra : NdD) (rf : NdF) (hS : ∀ W, Below w.heap.size w W → Calls Try.prog 33 #[.agg (cN a (.slice A f.len c)), .slice (some ⟨g, o, none⟩) (n + 1) m, .agg (cN e (.slice E eg.len ec))] W (PTreZ1 d (ra, rf) W))
  (hG : ∀ W, Below w.heap.size w W → Calls Try.prog 22 #[.agg (cN a (.slice A f.len c)), .slice (some ⟨g, o, none⟩) n m] W (PTreZ d (pa, pf) (.bool true) W)) :
  Calls Try.prog 24 #[.agg (cN a (.slice A f.len c)), .slice (some ⟨g, o, none⟩) (n + 1) m, .agg (cN e (.slice E eg.len ec))] w (PTreZ d (ra, rf) (.int .i64 0) w) := by
 obtain ⟨h1, hbx, h2, h3, h4⟩ := set_boxes a e f eg A E c ec w (hx.lie hd)
 have HX := hHd h1
 have HE := hHd hbx
 have HZ := hHd h2
 have HB := hHd h3
 clear h1 hbx h2 h3 h4
 -- the last step in memory
 have hst : Stp0 w g (o + n * 2) s := ⟨hs1, hs2⟩
 have HSt := hHd (hst.below hg HB.out.drew)
 have hnm : n ≤ m := by omega
 have i1 : (0 : Int) ≤ (n : Int) := by omega
 have i2 : (n : Int) < (n : Int) + 1 := by omega
 have i3 : (n : Int) ≤ 1000000 := by omega
 have tn : (txt s.1).toList = s.1 := txt_toList _
 have tk : (txt s.2).toList = s.2 := txt_toList _
 have ta : (txt e.name).toList = e.name := txt_toList _
 have tb : (txt e.key).toList = e.key := txt_toList _
 have HW : Hid (IntKind.i64.wrap (n : Int) = (n : Int)) := hHd (Go.IntWalk.i64_in _ (by omega))
 have HGT : Hid (∀ W, Below (((w.alloc (.cells (cN a (.slice A f.len c)) 27)).alloc (.cells (cN e (.slice E eg.len ec)) 27)).alloc (.cells #[.string ⟨#[]⟩, .string ⟨#[]⟩, .int .i64 0, .int .u64 0, .string ⟨#[]⟩, .slice none 0 0] 27)).heap.size (((w.alloc (.cells (cN a (.slice A f.len c)) 27)).alloc (.cells (cN e (.slice E eg.len ec)) 27)).alloc (.cells #[.string ⟨#[]⟩, .string ⟨#[]⟩, .int .i64 0, .int .u64 0, .string ⟨#[]⟩, .slice none 0 0] 27)) W → Calls Try.prog 22 #[.agg (cN a (.slice A f.len c)), .slice (some ⟨g, o, none⟩) n m] W (PTreZ d (pa, pf) (.bool true) W)) := hHd (fun W hW => hG W (HB.out.trans (hW.mono HB.out.size)))
 have k1 : (pa.kind == 0) = true := beq_iff_eq.2 hk
 have k2 : (pa.kind != 0) = false := by simp [hk]
 have HST := hHd hS
 have HD := hHd hd
 clear hk hS
 clear hx hd hst hs1 hs2 hG
 go_enter Try.func24, Try.ntmps24
 go_wp2_with fail
 refine wp_region_noPanic ?_
 refine wp_region_held_drew (S := fun _ => True) (by kernel_rfl) trivial (fun hS => ?_)
 refine held_more (S' := fun w' => Blk w' (w.heap.size + 1) 27 (cN e (.slice E eg.len ec)) ∧ Stp0 w' g (o + n * 2) s) (fun _ _ => trivial) _ _ _ _ ?_
 replace hS := And.intro (HE.out.below (Below.refl _ _).drew HE.out.lt) HSt.out
 refine tkH 0 hS ?_
 refine tkH 1 hS ?_
 refine tkH 2 hS ?_
 refine tkH 3 hS ?_
 refine tkH 4 hS ?_
 refine tkH 5 hS ?_
 refine tkH 6 hS ?_
 refine tkH 7 hS ?_ (hy := fun w hSw => by have q0 := hSw.2.1; (go_simp <;> with_reducible rfl))
 refine tkH 8 hS ?_
 refine tkH 9 hS ?_ (hy := fun w hSw => by have q0 := (hSw.1.cell 0).trans rfl; (go_simp <;> with_reducible rfl))
 refine tkH 10 hS ?_
 refine tkH 11 hS ?_
 refine tkH 12 hS ?_
 refine tkH 13 hS ?_
 refine tkH 14 hS ?_
 refine tkH 15 hS ?_
 refine tkH 16 hS ?_
 refine tkH 17 hS ?_ (hy := fun w hSw => by have q0 := hSw.2.2; (go_simp <;> with_reducible rfl))
 refine tkH 18 hS ?_
 refine tkH 19 hS ?_ (hy := fun w hSw => by have q0 := (hSw.1.cell 1).trans rfl; (go_simp <;> with_reducible rfl))
 refine tkH 20 hS ?_
 refine tkH 21 hS ?_
 refine wpAnyH_done (by kernel_rfl) ?_ _
 refine NoPanic.normal ?_
 clear hS
 go_wp2_with fail
 replace HX := hHd (HX.out.below (Below.refl _ _).drew HX.out.lt)
 replace HE := hHd (HE.out.below (Below.refl _ _).drew HE.out.lt)
 replace HZ := hHd (HZ.out.below (Below.refl _ _).drew HZ.out.lt)
 replace HB := hHd HB.out.drew
 replace HGT := hHd (fun (W : World) (hW : Below (((w.alloc (.cells (cN a (.slice A f.len c)) 27)).alloc (.cells (cN e (.slice E eg.len ec)) 27)).alloc (.cells #[.string ⟨#[]⟩, .string ⟨#[]⟩, .int .i64 0, .int .u64 0, .string ⟨#[]⟩, .slice none 0 0] 27)).drew.heap.size (((w.alloc (.cells (cN a (.slice A f.len c)) 27)).alloc (.cells (cN e (.slice E eg.len ec)) 27)).alloc (.cells #[.string ⟨#[]⟩, .string ⟨#[]⟩, .int .i64 0, .int .u64 0, .string ⟨#[]⟩, .slice none 0 0] 27)).drew W) => HGT.out W ((Below.refl _ _).drew.trans hW))
 clear HSt HW
 revert HX HE HZ HB HGT
 generalize (((w.alloc (.cells (cN a (.slice A f.len c)) 27)).alloc (.cells (cN e (.slice E eg.len ec)) 27)).alloc (.cells #[.string ⟨#[]⟩, .string ⟨#[]⟩, .int .i64 0, .int .u64 0, .string ⟨#[]⟩, .slice none 0 0] 27)).drew = w4
 intro HX HE HZ HB HGT
 refine wp_region_noPanic ?_
 refine wp_region_held_drew (S := fun _ => True) (by kernel_rfl) trivial (fun hS => ?_)
 refine held_more (S' := fun w' => Blk w' w.heap.size 27 (cN a (.slice A f.len c))) (fun _ _ => trivial) _ _ _ _ ?_
 replace hS := HX.out.below (Below.refl _ _).drew HX.out.lt
 refine tkH 0 hS ?_ (hy := fun w hSw => by obtain ⟨q0, q1, q2, q3, q4, q5⟩ := cl6 hSw; (go_simp <;> with_reducible rfl))
 refine tkH 1 hS ?_
 refine tkH 2 hS ?_
 refine tkH 3 hS ?_
 refine rdy [4, 8] (rdC (fun K hK => ?str_c) (rdC (fun K hK => ?str_d) .nil))
 case' str_c =>
  go_simp
  refine (HGT.out w4.drew (Below.refl _ _).drew).mono ?_
  intro r w6 hr
  obtain ⟨A6, c6, rfl, hl6, hb6⟩ := hr.flat
  have HB6 := hHd (HB.out.drew.trans (hb6.mono HB.out.drew.size))
  have HW6 : Hid (Below w4.heap.size w4 w6) := hHd ((Below.refl w4.heap.size w4).drew.trans hb6)
  have HX6 := hHd (HX.out.below HW6.out HX.out.lt)
  clear hb6 hr hl6
  go_wp2_with fail
  refine hK.out _ _ ?sr_c (fun hS => ?_)
  case sr_c => (exact HX6.out)
  clear hK K
  (try simp only [Act.put, layS])
  refine tkH 5 hS ?_
  refine tkH 6 hS ?_
  refine tkH 7 hS ?_
  refine rdy1 8 fun K hK => ?_
  go_simp
  refine hK.out _ _ ?sr_e (fun hS => ?_)
  case sr_e => (exact HX6.out.alloc _)
  clear hK K
  (try simp only [Act.put, layS])
  refine rdy1 9 fun K hK => ?_
  go_simp
  refine hK.out _ _ ?sr_f (fun hS => ?_)
  case sr_f => (exact HX6.out.alloc _)
  clear hK K
  (try simp only [Act.put, layS])
  refine tkH 10 hS ?_
  refine wpAnyH_done (by kernel_rfl) ?_ _
  refine NoPanic.normal ?_
 case' str_d =>
  go_simp
  refine hK.out _ _ ?sr_d (fun hS => ?_)
  case sr_d => (exact Blk.alloc (w := w4) HX.out _)
  clear hK K
  (try simp only [Act.put, layS])
  refine rdy1 4 fun K hK => ?_
  go_simp
  refine (HGT.out (w4.alloc (.cells #[.string ⟨#[]⟩, .string ⟨#[]⟩, .int .i64 0, .int .u64 0, .string ⟨#[]⟩, .slice none 0 0] 27)).drew bAl.drew).mono ?_
  intro r w6 hr
  obtain ⟨A6, c6, rfl, hl6, hb6⟩ := hr.flat
  have HB6 := hHd ((HB.out.alloc HB.out.size (.cells #[.string ⟨#[]⟩, .string ⟨#[]⟩, .int .i64 0, .int .u64 0, .string ⟨#[]⟩, .slice none 0 0] 27)).drew.trans (hb6.mono (HB.out.alloc HB.out.size (.cells #[.string ⟨#[]⟩, .string ⟨#[]⟩, .int .i64 0, .int .u64 0, .string ⟨#[]⟩, .slice none 0 0] 27)).drew.size))
  have HW6 : Hid (Below w4.heap.size w4 w6) := hHd (((Below.refl _ _).alloc (Nat.le_refl _) (.cells #[.string ⟨#[]⟩, .string ⟨#[]⟩, .int .i64 0, .int .u64 0, .string ⟨#[]⟩, .slice none 0 0] 27)).drew.trans (hb6.mono (by simp)))
  have HP6 : Hid (Blk w6 w4.heap.size 27 #[.string ⟨#[]⟩, .string ⟨#[]⟩, .int .i64 0, .int .u64 0, .string ⟨#[]⟩, .slice none 0 0]) := hHd ((((Blk.new w4 27 #[.string ⟨#[]⟩, .string ⟨#[]⟩, .int .i64 0, .int .u64 0, .string ⟨#[]⟩, .slice none 0 0]).below (Below.refl _ _).drew (Blk.new w4 27 #[.string ⟨#[]⟩, .string ⟨#[]⟩, .int .i64 0, .int .u64 0, .string ⟨#[]⟩, .slice none 0 0]).lt)).below hb6 (Blk.new w4 27 #[.string ⟨#[]⟩, .string ⟨#[]⟩, .int .i64 0, .int .u64 0, .string ⟨#[]⟩, .slice none 0 0]).lt)
  have HX6 := hHd (HX.out.below HW6.out HX.out.lt)
  clear hb6 hr hl6
  go_wp2_with fail
  refine hK.out _ _ ?sr_g (fun hS => ?_)
  case sr_g => (exact HX6.out)
  clear hK K
  (try simp only [Act.put, layS])
  refine tkH 5 hS ?_
  refine tkH 6 hS ?_
  refine tkH 7 hS ?_
  refine rdy1 9 fun K hK => ?_
  have fz0 : (w6).frozen? ⟨w4.heap.size, 0, none⟩ = false := HP6.out.frozen 0
  have fq0 := (HP6.out.cell 0).trans rfl
  have fz1 : (w6).frozen? ⟨w4.heap.size, 1, none⟩ = false := HP6.out.frozen 1
  have fq1 := (HP6.out.cell 1).trans rfl
  have fz2 : (w6).frozen? ⟨w4.heap.size, 2, none⟩ = false := HP6.out.frozen 2
  have fq2 := (HP6.out.cell 2).trans rfl
  have fz3 : (w6).frozen? ⟨w4.heap.size, 3, none⟩ = false := HP6.out.frozen 3
  have fq3 := (HP6.out.cell 3).trans rfl
  have fz4 : (w6).frozen? ⟨w4.heap.size, 4, none⟩ = false := HP6.out.frozen 4
  have fq4 := (HP6.out.cell 4).trans rfl
  have fz5 : (w6).frozen? ⟨w4.heap.size, 5, none⟩ = false := HP6.out.frozen 5
  have fq5 := (HP6.out.cell 5).trans rfl
  go_simp
  refine hK.out _ _ ?sr_h (fun hS => ?_)
  case sr_h => (exact (set6_other (w := w6) (b := w4.heap.size) (by have := HX.out.lt; omega)).trans HX6.out)
  clear hK K
  (try simp only [Act.put, layS])
  refine tkH 10 hS ?_
  refine wpAnyH_done (by kernel_rfl) ?_ _
  refine NoPanic.normal ?_
 ·skip
  -- the box was made ahead of the call
  clear hS
  have hlx : w.heap.size < w4.heap.size := HX.out.lt
  have hle : w.heap.size + 1 < w4.heap.size := HE.out.lt
  have hlz : w.heap.size + 2 < w4.heap.size := HZ.out.lt
  have HX7 : Hid (Blk (set6 w6 w4.heap.size (.string (txt pa.name)) (.string (txt pa.key)) (.int .i64 pa.kind) (.int .u64 (pa.num : Int)) (.string (txt pa.text)) (.slice A6 pf.len c6)) w.heap.size 27 (cN a (.slice A f.len c))) := hHd ((set6_other (by omega)).trans HX6.out)
  have HE7 : Hid (Blk (set6 w6 w4.heap.size (.string (txt pa.name)) (.string (txt pa.key)) (.int .i64 pa.kind) (.int .u64 (pa.num : Int)) (.string (txt pa.text)) (.slice A6 pf.len c6)) (w.heap.size + 1) 27 (cN e (.slice E eg.len ec))) := hHd ((set6_other (by omega)).trans (HE.out.below HW6.out HE.out.lt))
  have HZ7 : Hid (Blk (set6 w6 w4.heap.size (.string (txt pa.name)) (.string (txt pa.key)) (.int .i64 pa.kind) (.int .u64 (pa.num : Int)) (.string (txt pa.text)) (.slice A6 pf.len c6)) (w.heap.size + 2) 27 #[.string ⟨#[]⟩, .string ⟨#[]⟩, .int .i64 0, .int .u64 0, .string ⟨#[]⟩, .slice none 0 0]) := hHd ((set6_other (by omega)).trans (HZ.out.below HW6.out HZ.out.lt))
  have HB7 : Hid (Below w.heap.size w (set6 w6 w4.heap.size (.string (txt pa.name)) (.string (txt pa.key)) (.int .i64 pa.kind) (.int .u64 (pa.num : Int)) (.string (txt pa.text)) (.slice A6 pf.len c6))) := hHd (HB6.out.trans (set6_below (by omega)))
  have HP7 : Hid (Blk (set6 w6 w4.heap.size (.string (txt pa.name)) (.string (txt pa.key)) (.int .i64 pa.kind) (.int .u64 (pa.num : Int)) (.string (txt pa.text)) (.slice A6 pf.len c6)) w4.heap.size 27 (cN pa (.slice A6 pf.len c6))) := hHd (HP6.out.set6 _ _ _ _ _ _)
  clear hlx hle hlz
  revert HX7 HE7 HZ7 HB7 HP7
  unfold set6
  generalize (((((w6.setCell ⟨w4.heap.size, 0, none⟩ (.string (txt pa.name))).setCell ⟨w4.heap.size, 1, none⟩ (.string (txt pa.key))).setCell ⟨w4.heap.size, 2, none⟩ (.int .i64 pa.kind)).setCell ⟨w4.heap.size, 3, none⟩ (.int .u64 (pa.num : Int))).setCell ⟨w4.heap.size, 4, none⟩ (.string (txt pa.text))).setCell ⟨w4.heap.size, 5, none⟩ (.slice A6 pf.len c6) = w7
  intro HX7 HE7 HZ7 HB7 HP7
  obtain ⟨p0, p1, p2, p3, p4, p5⟩ := cl6 HP7.out
  obtain ⟨q0, q1, q2, q3, q4, q5⟩ := cl6 HX7.out
  obtain ⟨x0, x1, x2, x3, x4, x5⟩ := cl6 HE7.out
  go_wp2_with fail
  refine (HST.out w7 HB7.out).mono ?_
  intro r w8 hr
  obtain ⟨A8, c8, rfl, hl8, hb8⟩ := hr.flat
  have HL8 := hHd hl8
  have HB8 := hHd (HB7.out.trans (hb8.mono HB7.out.size))
  have HZ8 := hHd (HZ7.out.below hb8 HZ7.out.lt)
  have HSZ := hHd HZ7.out.lt
  clear hb8 hr hl8 p0 p1 p2 p3 p4 p5 q0 q1 q2 q3 q4 q5 x0 x1 x2 x3 x4 x5
  have RZ : Hid (Blk (set6 w8 (w.heap.size + 2) (.string (txt ra.name)) (.string (txt ra.key)) (.int .i64 ra.kind) (.int .u64 (ra.num : Int)) (.string (txt ra.text)) (.slice A8 rf.len c8)) (w.heap.size + 2) 27 (cN ra (.slice A8 rf.len c8))) := hHd (HZ8.out.set6 _ _ _ _ _ _)
  have HBZ : Hid (Below w.heap.size w (set6 w8 (w.heap.size + 2) (.string (txt ra.name)) (.string (txt ra.key)) (.int .i64 ra.kind) (.int .u64 (ra.num : Int)) (.string (txt ra.text)) (.slice A8 rf.len c8))) := hHd (HB8.out.trans (set6_below (by omega)))
  have HLZ : Hid (LieQ d w.heap.size (set6 w8 (w.heap.size + 2) (.string (txt ra.name)) (.string (txt ra.key)) (.int .i64 ra.kind) (.int .u64 (ra.num : Int)) (.string (txt ra.text)) (.slice A8 rf.len c8)) (ndC ra (.slice A8 rf.len c8)) (ra, rf)) := hHd ((HL8.out.set6 (fun h9 => by have := HD.out _ h9; omega) HSZ.out _ _ _ _ _ _).after HB7.out.size)
  have fz0 : (w8).frozen? ⟨w.heap.size + 2, 0, none⟩ = false := HZ8.out.frozen 0
  have fq0 := (HZ8.out.cell 0).trans rfl
  have fz1 : (w8).frozen? ⟨w.heap.size + 2, 1, none⟩ = false := HZ8.out.frozen 1
  have fq1 := (HZ8.out.cell 1).trans rfl
  have fz2 : (w8).frozen? ⟨w.heap.size + 2, 2, none⟩ = false := HZ8.out.frozen 2
  have fq2 := (HZ8.out.cell 2).trans rfl
  have fz3 : (w8).frozen? ⟨w.heap.size + 2, 3, none⟩ = false := HZ8.out.frozen 3
  have fq3 := (HZ8.out.cell 3).trans rfl
  have fz4 : (w8).frozen? ⟨w.heap.size + 2, 4, none⟩ = false := HZ8.out.frozen 4
  have fq4 := (HZ8.out.cell 4).trans rfl
  have fz5 : (w8).frozen? ⟨w.heap.size + 2, 5, none⟩ = false := HZ8.out.frozen 5
  have fq5 := (HZ8.out.cell 5).trans rfl
  go_wp2
  refine bodyPost_ret (res_ct9 rfl _ _ (w.heap.size + 2) 27 _ (0, 0) _ rfl RZ.out Try.underlying27 rfl (by kernel_rfl)) rfl ?_
  exact ⟨_, rfl, HLZ.out, HBZ.out⟩
 ·skip
  -- the box was made behind the call
  clear hS
  have HX7 := hHd (HX6.out.alloc (.cells (cN pa (.slice A6 pf.len c6)) 27))
  have HE7 := hHd ((HE.out.below HW6.out HE.out.lt).alloc (.cells (cN pa (.slice A6 pf.len c6)) 27))
  have HZ7 := hHd ((HZ.out.below HW6.out HZ.out.lt).alloc (.cells (cN pa (.slice A6 pf.len c6)) 27))
  have HB7 := hHd (HB6.out.alloc HB6.out.size (.cells (cN pa (.slice A6 pf.len c6)) 27))
  have HP7 := hHd (Blk.new w6 27 (cN pa (.slice A6 pf.len c6)))
  revert HX7 HE7 HZ7 HB7 HP7
  generalize w6.alloc (.cells (cN pa (.slice A6 pf.len c6)) 27) = w7
  generalize w6.heap.size = pb
  intro HX7 HE7 HZ7 HB7 HP7
  obtain ⟨p0, p1, p2, p3, p4, p5⟩ := cl6 HP7.out
  obtain ⟨q0, q1, q2, q3, q4, q5⟩ := cl6 HX7.out
  obtain ⟨x0, x1, x2, x3, x4, x5⟩ := cl6 HE7.out
  go_wp2_with fail
  refine (HST.out w7 HB7.out).mono ?_
  intro r w8 hr
  obtain ⟨A8, c8, rfl, hl8, hb8⟩ := hr.flat
  have HL8 := hHd hl8
  have HB8 := hHd (HB7.out.trans (hb8.mono HB7.out.size))
  have HZ8 := hHd (HZ7.out.below hb8 HZ7.out.lt)
  have HSZ := hHd HZ7.out.lt
  clear hb8 hr hl8 p0 p1 p2 p3 p4 p5 q0 q1 q2 q3 q4 q5 x0 x1 x2 x3 x4 x5
  have RZ : Hid (Blk (set6 w8 (w.heap.size + 2) (.string (txt ra.name)) (.string (txt ra.key)) (.int .i64 ra.kind) (.int .u64 (ra.num : Int)) (.string (txt ra.text)) (.slice A8 rf.len c8)) (w.heap.size + 2) 27 (cN ra (.slice A8 rf.len c8))) := hHd (HZ8.out.set6 _ _ _ _ _ _)
  have HBZ : Hid (Below w.heap.size w (set6 w8 (w.heap.size + 2) (.string (txt ra.name)) (.string (txt ra.key)) (.int .i64 ra.kind) (.int .u64 (ra.num : Int)) (.string (txt ra.text)) (.slice A8 rf.len c8))) := hHd (HB8.out.trans (set6_below (by omega)))
  have HLZ : Hid (LieQ d w.heap.size (set6 w8 (w.heap.size + 2) (.string (txt ra.name)) (.string (txt ra.key)) (.int .i64 ra.kind) (.int .u64 (ra.num : Int)) (.string (txt ra.text)) (.slice A8 rf.len c8)) (ndC ra (.slice A8 rf.len c8)) (ra, rf)) := hHd ((HL8.out.set6 (fun h9 => by have := HD.out _ h9; omega) HSZ.out _ _ _ _ _ _).after HB7.out.size)
  have fz0 : (w8).frozen? ⟨w.heap.size + 2, 0, none⟩ = false := HZ8.out.frozen 0
  have fq0 := (HZ8.out.cell 0).trans rfl
  have fz1 : (w8).frozen? ⟨w.heap.size + 2, 1, none⟩ = false := HZ8.out.frozen 1
  have fq1 := (HZ8.out.cell 1).trans rfl
  have fz2 : (w8).frozen? ⟨w.heap.size + 2, 2, none⟩ = false := HZ8.out.frozen 2
  have fq2 := (HZ8.out.cell 2).trans rfl
  have fz3 : (w8).frozen? ⟨w.heap.size + 2, 3, none⟩ = false := HZ8.out.frozen 3
  have fq3 := (HZ8.out.cell 3).trans rfl
  have fz4 : (w8).frozen? ⟨w.heap.size + 2, 4, none⟩ = false := HZ8.out.frozen 4
  have fq4 := (HZ8.out.cell 4).trans rfl
  have fz5 : (w8).frozen? ⟨w.heap.size + 2, 5, none⟩ = false := HZ8.out.frozen 5
  have fq5 := (HZ8.out.cell 5).trans rfl
  go_wp2
  refine bodyPost_ret (res_ct9 rfl _ _ (w.heap.size + 2) 27 _ (0, 0) _ rfl RZ.out Try.underlying27 rfl (by kernel_rfl)) rfl ?_
  exact ⟨_, rfl, HLZ.out, HBZ.out⟩
end Go.Proofs.Ythmobcaidhgeaaa
