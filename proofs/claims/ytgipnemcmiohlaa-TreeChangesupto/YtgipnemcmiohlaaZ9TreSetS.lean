/- What the laws of package tree want of TreSetS. -/
import Derived.Test.YtgipnemcmiohlaaZ9TreSetR
namespace Go.Proofs.Ytgipnemcmiohlaa
open Go.RowKit
set_option linter.unusedSimpArgs false
set_option linter.unusedVariables false
theorem rset_any (d : Nat) (y : Nd) : ∀ (l : List Stp) (x : Nd) (cs ds : List Value) (v : Value) (w : World), d ≤ w.heap.size → LieB d w cs x → LieB d w ds y → WayV w.heap.size w v l → Few9 x → okSet x l y →
    Calls Try.prog 38 #[.agg cs.toArray, v, .agg ds.toArray] w (PTreP1 d (setX x l y) w) := by
  intro l
  induction l with
  | nil => intro x cs ds v w _ _ _ _ _ h; exact absurd rfl (ok_ne h)
  | cons s l ih =>
    intro x cs ds v w hd hx hy hv hfew hok
    obtain ⟨A, c, rfl, hk⟩ := hx.shape
    obtain ⟨E, ec, rfl, hk2⟩ := hy.shape
    obtain ⟨a, f⟩ := x
    obtain ⟨e, eg⟩ := y
    obtain ⟨B, m, rfl⟩ := hv.shape
    obtain ⟨g, o, rfl, hN, hNm, hg, hs1, hs2⟩ := hv.at (j := 0) (s := s) rfl
    have hl : f.len ≤ 1000000 := Nat.le_trans (Fr.len_size f) hfew
    cases l with
    | nil =>
      rw [set_one]
      obtain ⟨rfl, hk0⟩ := ok_one.1 hok
      cases hfi : findN (stp e) f with
      | none =>
        rw [show gtF (stp e) f = none from findN_none hfi]
        exact rset_ins d a e f eg A E c ec (stp e) g o _ m (insF (e, eg) f) w hd hx hy hl hv hfi (with_ins (y := (e, eg)))
      | some i =>
        obtain ⟨z, hz1, _, hz2⟩ := find_stp hfi
        rw [show gtF (stp e) f = some z from hz2]
        exact rset_rep d a e f eg A E c ec (stp e) g o _ m i (repF (stp e) (e, eg) f) w hd hx hy hl hv hfi (Fr.get_lt hz1) (with_rep hfi)
    | cons t l =>
      obtain ⟨z, h1, h2⟩ := ok_more.1 hok
      rw [set_more, h1]
      obtain ⟨i, hfi, hgi⟩ := getF_find h1
      obtain ⟨a1, q⟩ := z
      exact rset_deep d a e f eg A E c ec s t l g o _ m i a1 q (setX (a1, q) (t :: l) (e, eg)).1 (setX (a1, q) (t :: l) (e, eg)).2 _ w hd hx hy hl hv hfi hgi (with_rep hfi)
        (fun cs ds v W h3 h4 h5 h6 => ih (a1, q) cs ds v W h3 h4 h5 h6 (by have h4 : q.size < f.size := Fr.size_get hgi; have : f.size ≤ 1000000 := hfew; show q.size ≤ 1000000; omega) h2)
set_option maxRecDepth 100000 in
set_option maxHeartbeats 4000000 in
theorem rSet_nil (d : Nat) (a e : NdD) (f eg : NdF) (A E B : Option Addr) (c ec m : Nat) (w : World) (hd : d ≤ w.heap.size) (hx : LieB d w (ndC a (.slice A f.len c)) (a, f)) :
    Calls Try.prog 23 #[.agg #[.string (txt a.name), .string (txt a.key), .int .i64 a.kind, .int .u64 (a.num : Int), .string (txt a.text), .slice A f.len c], .slice B 0 m, .agg #[.string (txt e.name), .string (txt e.key), .int .i64 e.kind, .int .u64 (e.num : Int), .string (txt e.text), .slice E eg.len ec]] w (PTreP d noN (.int .i64 1) w) := by
  obtain ⟨h1, hbx, h2, h3, h4⟩ := set_boxes a e f eg A E c ec w (hx.keep (fun _ _ => rfl) hd)
  have HX := Lib.hid h1
  have HE := Lib.hid hbx
  have HZ := Lib.hid h2
  have HB := Lib.hid h3
  clear h1 hbx h2 h3 h4
  clear hx hd
  go_enter Try.func23, Try.ntmps23
  go_wp2_with fail
  go_region
  have HZd := Lib.hid (HZ.out.below (Below.refl _ _).drew HZ.out.lt)
  have HBd := Lib.hid HB.out.drew
  revert HZd HBd
  generalize (((w.alloc (.cells #[.string (txt a.name), .string (txt a.key), .int .i64 a.kind, .int .u64 (a.num : Int), .string (txt a.text), .slice A f.len c] 27)).alloc (.cells #[.string (txt e.name), .string (txt e.key), .int .i64 e.kind, .int .u64 (e.num : Int), .string (txt e.text), .slice E eg.len ec] 27)).alloc (.cells #[.string ⟨#[]⟩, .string ⟨#[]⟩, .int .i64 0, .int .u64 0, .string ⟨#[]⟩, .slice none 0 0] 27)).drew = w5
  intro HZd HBd
  have fz0 : (w5).frozen? ⟨w.heap.size + 2, 0, none⟩ = false := HZd.out.frozen 0
  have fq0 := (HZd.out.cell 0).trans rfl
  have fz1 : (w5).frozen? ⟨w.heap.size + 2, 1, none⟩ = false := HZd.out.frozen 1
  have fq1 := (HZd.out.cell 1).trans rfl
  have fz2 : (w5).frozen? ⟨w.heap.size + 2, 2, none⟩ = false := HZd.out.frozen 2
  have fq2 := (HZd.out.cell 2).trans rfl
  have fz3 : (w5).frozen? ⟨w.heap.size + 2, 3, none⟩ = false := HZd.out.frozen 3
  have fq3 := (HZd.out.cell 3).trans rfl
  have fz4 : (w5).frozen? ⟨w.heap.size + 2, 4, none⟩ = false := HZd.out.frozen 4
  have fq4 := (HZd.out.cell 4).trans rfl
  have fz5 : (w5).frozen? ⟨w.heap.size + 2, 5, none⟩ = false := HZd.out.frozen 5
  have fq5 := (HZd.out.cell 5).trans rfl
  go_wp2
  refine bodyPost_ret (res_ct9 rfl _ _ (w.heap.size + 2) 27 _ (0, 0) _ rfl (HZd.out.set6 _ _ _ _ _ _) Try.underlying27 rfl (by kernel_rfl)) rfl ?_
  exact ⟨_, rfl, (LieB.zero _ _).p _, HBd.out.trans (set6_below (by omega))⟩
set_option maxRecDepth 100000 in
set_option maxHeartbeats 4000000 in
theorem rSet_arg_name (d : Nat) (a e : NdD) (f eg : NdF) (A E : Option Addr) (c ec m g o n : Nat) (s : Stp) (w : World) (hd : d ≤ w.heap.size) (hx : LieB d w (ndC a (.slice A f.len c)) (a, f)) (hg : g < w.heap.size) (hs1 : w.cell? ⟨g, o + n * 2, none⟩ = some (.string (txt s.1))) (hs2 : w.cell? ⟨g, o + n * 2 + 1, none⟩ = some (.string (txt s.2))) (hn : n ≤ 1000000) (hm : n + 1 ≤ m) (h : (s.1 == e.name) = false) :
    Calls Try.prog 23 #[.agg #[.string (txt a.name), .string (txt a.key), .int .i64 a.kind, .int .u64 (a.num : Int), .string (txt a.text), .slice A f.len c], .slice (some ⟨g, o, none⟩) (n + 1) m, .agg #[.string (txt e.name), .string (txt e.key), .int .i64 e.kind, .int .u64 (e.num : Int), .string (txt e.text), .slice E eg.len ec]] w (PTreP d noN (.int .i64 1) w) := by
  obtain ⟨h1, hbx, h2, h3, h4⟩ := set_boxes a e f eg A E c ec w (hx.keep (fun _ _ => rfl) hd)
  have HX := Lib.hid h1
  have HE := Lib.hid hbx
  have HZ := Lib.hid h2
  have HB := Lib.hid h3
  clear h1 hbx h2 h3 h4
  -- the last step in memory
  have hst : Stp0 w g (o + n * 2) s := ⟨hs1, hs2⟩
  have HSt := Lib.hid (hst.below hg HB.out.drew)
  have hnm : n ≤ m := by omega
  have i1 : (0 : Int) ≤ (n : Int) := by omega
  have i2 : (n : Int) < (n : Int) + 1 := by omega
  have i3 : (n : Int) ≤ 1000000 := by omega
  have tn : (txt s.1).toList = s.1 := txt_toList _
  have tk : (txt s.2).toList = s.2 := txt_toList _
  have ta : (txt e.name).toList = e.name := txt_toList _
  have tb : (txt e.key).toList = e.key := txt_toList _
  have HW : Hid (IntKind.i64.wrap (n : Int) = (n : Int)) := Lib.hid (Go.IntWalk.i64_in _ (by omega))
  clear hx hd hst hs1 hs2
  go_enter Try.func23, Try.ntmps23
  go_wp2_with fail
  refine wp_region_noPanic ?_
  refine wp_region_held_drew (S := fun _ => True) (by kernel_rfl) trivial (fun hS => ?_)
  refine held_more (S' := fun w' => Blk w' (w.heap.size + 1) 27 #[.string (txt e.name), .string (txt e.key), .int .i64 e.kind, .int .u64 (e.num : Int), .string (txt e.text), .slice E eg.len ec] ∧ Stp0 w' g (o + n * 2) s) (fun _ _ => trivial) _ _ _ _ ?_
  replace hS := And.intro (HE.out.below (Below.refl _ _).drew HE.out.lt) HSt.out
  refine wpAnyH_take (i := 0) (oi := ?o1_0_1) (v := ?v1_0_1) ?i1_0_1 (by kernel_rfl) (by kernel_rfl) (by kernel_rfl) (fun _ _ _ h => h) (Or.inl ⟨?g1_0_1, ?y1_0_1⟩) hS ?_
  case i1_0_1 => simp only [List.getElem?_toArray, List.getElem?_cons_succ, List.getElem?_cons_zero]; rfl
  case g1_0_1 => rfl
  case y1_0_1 => (intro w hSw; (go_simp <;> with_reducible rfl))
  (try simp only [Act.put, List.setIfInBounds_toArray, List.set_cons_zero, List.set_cons_succ])
  refine wpAnyH_take (i := 1) (oi := ?o1_1_2) (v := ?v1_1_2) ?i1_1_2 (by kernel_rfl) (by kernel_rfl) (by kernel_rfl) (fun _ _ _ h => h) (Or.inl ⟨?g1_1_2, ?y1_1_2⟩) hS ?_
  case i1_1_2 => simp only [List.getElem?_toArray, List.getElem?_cons_succ, List.getElem?_cons_zero]; rfl
  case g1_1_2 => rfl
  case y1_1_2 => (intro w hSw; (go_simp <;> with_reducible rfl))
  (try simp only [Act.put, List.setIfInBounds_toArray, List.set_cons_zero, List.set_cons_succ])
  refine wpAnyH_take (i := 2) (oi := ?o1_2_3) (v := ?v1_2_3) ?i1_2_3 (by kernel_rfl) (by kernel_rfl) (by kernel_rfl) (fun _ _ _ h => h) (Or.inl ⟨?g1_2_3, ?y1_2_3⟩) hS ?_
  case i1_2_3 => simp only [List.getElem?_toArray, List.getElem?_cons_succ, List.getElem?_cons_zero]; rfl
  case g1_2_3 => rfl
  case y1_2_3 => (intro w hSw; (go_simp <;> with_reducible rfl))
  (try simp only [Act.put, List.setIfInBounds_toArray, List.set_cons_zero, List.set_cons_succ])
  refine wpAnyH_take (i := 3) (oi := ?o1_3_4) (v := ?v1_3_4) ?i1_3_4 (by kernel_rfl) (by kernel_rfl) (by kernel_rfl) (fun _ _ _ h => h) (Or.inl ⟨?g1_3_4, ?y1_3_4⟩) hS ?_
  case i1_3_4 => simp only [List.getElem?_toArray, List.getElem?_cons_succ, List.getElem?_cons_zero]; rfl
  case g1_3_4 => rfl
  case y1_3_4 => (intro w hSw; (go_simp <;> with_reducible rfl))
  (try simp only [Act.put, List.setIfInBounds_toArray, List.set_cons_zero, List.set_cons_succ])
  refine wpAnyH_take (i := 4) (oi := ?o1_4_5) (v := ?v1_4_5) ?i1_4_5 (by kernel_rfl) (by kernel_rfl) (by kernel_rfl) (fun _ _ _ h => h) (Or.inl ⟨?g1_4_5, ?y1_4_5⟩) hS ?_
  case i1_4_5 => simp only [List.getElem?_toArray, List.getElem?_cons_succ, List.getElem?_cons_zero]; rfl
  case g1_4_5 => rfl
  case y1_4_5 => (intro w hSw; (go_simp <;> with_reducible rfl))
  (try simp only [Act.put, List.setIfInBounds_toArray, List.set_cons_zero, List.set_cons_succ])
  refine wpAnyH_take (i := 5) (oi := ?o1_5_6) (v := ?v1_5_6) ?i1_5_6 (by kernel_rfl) (by kernel_rfl) (by kernel_rfl) (fun _ _ _ h => h) (Or.inl ⟨?g1_5_6, ?y1_5_6⟩) hS ?_
  case i1_5_6 => simp only [List.getElem?_toArray, List.getElem?_cons_succ, List.getElem?_cons_zero]; rfl
  case g1_5_6 => rfl
  case y1_5_6 => (intro w hSw; (go_simp <;> with_reducible rfl))
  (try simp only [Act.put, List.setIfInBounds_toArray, List.set_cons_zero, List.set_cons_succ])
  refine wpAnyH_take (i := 6) (oi := ?o1_6_7) (v := ?v1_6_7) ?i1_6_7 (by kernel_rfl) (by kernel_rfl) (by kernel_rfl) (fun _ _ _ h => h) (Or.inl ⟨?g1_6_7, ?y1_6_7⟩) hS ?_
  case i1_6_7 => simp only [List.getElem?_toArray, List.getElem?_cons_succ, List.getElem?_cons_zero]; rfl
  case g1_6_7 => rfl
  case y1_6_7 => (intro w hSw; (go_simp <;> with_reducible rfl))
  (try simp only [Act.put, List.setIfInBounds_toArray, List.set_cons_zero, List.set_cons_succ])
  refine wpAnyH_take (i := 7) (oi := ?o1_7_8) (v := ?v1_7_8) ?i1_7_8 (by kernel_rfl) (by kernel_rfl) (by kernel_rfl) (fun _ _ _ h => h) (Or.inl ⟨?g1_7_8, ?y1_7_8⟩) hS ?_
  case i1_7_8 => simp only [List.getElem?_toArray, List.getElem?_cons_succ, List.getElem?_cons_zero]; rfl
  case g1_7_8 => rfl
  case y1_7_8 => (intro w hSw; have q0 := hSw.2.1; (go_simp <;> with_reducible rfl))
  (try simp only [Act.put, List.setIfInBounds_toArray, List.set_cons_zero, List.set_cons_succ])
  refine wpAnyH_take (i := 8) (oi := ?o1_8_9) (v := ?v1_8_9) ?i1_8_9 (by kernel_rfl) (by kernel_rfl) (by kernel_rfl) (fun _ _ _ h => h) (Or.inl ⟨?g1_8_9, ?y1_8_9⟩) hS ?_
  case i1_8_9 => simp only [List.getElem?_toArray, List.getElem?_cons_succ, List.getElem?_cons_zero]; rfl
  case g1_8_9 => rfl
  case y1_8_9 => (intro w hSw; (go_simp <;> with_reducible rfl))
  (try simp only [Act.put, List.setIfInBounds_toArray, List.set_cons_zero, List.set_cons_succ])
  refine wpAnyH_take (i := 9) (oi := ?o1_9_10) (v := ?v1_9_10) ?i1_9_10 (by kernel_rfl) (by kernel_rfl) (by kernel_rfl) (fun _ _ _ h => h) (Or.inl ⟨?g1_9_10, ?y1_9_10⟩) hS ?_
  case i1_9_10 => simp only [List.getElem?_toArray, List.getElem?_cons_succ, List.getElem?_cons_zero]; rfl
  case g1_9_10 => rfl
  case y1_9_10 => (intro w hSw; have q0 := (hSw.1.cell 0).trans rfl; (go_simp <;> with_reducible rfl))
  (try simp only [Act.put, List.setIfInBounds_toArray, List.set_cons_zero, List.set_cons_succ])
  refine wpAnyH_take (i := 10) (oi := ?o1_10_11) (v := ?v1_10_11) ?i1_10_11 (by kernel_rfl) (by kernel_rfl) (by kernel_rfl) (fun _ _ _ h => h) (Or.inl ⟨?g1_10_11, ?y1_10_11⟩) hS ?_
  case i1_10_11 => simp only [List.getElem?_toArray, List.getElem?_cons_succ, List.getElem?_cons_zero]; rfl
  case g1_10_11 => rfl
  case y1_10_11 => (intro w hSw; (go_simp <;> with_reducible rfl))
  (try simp only [Act.put, List.setIfInBounds_toArray, List.set_cons_zero, List.set_cons_succ])
  refine wpAnyH_take (i := 11) (oi := ?o1_11_12) (v := ?v1_11_12) ?i1_11_12 (by kernel_rfl) (by kernel_rfl) (by kernel_rfl) (fun _ _ _ h => h) (Or.inl ⟨?g1_11_12, ?y1_11_12⟩) hS ?_
  case i1_11_12 => simp only [List.getElem?_toArray, List.getElem?_cons_succ, List.getElem?_cons_zero]; rfl
  case g1_11_12 => rfl
  case y1_11_12 => (intro w hSw; (go_simp <;> with_reducible rfl))
  (try simp only [Act.put, List.setIfInBounds_toArray, List.set_cons_zero, List.set_cons_succ])
  refine wpAnyH_take (i := 12) (oi := ?o1_12_13) (v := ?v1_12_13) ?i1_12_13 (by kernel_rfl) (by kernel_rfl) (by kernel_rfl) (fun _ _ _ h => h) (Or.inl ⟨?g1_12_13, ?y1_12_13⟩) hS ?_
  case i1_12_13 => simp only [List.getElem?_toArray, List.getElem?_cons_succ, List.getElem?_cons_zero]; rfl
  case g1_12_13 => rfl
  case y1_12_13 => (intro w hSw; (go_simp <;> with_reducible rfl))
  (try simp only [Act.put, List.setIfInBounds_toArray, List.set_cons_zero, List.set_cons_succ])
  refine wpAnyH_take (i := 13) (oi := ?o1_13_14) (v := undef) ?i1_13_14 (by kernel_rfl) (by kernel_rfl) (by kernel_rfl) (fun _ _ _ h => h) (Or.inr ⟨?g1_13_14, rfl⟩) hS ?_
  case i1_13_14 => simp only [List.getElem?_toArray, List.getElem?_cons_succ, List.getElem?_cons_zero]; rfl
  case g1_13_14 => rfl
  (try simp only [Act.put, List.setIfInBounds_toArray, List.set_cons_zero, List.set_cons_succ])
  refine wpAnyH_take (i := 14) (oi := ?o1_14_15) (v := undef) ?i1_14_15 (by kernel_rfl) (by kernel_rfl) (by kernel_rfl) (fun _ _ _ h => h) (Or.inr ⟨?g1_14_15, rfl⟩) hS ?_
  case i1_14_15 => simp only [List.getElem?_toArray, List.getElem?_cons_succ, List.getElem?_cons_zero]; rfl
  case g1_14_15 => rfl
  (try simp only [Act.put, List.setIfInBounds_toArray, List.set_cons_zero, List.set_cons_succ])
  refine wpAnyH_take (i := 15) (oi := ?o1_15_16) (v := undef) ?i1_15_16 (by kernel_rfl) (by kernel_rfl) (by kernel_rfl) (fun _ _ _ h => h) (Or.inr ⟨?g1_15_16, rfl⟩) hS ?_
  case i1_15_16 => simp only [List.getElem?_toArray, List.getElem?_cons_succ, List.getElem?_cons_zero]; rfl
  case g1_15_16 => rfl
  (try simp only [Act.put, List.setIfInBounds_toArray, List.set_cons_zero, List.set_cons_succ])
  refine wpAnyH_take (i := 16) (oi := ?o1_16_17) (v := undef) ?i1_16_17 (by kernel_rfl) (by kernel_rfl) (by kernel_rfl) (fun _ _ _ h => h) (Or.inr ⟨?g1_16_17, rfl⟩) hS ?_
  case i1_16_17 => simp only [List.getElem?_toArray, List.getElem?_cons_succ, List.getElem?_cons_zero]; rfl
  case g1_16_17 => rfl
  (try simp only [Act.put, List.setIfInBounds_toArray, List.set_cons_zero, List.set_cons_succ])
  refine wpAnyH_take (i := 17) (oi := ?o1_17_18) (v := undef) ?i1_17_18 (by kernel_rfl) (by kernel_rfl) (by kernel_rfl) (fun _ _ _ h => h) (Or.inr ⟨?g1_17_18, rfl⟩) hS ?_
  case i1_17_18 => simp only [List.getElem?_toArray, List.getElem?_cons_succ, List.getElem?_cons_zero]; rfl
  case g1_17_18 => rfl
  (try simp only [Act.put, List.setIfInBounds_toArray, List.set_cons_zero, List.set_cons_succ])
  refine wpAnyH_take (i := 18) (oi := ?o1_18_19) (v := undef) ?i1_18_19 (by kernel_rfl) (by kernel_rfl) (by kernel_rfl) (fun _ _ _ h => h) (Or.inr ⟨?g1_18_19, rfl⟩) hS ?_
  case i1_18_19 => simp only [List.getElem?_toArray, List.getElem?_cons_succ, List.getElem?_cons_zero]; rfl
  case g1_18_19 => rfl
  (try simp only [Act.put, List.setIfInBounds_toArray, List.set_cons_zero, List.set_cons_succ])
  refine wpAnyH_take (i := 19) (oi := ?o1_19_20) (v := undef) ?i1_19_20 (by kernel_rfl) (by kernel_rfl) (by kernel_rfl) (fun _ _ _ h => h) (Or.inr ⟨?g1_19_20, rfl⟩) hS ?_
  case i1_19_20 => simp only [List.getElem?_toArray, List.getElem?_cons_succ, List.getElem?_cons_zero]; rfl
  case g1_19_20 => rfl
  (try simp only [Act.put, List.setIfInBounds_toArray, List.set_cons_zero, List.set_cons_succ])
  refine wpAnyH_take (i := 20) (oi := ?o1_20_21) (v := undef) ?i1_20_21 (by kernel_rfl) (by kernel_rfl) (by kernel_rfl) (fun _ _ _ h => h) (Or.inr ⟨?g1_20_21, rfl⟩) hS ?_
  case i1_20_21 => simp only [List.getElem?_toArray, List.getElem?_cons_succ, List.getElem?_cons_zero]; rfl
  case g1_20_21 => rfl
  (try simp only [Act.put, List.setIfInBounds_toArray, List.set_cons_zero, List.set_cons_succ])
  refine wpAnyH_take (i := 21) (oi := ?o1_21_22) (v := ?v1_21_22) ?i1_21_22 (by kernel_rfl) (by kernel_rfl) (by kernel_rfl) (fun _ _ _ h => h) (Or.inl ⟨?g1_21_22, ?y1_21_22⟩) hS ?_
  case i1_21_22 => simp only [List.getElem?_toArray, List.getElem?_cons_succ, List.getElem?_cons_zero]; rfl
  case g1_21_22 => rfl
  case y1_21_22 => (intro w hSw; (go_simp <;> with_reducible rfl))
  (try simp only [Act.put, List.setIfInBounds_toArray, List.set_cons_zero, List.set_cons_succ])
  refine wpAnyH_done (by kernel_rfl) ?_ _
  refine NoPanic.normal ?_
  clear hS
  have HZd := Lib.hid (HZ.out.below (Below.refl _ _).drew HZ.out.lt)
  have HBd := Lib.hid HB.out.drew
  revert HZd HBd
  generalize (((w.alloc (.cells #[.string (txt a.name), .string (txt a.key), .int .i64 a.kind, .int .u64 (a.num : Int), .string (txt a.text), .slice A f.len c] 27)).alloc (.cells #[.string (txt e.name), .string (txt e.key), .int .i64 e.kind, .int .u64 (e.num : Int), .string (txt e.text), .slice E eg.len ec] 27)).alloc (.cells #[.string ⟨#[]⟩, .string ⟨#[]⟩, .int .i64 0, .int .u64 0, .string ⟨#[]⟩, .slice none 0 0] 27)).drew = w5
  intro HZd HBd
  have fz0 : (w5).frozen? ⟨w.heap.size + 2, 0, none⟩ = false := HZd.out.frozen 0
  have fq0 := (HZd.out.cell 0).trans rfl
  have fz1 : (w5).frozen? ⟨w.heap.size + 2, 1, none⟩ = false := HZd.out.frozen 1
  have fq1 := (HZd.out.cell 1).trans rfl
  have fz2 : (w5).frozen? ⟨w.heap.size + 2, 2, none⟩ = false := HZd.out.frozen 2
  have fq2 := (HZd.out.cell 2).trans rfl
  have fz3 : (w5).frozen? ⟨w.heap.size + 2, 3, none⟩ = false := HZd.out.frozen 3
  have fq3 := (HZd.out.cell 3).trans rfl
  have fz4 : (w5).frozen? ⟨w.heap.size + 2, 4, none⟩ = false := HZd.out.frozen 4
  have fq4 := (HZd.out.cell 4).trans rfl
  have fz5 : (w5).frozen? ⟨w.heap.size + 2, 5, none⟩ = false := HZd.out.frozen 5
  have fq5 := (HZd.out.cell 5).trans rfl
  go_wp2
  refine bodyPost_ret (res_ct9 rfl _ _ (w.heap.size + 2) 27 _ (0, 0) _ rfl (HZd.out.set6 _ _ _ _ _ _) Try.underlying27 rfl (by kernel_rfl)) rfl ?_
  exact ⟨_, rfl, (LieB.zero _ _).p _, HBd.out.trans (set6_below (by omega))⟩
set_option maxRecDepth 100000 in
set_option maxHeartbeats 4000000 in
theorem rSet_arg_key (d : Nat) (a e : NdD) (f eg : NdF) (A E : Option Addr) (c ec m g o n : Nat) (s : Stp) (w : World) (hd : d ≤ w.heap.size) (hx : LieB d w (ndC a (.slice A f.len c)) (a, f)) (hg : g < w.heap.size) (hs1 : w.cell? ⟨g, o + n * 2, none⟩ = some (.string (txt s.1))) (hs2 : w.cell? ⟨g, o + n * 2 + 1, none⟩ = some (.string (txt s.2))) (hn : n ≤ 1000000) (hm : n + 1 ≤ m) (h : (s.1 == e.name) = true) (h' : (s.2 == e.key) = false) :
    Calls Try.prog 23 #[.agg #[.string (txt a.name), .string (txt a.key), .int .i64 a.kind, .int .u64 (a.num : Int), .string (txt a.text), .slice A f.len c], .slice (some ⟨g, o, none⟩) (n + 1) m, .agg #[.string (txt e.name), .string (txt e.key), .int .i64 e.kind, .int .u64 (e.num : Int), .string (txt e.text), .slice E eg.len ec]] w (PTreP d noN (.int .i64 1) w) := by
  obtain ⟨h1, hbx, h2, h3, h4⟩ := set_boxes a e f eg A E c ec w (hx.keep (fun _ _ => rfl) hd)
  have HX := Lib.hid h1
  have HE := Lib.hid hbx
  have HZ := Lib.hid h2
  have HB := Lib.hid h3
  clear h1 hbx h2 h3 h4
  -- the last step in memory
  have hst : Stp0 w g (o + n * 2) s := ⟨hs1, hs2⟩
  have HSt := Lib.hid (hst.below hg HB.out.drew)
  have hnm : n ≤ m := by omega
  have i1 : (0 : Int) ≤ (n : Int) := by omega
  have i2 : (n : Int) < (n : Int) + 1 := by omega
  have i3 : (n : Int) ≤ 1000000 := by omega
  have tn : (txt s.1).toList = s.1 := txt_toList _
  have tk : (txt s.2).toList = s.2 := txt_toList _
  have ta : (txt e.name).toList = e.name := txt_toList _
  have tb : (txt e.key).toList = e.key := txt_toList _
  have HW : Hid (IntKind.i64.wrap (n : Int) = (n : Int)) := Lib.hid (Go.IntWalk.i64_in _ (by omega))
  clear hx hd hst hs1 hs2
  go_enter Try.func23, Try.ntmps23
  go_wp2_with fail
  refine wp_region_noPanic ?_
  refine wp_region_held_drew (S := fun _ => True) (by kernel_rfl) trivial (fun hS => ?_)
  refine held_more (S' := fun w' => Blk w' (w.heap.size + 1) 27 #[.string (txt e.name), .string (txt e.key), .int .i64 e.kind, .int .u64 (e.num : Int), .string (txt e.text), .slice E eg.len ec] ∧ Stp0 w' g (o + n * 2) s) (fun _ _ => trivial) _ _ _ _ ?_
  replace hS := And.intro (HE.out.below (Below.refl _ _).drew HE.out.lt) HSt.out
  refine wpAnyH_take (i := 0) (oi := ?o2_0_1) (v := ?v2_0_1) ?i2_0_1 (by kernel_rfl) (by kernel_rfl) (by kernel_rfl) (fun _ _ _ h => h) (Or.inl ⟨?g2_0_1, ?y2_0_1⟩) hS ?_
  case i2_0_1 => simp only [List.getElem?_toArray, List.getElem?_cons_succ, List.getElem?_cons_zero]; rfl
  case g2_0_1 => rfl
  case y2_0_1 => (intro w hSw; (go_simp <;> with_reducible rfl))
  (try simp only [Act.put, List.setIfInBounds_toArray, List.set_cons_zero, List.set_cons_succ])
  refine wpAnyH_take (i := 1) (oi := ?o2_1_2) (v := ?v2_1_2) ?i2_1_2 (by kernel_rfl) (by kernel_rfl) (by kernel_rfl) (fun _ _ _ h => h) (Or.inl ⟨?g2_1_2, ?y2_1_2⟩) hS ?_
  case i2_1_2 => simp only [List.getElem?_toArray, List.getElem?_cons_succ, List.getElem?_cons_zero]; rfl
  case g2_1_2 => rfl
  case y2_1_2 => (intro w hSw; (go_simp <;> with_reducible rfl))
  (try simp only [Act.put, List.setIfInBounds_toArray, List.set_cons_zero, List.set_cons_succ])
  refine wpAnyH_take (i := 2) (oi := ?o2_2_3) (v := ?v2_2_3) ?i2_2_3 (by kernel_rfl) (by kernel_rfl) (by kernel_rfl) (fun _ _ _ h => h) (Or.inl ⟨?g2_2_3, ?y2_2_3⟩) hS ?_
  case i2_2_3 => simp only [List.getElem?_toArray, List.getElem?_cons_succ, List.getElem?_cons_zero]; rfl
  case g2_2_3 => rfl
  case y2_2_3 => (intro w hSw; (go_simp <;> with_reducible rfl))
  (try simp only [Act.put, List.setIfInBounds_toArray, List.set_cons_zero, List.set_cons_succ])
  refine wpAnyH_take (i := 3) (oi := ?o2_3_4) (v := ?v2_3_4) ?i2_3_4 (by kernel_rfl) (by kernel_rfl) (by kernel_rfl) (fun _ _ _ h => h) (Or.inl ⟨?g2_3_4, ?y2_3_4⟩) hS ?_
  case i2_3_4 => simp only [List.getElem?_toArray, List.getElem?_cons_succ, List.getElem?_cons_zero]; rfl
  case g2_3_4 => rfl
  case y2_3_4 => (intro w hSw; (go_simp <;> with_reducible rfl))
  (try simp only [Act.put, List.setIfInBounds_toArray, List.set_cons_zero, List.set_cons_succ])
  refine wpAnyH_take (i := 4) (oi := ?o2_4_5) (v := ?v2_4_5) ?i2_4_5 (by kernel_rfl) (by kernel_rfl) (by kernel_rfl) (fun _ _ _ h => h) (Or.inl ⟨?g2_4_5, ?y2_4_5⟩) hS ?_
  case i2_4_5 => simp only [List.getElem?_toArray, List.getElem?_cons_succ, List.getElem?_cons_zero]; rfl
  case g2_4_5 => rfl
  case y2_4_5 => (intro w hSw; (go_simp <;> with_reducible rfl))
  (try simp only [Act.put, List.setIfInBounds_toArray, List.set_cons_zero, List.set_cons_succ])
  refine wpAnyH_take (i := 5) (oi := ?o2_5_6) (v := ?v2_5_6) ?i2_5_6 (by kernel_rfl) (by kernel_rfl) (by kernel_rfl) (fun _ _ _ h => h) (Or.inl ⟨?g2_5_6, ?y2_5_6⟩) hS ?_
  case i2_5_6 => simp only [List.getElem?_toArray, List.getElem?_cons_succ, List.getElem?_cons_zero]; rfl
  case g2_5_6 => rfl
  case y2_5_6 => (intro w hSw; (go_simp <;> with_reducible rfl))
  (try simp only [Act.put, List.setIfInBounds_toArray, List.set_cons_zero, List.set_cons_succ])
  refine wpAnyH_take (i := 6) (oi := ?o2_6_7) (v := ?v2_6_7) ?i2_6_7 (by kernel_rfl) (by kernel_rfl) (by kernel_rfl) (fun _ _ _ h => h) (Or.inl ⟨?g2_6_7, ?y2_6_7⟩) hS ?_
  case i2_6_7 => simp only [List.getElem?_toArray, List.getElem?_cons_succ, List.getElem?_cons_zero]; rfl
  case g2_6_7 => rfl
  case y2_6_7 => (intro w hSw; (go_simp <;> with_reducible rfl))
  (try simp only [Act.put, List.setIfInBounds_toArray, List.set_cons_zero, List.set_cons_succ])
  refine wpAnyH_take (i := 7) (oi := ?o2_7_8) (v := ?v2_7_8) ?i2_7_8 (by kernel_rfl) (by kernel_rfl) (by kernel_rfl) (fun _ _ _ h => h) (Or.inl ⟨?g2_7_8, ?y2_7_8⟩) hS ?_
  case i2_7_8 => simp only [List.getElem?_toArray, List.getElem?_cons_succ, List.getElem?_cons_zero]; rfl
  case g2_7_8 => rfl
  case y2_7_8 => (intro w hSw; have q0 := hSw.2.1; (go_simp <;> with_reducible rfl))
  (try simp only [Act.put, List.setIfInBounds_toArray, List.set_cons_zero, List.set_cons_succ])
  refine wpAnyH_take (i := 8) (oi := ?o2_8_9) (v := ?v2_8_9) ?i2_8_9 (by kernel_rfl) (by kernel_rfl) (by kernel_rfl) (fun _ _ _ h => h) (Or.inl ⟨?g2_8_9, ?y2_8_9⟩) hS ?_
  case i2_8_9 => simp only [List.getElem?_toArray, List.getElem?_cons_succ, List.getElem?_cons_zero]; rfl
  case g2_8_9 => rfl
  case y2_8_9 => (intro w hSw; (go_simp <;> with_reducible rfl))
  (try simp only [Act.put, List.setIfInBounds_toArray, List.set_cons_zero, List.set_cons_succ])
  refine wpAnyH_take (i := 9) (oi := ?o2_9_10) (v := ?v2_9_10) ?i2_9_10 (by kernel_rfl) (by kernel_rfl) (by kernel_rfl) (fun _ _ _ h => h) (Or.inl ⟨?g2_9_10, ?y2_9_10⟩) hS ?_
  case i2_9_10 => simp only [List.getElem?_toArray, List.getElem?_cons_succ, List.getElem?_cons_zero]; rfl
  case g2_9_10 => rfl
  case y2_9_10 => (intro w hSw; have q0 := (hSw.1.cell 0).trans rfl; (go_simp <;> with_reducible rfl))
  (try simp only [Act.put, List.setIfInBounds_toArray, List.set_cons_zero, List.set_cons_succ])
  refine wpAnyH_take (i := 10) (oi := ?o2_10_11) (v := ?v2_10_11) ?i2_10_11 (by kernel_rfl) (by kernel_rfl) (by kernel_rfl) (fun _ _ _ h => h) (Or.inl ⟨?g2_10_11, ?y2_10_11⟩) hS ?_
  case i2_10_11 => simp only [List.getElem?_toArray, List.getElem?_cons_succ, List.getElem?_cons_zero]; rfl
  case g2_10_11 => rfl
  case y2_10_11 => (intro w hSw; (go_simp <;> with_reducible rfl))
  (try simp only [Act.put, List.setIfInBounds_toArray, List.set_cons_zero, List.set_cons_succ])
  refine wpAnyH_take (i := 11) (oi := ?o2_11_12) (v := ?v2_11_12) ?i2_11_12 (by kernel_rfl) (by kernel_rfl) (by kernel_rfl) (fun _ _ _ h => h) (Or.inl ⟨?g2_11_12, ?y2_11_12⟩) hS ?_
  case i2_11_12 => simp only [List.getElem?_toArray, List.getElem?_cons_succ, List.getElem?_cons_zero]; rfl
  case g2_11_12 => rfl
  case y2_11_12 => (intro w hSw; (go_simp <;> with_reducible rfl))
  (try simp only [Act.put, List.setIfInBounds_toArray, List.set_cons_zero, List.set_cons_succ])
  refine wpAnyH_take (i := 12) (oi := ?o2_12_13) (v := ?v2_12_13) ?i2_12_13 (by kernel_rfl) (by kernel_rfl) (by kernel_rfl) (fun _ _ _ h => h) (Or.inl ⟨?g2_12_13, ?y2_12_13⟩) hS ?_
  case i2_12_13 => simp only [List.getElem?_toArray, List.getElem?_cons_succ, List.getElem?_cons_zero]; rfl
  case g2_12_13 => rfl
  case y2_12_13 => (intro w hSw; (go_simp <;> with_reducible rfl))
  (try simp only [Act.put, List.setIfInBounds_toArray, List.set_cons_zero, List.set_cons_succ])
  refine wpAnyH_take (i := 13) (oi := ?o2_13_14) (v := ?v2_13_14) ?i2_13_14 (by kernel_rfl) (by kernel_rfl) (by kernel_rfl) (fun _ _ _ h => h) (Or.inl ⟨?g2_13_14, ?y2_13_14⟩) hS ?_
  case i2_13_14 => simp only [List.getElem?_toArray, List.getElem?_cons_succ, List.getElem?_cons_zero]; rfl
  case g2_13_14 => rfl
  case y2_13_14 => (intro w hSw; (go_simp <;> with_reducible rfl))
  (try simp only [Act.put, List.setIfInBounds_toArray, List.set_cons_zero, List.set_cons_succ])
  refine wpAnyH_take (i := 14) (oi := ?o2_14_15) (v := ?v2_14_15) ?i2_14_15 (by kernel_rfl) (by kernel_rfl) (by kernel_rfl) (fun _ _ _ h => h) (Or.inl ⟨?g2_14_15, ?y2_14_15⟩) hS ?_
  case i2_14_15 => simp only [List.getElem?_toArray, List.getElem?_cons_succ, List.getElem?_cons_zero]; rfl
  case g2_14_15 => rfl
  case y2_14_15 => (intro w hSw; (go_simp <;> with_reducible rfl))
  (try simp only [Act.put, List.setIfInBounds_toArray, List.set_cons_zero, List.set_cons_succ])
  refine wpAnyH_take (i := 15) (oi := ?o2_15_16) (v := ?v2_15_16) ?i2_15_16 (by kernel_rfl) (by kernel_rfl) (by kernel_rfl) (fun _ _ _ h => h) (Or.inl ⟨?g2_15_16, ?y2_15_16⟩) hS ?_
  case i2_15_16 => simp only [List.getElem?_toArray, List.getElem?_cons_succ, List.getElem?_cons_zero]; rfl
  case g2_15_16 => rfl
  case y2_15_16 => (intro w hSw; (go_simp <;> with_reducible rfl))
  (try simp only [Act.put, List.setIfInBounds_toArray, List.set_cons_zero, List.set_cons_succ])
  refine wpAnyH_take (i := 16) (oi := ?o2_16_17) (v := ?v2_16_17) ?i2_16_17 (by kernel_rfl) (by kernel_rfl) (by kernel_rfl) (fun _ _ _ h => h) (Or.inl ⟨?g2_16_17, ?y2_16_17⟩) hS ?_
  case i2_16_17 => simp only [List.getElem?_toArray, List.getElem?_cons_succ, List.getElem?_cons_zero]; rfl
  case g2_16_17 => rfl
  case y2_16_17 => (intro w hSw; (go_simp <;> with_reducible rfl))
  (try simp only [Act.put, List.setIfInBounds_toArray, List.set_cons_zero, List.set_cons_succ])
  refine wpAnyH_take (i := 17) (oi := ?o2_17_18) (v := ?v2_17_18) ?i2_17_18 (by kernel_rfl) (by kernel_rfl) (by kernel_rfl) (fun _ _ _ h => h) (Or.inl ⟨?g2_17_18, ?y2_17_18⟩) hS ?_
  case i2_17_18 => simp only [List.getElem?_toArray, List.getElem?_cons_succ, List.getElem?_cons_zero]; rfl
  case g2_17_18 => rfl
  case y2_17_18 => (intro w hSw; have q0 := hSw.2.2; (go_simp <;> with_reducible rfl))
  (try simp only [Act.put, List.setIfInBounds_toArray, List.set_cons_zero, List.set_cons_succ])
  refine wpAnyH_take (i := 18) (oi := ?o2_18_19) (v := ?v2_18_19) ?i2_18_19 (by kernel_rfl) (by kernel_rfl) (by kernel_rfl) (fun _ _ _ h => h) (Or.inl ⟨?g2_18_19, ?y2_18_19⟩) hS ?_
  case i2_18_19 => simp only [List.getElem?_toArray, List.getElem?_cons_succ, List.getElem?_cons_zero]; rfl
  case g2_18_19 => rfl
  case y2_18_19 => (intro w hSw; (go_simp <;> with_reducible rfl))
  (try simp only [Act.put, List.setIfInBounds_toArray, List.set_cons_zero, List.set_cons_succ])
  refine wpAnyH_take (i := 19) (oi := ?o2_19_20) (v := ?v2_19_20) ?i2_19_20 (by kernel_rfl) (by kernel_rfl) (by kernel_rfl) (fun _ _ _ h => h) (Or.inl ⟨?g2_19_20, ?y2_19_20⟩) hS ?_
  case i2_19_20 => simp only [List.getElem?_toArray, List.getElem?_cons_succ, List.getElem?_cons_zero]; rfl
  case g2_19_20 => rfl
  case y2_19_20 => (intro w hSw; have q0 := (hSw.1.cell 1).trans rfl; (go_simp <;> with_reducible rfl))
  (try simp only [Act.put, List.setIfInBounds_toArray, List.set_cons_zero, List.set_cons_succ])
  refine wpAnyH_take (i := 20) (oi := ?o2_20_21) (v := ?v2_20_21) ?i2_20_21 (by kernel_rfl) (by kernel_rfl) (by kernel_rfl) (fun _ _ _ h => h) (Or.inl ⟨?g2_20_21, ?y2_20_21⟩) hS ?_
  case i2_20_21 => simp only [List.getElem?_toArray, List.getElem?_cons_succ, List.getElem?_cons_zero]; rfl
  case g2_20_21 => rfl
  case y2_20_21 => (intro w hSw; (go_simp <;> with_reducible rfl))
  (try simp only [Act.put, List.setIfInBounds_toArray, List.set_cons_zero, List.set_cons_succ])
  refine wpAnyH_take (i := 21) (oi := ?o2_21_22) (v := ?v2_21_22) ?i2_21_22 (by kernel_rfl) (by kernel_rfl) (by kernel_rfl) (fun _ _ _ h => h) (Or.inl ⟨?g2_21_22, ?y2_21_22⟩) hS ?_
  case i2_21_22 => simp only [List.getElem?_toArray, List.getElem?_cons_succ, List.getElem?_cons_zero]; rfl
  case g2_21_22 => rfl
  case y2_21_22 => (intro w hSw; (go_simp <;> with_reducible rfl))
  (try simp only [Act.put, List.setIfInBounds_toArray, List.set_cons_zero, List.set_cons_succ])
  refine wpAnyH_done (by kernel_rfl) ?_ _
  refine NoPanic.normal ?_
  clear hS
  have HZd := Lib.hid (HZ.out.below (Below.refl _ _).drew HZ.out.lt)
  have HBd := Lib.hid HB.out.drew
  revert HZd HBd
  generalize (((w.alloc (.cells #[.string (txt a.name), .string (txt a.key), .int .i64 a.kind, .int .u64 (a.num : Int), .string (txt a.text), .slice A f.len c] 27)).alloc (.cells #[.string (txt e.name), .string (txt e.key), .int .i64 e.kind, .int .u64 (e.num : Int), .string (txt e.text), .slice E eg.len ec] 27)).alloc (.cells #[.string ⟨#[]⟩, .string ⟨#[]⟩, .int .i64 0, .int .u64 0, .string ⟨#[]⟩, .slice none 0 0] 27)).drew = w5
  intro HZd HBd
  have fz0 : (w5).frozen? ⟨w.heap.size + 2, 0, none⟩ = false := HZd.out.frozen 0
  have fq0 := (HZd.out.cell 0).trans rfl
  have fz1 : (w5).frozen? ⟨w.heap.size + 2, 1, none⟩ = false := HZd.out.frozen 1
  have fq1 := (HZd.out.cell 1).trans rfl
  have fz2 : (w5).frozen? ⟨w.heap.size + 2, 2, none⟩ = false := HZd.out.frozen 2
  have fq2 := (HZd.out.cell 2).trans rfl
  have fz3 : (w5).frozen? ⟨w.heap.size + 2, 3, none⟩ = false := HZd.out.frozen 3
  have fq3 := (HZd.out.cell 3).trans rfl
  have fz4 : (w5).frozen? ⟨w.heap.size + 2, 4, none⟩ = false := HZd.out.frozen 4
  have fq4 := (HZd.out.cell 4).trans rfl
  have fz5 : (w5).frozen? ⟨w.heap.size + 2, 5, none⟩ = false := HZd.out.frozen 5
  have fq5 := (HZd.out.cell 5).trans rfl
  go_wp2
  refine bodyPost_ret (res_ct9 rfl _ _ (w.heap.size + 2) 27 _ (0, 0) _ rfl (HZd.out.set6 _ _ _ _ _ _) Try.underlying27 rfl (by kernel_rfl)) rfl ?_
  exact ⟨_, rfl, (LieB.zero _ _).p _, HBd.out.trans (set6_below (by omega))⟩
set_option maxRecDepth 100000 in
set_option maxHeartbeats 4000000 in
theorem rSet_none (d : Nat) (a e : NdD) (f eg : NdF) (A E : Option Addr) (c ec m g o n : Nat) (s : Stp) (pa : NdD) (pf : NdF) (w : World) (hd : d ≤ w.heap.size) (hx : LieB d w (ndC a (.slice A f.len c)) (a, f)) (hg : g < w.heap.size) (hs1 : w.cell? ⟨g, o + n * 2, none⟩ = some (.string (txt s.1))) (hs2 : w.cell? ⟨g, o + n * 2 + 1, none⟩ = some (.string (txt s.2))) (hn : n ≤ 1000000) (hm : n + 1 ≤ m)
    (h : (s.1 == e.name) = true) (h' : (s.2 == e.key) = true) 
    (hG : ∀ W, Below w.heap.size w W → Calls Try.prog 21 #[.agg #[.string (txt a.name), .string (txt a.key), .int .i64 a.kind, .int .u64 (a.num : Int), .string (txt a.text), .slice A f.len c], .slice (some ⟨g, o, none⟩) n m] W (PTreP d (pa, pf) (.bool false) W)) :
    Calls Try.prog 23 #[.agg #[.string (txt a.name), .string (txt a.key), .int .i64 a.kind, .int .u64 (a.num : Int), .string (txt a.text), .slice A f.len c], .slice (some ⟨g, o, none⟩) (n + 1) m, .agg #[.string (txt e.name), .string (txt e.key), .int .i64 e.kind, .int .u64 (e.num : Int), .string (txt e.text), .slice E eg.len ec]] w (PTreP d noN (.int .i64 30) w) := by
  obtain ⟨h1, hbx, h2, h3, h4⟩ := set_boxes a e f eg A E c ec w (hx.keep (fun _ _ => rfl) hd)
  have HX := Lib.hid h1
  have HE := Lib.hid hbx
  have HZ := Lib.hid h2
  have HB := Lib.hid h3
  clear h1 hbx h2 h3 h4
  -- the last step in memory
  have hst : Stp0 w g (o + n * 2) s := ⟨hs1, hs2⟩
  have HSt := Lib.hid (hst.below hg HB.out.drew)
  have hnm : n ≤ m := by omega
  have i1 : (0 : Int) ≤ (n : Int) := by omega
  have i2 : (n : Int) < (n : Int) + 1 := by omega
  have i3 : (n : Int) ≤ 1000000 := by omega
  have tn : (txt s.1).toList = s.1 := txt_toList _
  have tk : (txt s.2).toList = s.2 := txt_toList _
  have ta : (txt e.name).toList = e.name := txt_toList _
  have tb : (txt e.key).toList = e.key := txt_toList _
  have HW : Hid (IntKind.i64.wrap (n : Int) = (n : Int)) := Lib.hid (Go.IntWalk.i64_in _ (by omega))
  have HGT : Hid (∀ W, Below (((w.alloc (.cells #[.string (txt a.name), .string (txt a.key), .int .i64 a.kind, .int .u64 (a.num : Int), .string (txt a.text), .slice A f.len c] 27)).alloc (.cells #[.string (txt e.name), .string (txt e.key), .int .i64 e.kind, .int .u64 (e.num : Int), .string (txt e.text), .slice E eg.len ec] 27)).alloc (.cells #[.string ⟨#[]⟩, .string ⟨#[]⟩, .int .i64 0, .int .u64 0, .string ⟨#[]⟩, .slice none 0 0] 27)).heap.size (((w.alloc (.cells #[.string (txt a.name), .string (txt a.key), .int .i64 a.kind, .int .u64 (a.num : Int), .string (txt a.text), .slice A f.len c] 27)).alloc (.cells #[.string (txt e.name), .string (txt e.key), .int .i64 e.kind, .int .u64 (e.num : Int), .string (txt e.text), .slice E eg.len ec] 27)).alloc (.cells #[.string ⟨#[]⟩, .string ⟨#[]⟩, .int .i64 0, .int .u64 0, .string ⟨#[]⟩, .slice none 0 0] 27)) W → Calls Try.prog 21 #[.agg #[.string (txt a.name), .string (txt a.key), .int .i64 a.kind, .int .u64 (a.num : Int), .string (txt a.text), .slice A f.len c], .slice (some ⟨g, o, none⟩) n m] W (PTreP d (pa, pf) (.bool false) W)) := Lib.hid (fun W hW => hG W (HB.out.trans (hW.mono HB.out.size)))
  skip
  clear hx hd hst hs1 hs2 hG
  go_enter Try.func23, Try.ntmps23
  go_wp2_with fail
  refine wp_region_noPanic ?_
  refine wp_region_held_drew (S := fun _ => True) (by kernel_rfl) trivial (fun hS => ?_)
  refine held_more (S' := fun w' => Blk w' (w.heap.size + 1) 27 #[.string (txt e.name), .string (txt e.key), .int .i64 e.kind, .int .u64 (e.num : Int), .string (txt e.text), .slice E eg.len ec] ∧ Stp0 w' g (o + n * 2) s) (fun _ _ => trivial) _ _ _ _ ?_
  replace hS := And.intro (HE.out.below (Below.refl _ _).drew HE.out.lt) HSt.out
  refine wpAnyH_take (i := 0) (oi := ?o3_0_1) (v := ?v3_0_1) ?i3_0_1 (by kernel_rfl) (by kernel_rfl) (by kernel_rfl) (fun _ _ _ h => h) (Or.inl ⟨?g3_0_1, ?y3_0_1⟩) hS ?_
  case i3_0_1 => simp only [List.getElem?_toArray, List.getElem?_cons_succ, List.getElem?_cons_zero]; rfl
  case g3_0_1 => rfl
  case y3_0_1 => (intro w hSw; (go_simp <;> with_reducible rfl))
  (try simp only [Act.put, List.setIfInBounds_toArray, List.set_cons_zero, List.set_cons_succ])
  refine wpAnyH_take (i := 1) (oi := ?o3_1_2) (v := ?v3_1_2) ?i3_1_2 (by kernel_rfl) (by kernel_rfl) (by kernel_rfl) (fun _ _ _ h => h) (Or.inl ⟨?g3_1_2, ?y3_1_2⟩) hS ?_
  case i3_1_2 => simp only [List.getElem?_toArray, List.getElem?_cons_succ, List.getElem?_cons_zero]; rfl
  case g3_1_2 => rfl
  case y3_1_2 => (intro w hSw; (go_simp <;> with_reducible rfl))
  (try simp only [Act.put, List.setIfInBounds_toArray, List.set_cons_zero, List.set_cons_succ])
  refine wpAnyH_take (i := 2) (oi := ?o3_2_3) (v := ?v3_2_3) ?i3_2_3 (by kernel_rfl) (by kernel_rfl) (by kernel_rfl) (fun _ _ _ h => h) (Or.inl ⟨?g3_2_3, ?y3_2_3⟩) hS ?_
  case i3_2_3 => simp only [List.getElem?_toArray, List.getElem?_cons_succ, List.getElem?_cons_zero]; rfl
  case g3_2_3 => rfl
  case y3_2_3 => (intro w hSw; (go_simp <;> with_reducible rfl))
  (try simp only [Act.put, List.setIfInBounds_toArray, List.set_cons_zero, List.set_cons_succ])
  refine wpAnyH_take (i := 3) (oi := ?o3_3_4) (v := ?v3_3_4) ?i3_3_4 (by kernel_rfl) (by kernel_rfl) (by kernel_rfl) (fun _ _ _ h => h) (Or.inl ⟨?g3_3_4, ?y3_3_4⟩) hS ?_
  case i3_3_4 => simp only [List.getElem?_toArray, List.getElem?_cons_succ, List.getElem?_cons_zero]; rfl
  case g3_3_4 => rfl
  case y3_3_4 => (intro w hSw; (go_simp <;> with_reducible rfl))
  (try simp only [Act.put, List.setIfInBounds_toArray, List.set_cons_zero, List.set_cons_succ])
  refine wpAnyH_take (i := 4) (oi := ?o3_4_5) (v := ?v3_4_5) ?i3_4_5 (by kernel_rfl) (by kernel_rfl) (by kernel_rfl) (fun _ _ _ h => h) (Or.inl ⟨?g3_4_5, ?y3_4_5⟩) hS ?_
  case i3_4_5 => simp only [List.getElem?_toArray, List.getElem?_cons_succ, List.getElem?_cons_zero]; rfl
  case g3_4_5 => rfl
  case y3_4_5 => (intro w hSw; (go_simp <;> with_reducible rfl))
  (try simp only [Act.put, List.setIfInBounds_toArray, List.set_cons_zero, List.set_cons_succ])
  refine wpAnyH_take (i := 5) (oi := ?o3_5_6) (v := ?v3_5_6) ?i3_5_6 (by kernel_rfl) (by kernel_rfl) (by kernel_rfl) (fun _ _ _ h => h) (Or.inl ⟨?g3_5_6, ?y3_5_6⟩) hS ?_
  case i3_5_6 => simp only [List.getElem?_toArray, List.getElem?_cons_succ, List.getElem?_cons_zero]; rfl
  case g3_5_6 => rfl
  case y3_5_6 => (intro w hSw; (go_simp <;> with_reducible rfl))
  (try simp only [Act.put, List.setIfInBounds_toArray, List.set_cons_zero, List.set_cons_succ])
  refine wpAnyH_take (i := 6) (oi := ?o3_6_7) (v := ?v3_6_7) ?i3_6_7 (by kernel_rfl) (by kernel_rfl) (by kernel_rfl) (fun _ _ _ h => h) (Or.inl ⟨?g3_6_7, ?y3_6_7⟩) hS ?_
  case i3_6_7 => simp only [List.getElem?_toArray, List.getElem?_cons_succ, List.getElem?_cons_zero]; rfl
  case g3_6_7 => rfl
  case y3_6_7 => (intro w hSw; (go_simp <;> with_reducible rfl))
  (try simp only [Act.put, List.setIfInBounds_toArray, List.set_cons_zero, List.set_cons_succ])
  refine wpAnyH_take (i := 7) (oi := ?o3_7_8) (v := ?v3_7_8) ?i3_7_8 (by kernel_rfl) (by kernel_rfl) (by kernel_rfl) (fun _ _ _ h => h) (Or.inl ⟨?g3_7_8, ?y3_7_8⟩) hS ?_
  case i3_7_8 => simp only [List.getElem?_toArray, List.getElem?_cons_succ, List.getElem?_cons_zero]; rfl
  case g3_7_8 => rfl
  case y3_7_8 => (intro w hSw; have q0 := hSw.2.1; (go_simp <;> with_reducible rfl))
  (try simp only [Act.put, List.setIfInBounds_toArray, List.set_cons_zero, List.set_cons_succ])
  refine wpAnyH_take (i := 8) (oi := ?o3_8_9) (v := ?v3_8_9) ?i3_8_9 (by kernel_rfl) (by kernel_rfl) (by kernel_rfl) (fun _ _ _ h => h) (Or.inl ⟨?g3_8_9, ?y3_8_9⟩) hS ?_
  case i3_8_9 => simp only [List.getElem?_toArray, List.getElem?_cons_succ, List.getElem?_cons_zero]; rfl
  case g3_8_9 => rfl
  case y3_8_9 => (intro w hSw; (go_simp <;> with_reducible rfl))
  (try simp only [Act.put, List.setIfInBounds_toArray, List.set_cons_zero, List.set_cons_succ])
  refine wpAnyH_take (i := 9) (oi := ?o3_9_10) (v := ?v3_9_10) ?i3_9_10 (by kernel_rfl) (by kernel_rfl) (by kernel_rfl) (fun _ _ _ h => h) (Or.inl ⟨?g3_9_10, ?y3_9_10⟩) hS ?_
  case i3_9_10 => simp only [List.getElem?_toArray, List.getElem?_cons_succ, List.getElem?_cons_zero]; rfl
  case g3_9_10 => rfl
  case y3_9_10 => (intro w hSw; have q0 := (hSw.1.cell 0).trans rfl; (go_simp <;> with_reducible rfl))
  (try simp only [Act.put, List.setIfInBounds_toArray, List.set_cons_zero, List.set_cons_succ])
  refine wpAnyH_take (i := 10) (oi := ?o3_10_11) (v := ?v3_10_11) ?i3_10_11 (by kernel_rfl) (by kernel_rfl) (by kernel_rfl) (fun _ _ _ h => h) (Or.inl ⟨?g3_10_11, ?y3_10_11⟩) hS ?_
  case i3_10_11 => simp only [List.getElem?_toArray, List.getElem?_cons_succ, List.getElem?_cons_zero]; rfl
  case g3_10_11 => rfl
  case y3_10_11 => (intro w hSw; (go_simp <;> with_reducible rfl))
  (try simp only [Act.put, List.setIfInBounds_toArray, List.set_cons_zero, List.set_cons_succ])
  refine wpAnyH_take (i := 11) (oi := ?o3_11_12) (v := ?v3_11_12) ?i3_11_12 (by kernel_rfl) (by kernel_rfl) (by kernel_rfl) (fun _ _ _ h => h) (Or.inl ⟨?g3_11_12, ?y3_11_12⟩) hS ?_
  case i3_11_12 => simp only [List.getElem?_toArray, List.getElem?_cons_succ, List.getElem?_cons_zero]; rfl
  case g3_11_12 => rfl
  case y3_11_12 => (intro w hSw; (go_simp <;> with_reducible rfl))
  (try simp only [Act.put, List.setIfInBounds_toArray, List.set_cons_zero, List.set_cons_succ])
  refine wpAnyH_take (i := 12) (oi := ?o3_12_13) (v := ?v3_12_13) ?i3_12_13 (by kernel_rfl) (by kernel_rfl) (by kernel_rfl) (fun _ _ _ h => h) (Or.inl ⟨?g3_12_13, ?y3_12_13⟩) hS ?_
  case i3_12_13 => simp only [List.getElem?_toArray, List.getElem?_cons_succ, List.getElem?_cons_zero]; rfl
  case g3_12_13 => rfl
  case y3_12_13 => (intro w hSw; (go_simp <;> with_reducible rfl))
  (try simp only [Act.put, List.setIfInBounds_toArray, List.set_cons_zero, List.set_cons_succ])
  refine wpAnyH_take (i := 13) (oi := ?o3_13_14) (v := ?v3_13_14) ?i3_13_14 (by kernel_rfl) (by kernel_rfl) (by kernel_rfl) (fun _ _ _ h => h) (Or.inl ⟨?g3_13_14, ?y3_13_14⟩) hS ?_
  case i3_13_14 => simp only [List.getElem?_toArray, List.getElem?_cons_succ, List.getElem?_cons_zero]; rfl
  case g3_13_14 => rfl
  case y3_13_14 => (intro w hSw; (go_simp <;> with_reducible rfl))
  (try simp only [Act.put, List.setIfInBounds_toArray, List.set_cons_zero, List.set_cons_succ])
  refine wpAnyH_take (i := 14) (oi := ?o3_14_15) (v := ?v3_14_15) ?i3_14_15 (by kernel_rfl) (by kernel_rfl) (by kernel_rfl) (fun _ _ _ h => h) (Or.inl ⟨?g3_14_15, ?y3_14_15⟩) hS ?_
  case i3_14_15 => simp only [List.getElem?_toArray, List.getElem?_cons_succ, List.getElem?_cons_zero]; rfl
  case g3_14_15 => rfl
  case y3_14_15 => (intro w hSw; (go_simp <;> with_reducible rfl))
  (try simp only [Act.put, List.setIfInBounds_toArray, List.set_cons_zero, List.set_cons_succ])
  refine wpAnyH_take (i := 15) (oi := ?o3_15_16) (v := ?v3_15_16) ?i3_15_16 (by kernel_rfl) (by kernel_rfl) (by kernel_rfl) (fun _ _ _ h => h) (Or.inl ⟨?g3_15_16, ?y3_15_16⟩) hS ?_
  case i3_15_16 => simp only [List.getElem?_toArray, List.getElem?_cons_succ, List.getElem?_cons_zero]; rfl
  case g3_15_16 => rfl
  case y3_15_16 => (intro w hSw; (go_simp <;> with_reducible rfl))
  (try simp only [Act.put, List.setIfInBounds_toArray, List.set_cons_zero, List.set_cons_succ])
  refine wpAnyH_take (i := 16) (oi := ?o3_16_17) (v := ?v3_16_17) ?i3_16_17 (by kernel_rfl) (by kernel_rfl) (by kernel_rfl) (fun _ _ _ h => h) (Or.inl ⟨?g3_16_17, ?y3_16_17⟩) hS ?_
  case i3_16_17 => simp only [List.getElem?_toArray, List.getElem?_cons_succ, List.getElem?_cons_zero]; rfl
  case g3_16_17 => rfl
  case y3_16_17 => (intro w hSw; (go_simp <;> with_reducible rfl))
  (try simp only [Act.put, List.setIfInBounds_toArray, List.set_cons_zero, List.set_cons_succ])
  refine wpAnyH_take (i := 17) (oi := ?o3_17_18) (v := ?v3_17_18) ?i3_17_18 (by kernel_rfl) (by kernel_rfl) (by kernel_rfl) (fun _ _ _ h => h) (Or.inl ⟨?g3_17_18, ?y3_17_18⟩) hS ?_
  case i3_17_18 => simp only [List.getElem?_toArray, List.getElem?_cons_succ, List.getElem?_cons_zero]; rfl
  case g3_17_18 => rfl
  case y3_17_18 => (intro w hSw; have q0 := hSw.2.2; (go_simp <;> with_reducible rfl))
  (try simp only [Act.put, List.setIfInBounds_toArray, List.set_cons_zero, List.set_cons_succ])
  refine wpAnyH_take (i := 18) (oi := ?o3_18_19) (v := ?v3_18_19) ?i3_18_19 (by kernel_rfl) (by kernel_rfl) (by kernel_rfl) (fun _ _ _ h => h) (Or.inl ⟨?g3_18_19, ?y3_18_19⟩) hS ?_
  case i3_18_19 => simp only [List.getElem?_toArray, List.getElem?_cons_succ, List.getElem?_cons_zero]; rfl
  case g3_18_19 => rfl
  case y3_18_19 => (intro w hSw; (go_simp <;> with_reducible rfl))
  (try simp only [Act.put, List.setIfInBounds_toArray, List.set_cons_zero, List.set_cons_succ])
  refine wpAnyH_take (i := 19) (oi := ?o3_19_20) (v := ?v3_19_20) ?i3_19_20 (by kernel_rfl) (by kernel_rfl) (by kernel_rfl) (fun _ _ _ h => h) (Or.inl ⟨?g3_19_20, ?y3_19_20⟩) hS ?_
  case i3_19_20 => simp only [List.getElem?_toArray, List.getElem?_cons_succ, List.getElem?_cons_zero]; rfl
  case g3_19_20 => rfl
  case y3_19_20 => (intro w hSw; have q0 := (hSw.1.cell 1).trans rfl; (go_simp <;> with_reducible rfl))
  (try simp only [Act.put, List.setIfInBounds_toArray, List.set_cons_zero, List.set_cons_succ])
  refine wpAnyH_take (i := 20) (oi := ?o3_20_21) (v := ?v3_20_21) ?i3_20_21 (by kernel_rfl) (by kernel_rfl) (by kernel_rfl) (fun _ _ _ h => h) (Or.inl ⟨?g3_20_21, ?y3_20_21⟩) hS ?_
  case i3_20_21 => simp only [List.getElem?_toArray, List.getElem?_cons_succ, List.getElem?_cons_zero]; rfl
  case g3_20_21 => rfl
  case y3_20_21 => (intro w hSw; (go_simp <;> with_reducible rfl))
  (try simp only [Act.put, List.setIfInBounds_toArray, List.set_cons_zero, List.set_cons_succ])
  refine wpAnyH_take (i := 21) (oi := ?o3_21_22) (v := ?v3_21_22) ?i3_21_22 (by kernel_rfl) (by kernel_rfl) (by kernel_rfl) (fun _ _ _ h => h) (Or.inl ⟨?g3_21_22, ?y3_21_22⟩) hS ?_
  case i3_21_22 => simp only [List.getElem?_toArray, List.getElem?_cons_succ, List.getElem?_cons_zero]; rfl
  case g3_21_22 => rfl
  case y3_21_22 => (intro w hSw; (go_simp <;> with_reducible rfl))
  (try simp only [Act.put, List.setIfInBounds_toArray, List.set_cons_zero, List.set_cons_succ])
  refine wpAnyH_done (by kernel_rfl) ?_ _
  refine NoPanic.normal ?_
  clear hS
  go_wp2_with fail
  replace HX := Lib.hid (HX.out.below (Below.refl _ _).drew HX.out.lt)
  replace HE := Lib.hid (HE.out.below (Below.refl _ _).drew HE.out.lt)
  replace HZ := Lib.hid (HZ.out.below (Below.refl _ _).drew HZ.out.lt)
  replace HB := Lib.hid HB.out.drew
  replace HGT := Lib.hid (fun (W : World) (hW : Below (((w.alloc (.cells #[.string (txt a.name), .string (txt a.key), .int .i64 a.kind, .int .u64 (a.num : Int), .string (txt a.text), .slice A f.len c] 27)).alloc (.cells #[.string (txt e.name), .string (txt e.key), .int .i64 e.kind, .int .u64 (e.num : Int), .string (txt e.text), .slice E eg.len ec] 27)).alloc (.cells #[.string ⟨#[]⟩, .string ⟨#[]⟩, .int .i64 0, .int .u64 0, .string ⟨#[]⟩, .slice none 0 0] 27)).drew.heap.size (((w.alloc (.cells #[.string (txt a.name), .string (txt a.key), .int .i64 a.kind, .int .u64 (a.num : Int), .string (txt a.text), .slice A f.len c] 27)).alloc (.cells #[.string (txt e.name), .string (txt e.key), .int .i64 e.kind, .int .u64 (e.num : Int), .string (txt e.text), .slice E eg.len ec] 27)).alloc (.cells #[.string ⟨#[]⟩, .string ⟨#[]⟩, .int .i64 0, .int .u64 0, .string ⟨#[]⟩, .slice none 0 0] 27)).drew W) => HGT.out W ((Below.refl _ _).drew.trans hW))
  clear HSt HW
  revert HX HE HZ HB HGT
  generalize (((w.alloc (.cells #[.string (txt a.name), .string (txt a.key), .int .i64 a.kind, .int .u64 (a.num : Int), .string (txt a.text), .slice A f.len c] 27)).alloc (.cells #[.string (txt e.name), .string (txt e.key), .int .i64 e.kind, .int .u64 (e.num : Int), .string (txt e.text), .slice E eg.len ec] 27)).alloc (.cells #[.string ⟨#[]⟩, .string ⟨#[]⟩, .int .i64 0, .int .u64 0, .string ⟨#[]⟩, .slice none 0 0] 27)).drew = w4
  intro HX HE HZ HB HGT
  refine wp_region_noPanic ?_
  refine wp_region_held_drew (S := fun _ => True) (by kernel_rfl) trivial (fun hS => ?_)
  refine held_more (S' := fun w' => Blk w' w.heap.size 27 #[.string (txt a.name), .string (txt a.key), .int .i64 a.kind, .int .u64 (a.num : Int), .string (txt a.text), .slice A f.len c]) (fun _ _ => trivial) _ _ _ _ ?_
  replace hS := HX.out.below (Below.refl _ _).drew HX.out.lt
  refine wpAnyH_take (i := 0) (oi := ?o4_0_1) (v := ?v4_0_1) ?i4_0_1 (by kernel_rfl) (by kernel_rfl) (by kernel_rfl) (fun _ _ _ h => h) (Or.inl ⟨?g4_0_1, ?y4_0_1⟩) hS ?_
  case i4_0_1 => simp only [List.getElem?_toArray, List.getElem?_cons_succ, List.getElem?_cons_zero]; rfl
  case g4_0_1 => rfl
  case y4_0_1 => (intro w hSw; have q0 := (hSw.cell 0).trans rfl; have q1 := (hSw.cell 1).trans rfl; have q2 := (hSw.cell 2).trans rfl; have q3 := (hSw.cell 3).trans rfl; have q4 := (hSw.cell 4).trans rfl; have q5 := (hSw.cell 5).trans rfl; (go_simp <;> with_reducible rfl))
  (try simp only [Act.put, List.setIfInBounds_toArray, List.set_cons_zero, List.set_cons_succ])
  refine wpAnyH_take (i := 1) (oi := ?o4_1_2) (v := ?v4_1_2) ?i4_1_2 (by kernel_rfl) (by kernel_rfl) (by kernel_rfl) (fun _ _ _ h => h) (Or.inl ⟨?g4_1_2, ?y4_1_2⟩) hS ?_
  case i4_1_2 => simp only [List.getElem?_toArray, List.getElem?_cons_succ, List.getElem?_cons_zero]; rfl
  case g4_1_2 => rfl
  case y4_1_2 => (intro w hSw; (go_simp <;> with_reducible rfl))
  (try simp only [Act.put, List.setIfInBounds_toArray, List.set_cons_zero, List.set_cons_succ])
  refine wpAnyH_take (i := 2) (oi := ?o4_2_3) (v := ?v4_2_3) ?i4_2_3 (by kernel_rfl) (by kernel_rfl) (by kernel_rfl) (fun _ _ _ h => h) (Or.inl ⟨?g4_2_3, ?y4_2_3⟩) hS ?_
  case i4_2_3 => simp only [List.getElem?_toArray, List.getElem?_cons_succ, List.getElem?_cons_zero]; rfl
  case g4_2_3 => rfl
  case y4_2_3 => (intro w hSw; (go_simp <;> with_reducible rfl))
  (try simp only [Act.put, List.setIfInBounds_toArray, List.set_cons_zero, List.set_cons_succ])
  refine wpAnyH_take (i := 3) (oi := ?o4_3_4) (v := ?v4_3_4) ?i4_3_4 (by kernel_rfl) (by kernel_rfl) (by kernel_rfl) (fun _ _ _ h => h) (Or.inl ⟨?g4_3_4, ?y4_3_4⟩) hS ?_
  case i4_3_4 => simp only [List.getElem?_toArray, List.getElem?_cons_succ, List.getElem?_cons_zero]; rfl
  case g4_3_4 => rfl
  case y4_3_4 => (intro w hSw; (go_simp <;> with_reducible rfl))
  (try simp only [Act.put, List.setIfInBounds_toArray, List.set_cons_zero, List.set_cons_succ])
  refine wpAnyH_ready (rs := [4, 8]) (by kernel_rfl) (by simp) ?_
  refine (AllReadyH.cons (o := ?or4_5_4) ?ir4_5_4 (fun K hK => ?str4_5_4) (AllReadyH.cons (o := ?or4_5_8) ?ir4_5_8 (fun K hK => ?str4_5_8) AllReadyH.nil))
  case ir4_5_4 => simp only [List.getElem?_toArray, List.getElem?_cons_succ, List.getElem?_cons_zero]; rfl
  case ir4_5_8 => simp only [List.getElem?_toArray, List.getElem?_cons_succ, List.getElem?_cons_zero]; rfl
  case' str4_5_4 =>
    rw [if_pos (by rfl)]
    go_simp
    refine (HGT.out w4.drew (Below.refl _ _).drew).mono ?_
    intro r w6 hr
    obtain ⟨A6, c6, rfl, hl6, hb6⟩ := hr.flat
    have HB6 := Lib.hid (HB.out.drew.trans (hb6.mono HB.out.drew.size))
    have HW6 : Hid (Below w4.heap.size w4 w6) := Lib.hid ((Below.refl w4.heap.size w4).drew.trans hb6)
    have HX6 := Lib.hid (HX.out.below HW6.out HX.out.lt)
    clear hb6 hr hl6
    go_wp2_with fail
    refine hK.out _ _ ?sr4_5_4 (fun hS => ?_)
    case sr4_5_4 => (exact HX6.out)
    clear hK K
    (try simp only [Act.put, List.setIfInBounds_toArray, List.set_cons_zero, List.set_cons_succ])
    refine wpAnyH_take (i := 5) (oi := ?o4_5_6) (v := ?v4_5_6) ?i4_5_6 (by kernel_rfl) (by kernel_rfl) (by kernel_rfl) (fun _ _ _ h => h) (Or.inl ⟨?g4_5_6, ?y4_5_6⟩) hS ?_
    case i4_5_6 => simp only [List.getElem?_toArray, List.getElem?_cons_succ, List.getElem?_cons_zero]; rfl
    case g4_5_6 => rfl
    case y4_5_6 => (intro w hSw; (go_simp <;> with_reducible rfl))
    (try simp only [Act.put, List.setIfInBounds_toArray, List.set_cons_zero, List.set_cons_succ])
    refine wpAnyH_take (i := 6) (oi := ?o4_6_7) (v := ?v4_6_7) ?i4_6_7 (by kernel_rfl) (by kernel_rfl) (by kernel_rfl) (fun _ _ _ h => h) (Or.inl ⟨?g4_6_7, ?y4_6_7⟩) hS ?_
    case i4_6_7 => simp only [List.getElem?_toArray, List.getElem?_cons_succ, List.getElem?_cons_zero]; rfl
    case g4_6_7 => rfl
    case y4_6_7 => (intro w hSw; (go_simp <;> with_reducible rfl))
    (try simp only [Act.put, List.setIfInBounds_toArray, List.set_cons_zero, List.set_cons_succ])
    refine wpAnyH_take (i := 7) (oi := ?o4_7_8) (v := ?v4_7_8) ?i4_7_8 (by kernel_rfl) (by kernel_rfl) (by kernel_rfl) (fun _ _ _ h => h) (Or.inl ⟨?g4_7_8, ?y4_7_8⟩) hS ?_
    case i4_7_8 => simp only [List.getElem?_toArray, List.getElem?_cons_succ, List.getElem?_cons_zero]; rfl
    case g4_7_8 => rfl
    case y4_7_8 => (intro w hSw; (go_simp <;> with_reducible rfl))
    (try simp only [Act.put, List.setIfInBounds_toArray, List.set_cons_zero, List.set_cons_succ])
    refine wpAnyH_ready (rs := [8]) (by kernel_rfl) (by simp) ?_
    refine (AllReadyH.cons (o := ?or4_9_8) ?ir4_9_8 (fun K hK => ?str4_9_8) AllReadyH.nil)
    case ir4_9_8 => simp only [List.getElem?_toArray, List.getElem?_cons_succ, List.getElem?_cons_zero]; rfl
    rw [if_pos (by rfl)]
    go_simp
    refine hK.out _ _ ?sr4_9_8 (fun hS => ?_)
    case sr4_9_8 => (exact HX6.out.alloc _)
    clear hK K
    (try simp only [Act.put, List.setIfInBounds_toArray, List.set_cons_zero, List.set_cons_succ])
    refine wpAnyH_ready (rs := [9]) (by kernel_rfl) (by simp) ?_
    refine (AllReadyH.cons (o := ?or4_10_9) ?ir4_10_9 (fun K hK => ?str4_10_9) AllReadyH.nil)
    case ir4_10_9 => simp only [List.getElem?_toArray, List.getElem?_cons_succ, List.getElem?_cons_zero]; rfl
    rw [if_pos (by rfl)]
    go_simp
    refine hK.out _ _ ?sr4_10_9 (fun hS => ?_)
    case sr4_10_9 => (exact HX6.out.alloc _)
    clear hK K
    (try simp only [Act.put, List.setIfInBounds_toArray, List.set_cons_zero, List.set_cons_succ])
    refine wpAnyH_take (i := 10) (oi := ?o4_10_11) (v := ?v4_10_11) ?i4_10_11 (by kernel_rfl) (by kernel_rfl) (by kernel_rfl) (fun _ _ _ h => h) (Or.inl ⟨?g4_10_11, ?y4_10_11⟩) hS ?_
    case i4_10_11 => simp only [List.getElem?_toArray, List.getElem?_cons_succ, List.getElem?_cons_zero]; rfl
    case g4_10_11 => rfl
    case y4_10_11 => (intro w hSw; (go_simp <;> with_reducible rfl))
    (try simp only [Act.put, List.setIfInBounds_toArray, List.set_cons_zero, List.set_cons_succ])
    refine wpAnyH_done (by kernel_rfl) ?_ _
    refine NoPanic.normal ?_
  case' str4_5_8 =>
    rw [if_pos (by rfl)]
    go_simp
    refine hK.out _ _ ?sr4_5_8 (fun hS => ?_)
    case sr4_5_8 => (exact Blk.alloc (w := w4) HX.out _)
    clear hK K
    (try simp only [Act.put, List.setIfInBounds_toArray, List.set_cons_zero, List.set_cons_succ])
    refine wpAnyH_ready (rs := [4]) (by kernel_rfl) (by simp) ?_
    refine (AllReadyH.cons (o := ?or4_12_4) ?ir4_12_4 (fun K hK => ?str4_12_4) AllReadyH.nil)
    case ir4_12_4 => simp only [List.getElem?_toArray, List.getElem?_cons_succ, List.getElem?_cons_zero]; rfl
    rw [if_pos (by rfl)]
    go_simp
    refine (HGT.out (w4.alloc (.cells #[.string ⟨#[]⟩, .string ⟨#[]⟩, .int .i64 0, .int .u64 0, .string ⟨#[]⟩, .slice none 0 0] 27)).drew ((Below.refl _ _).alloc (Nat.le_refl _) _).drew).mono ?_
    intro r w6 hr
    obtain ⟨A6, c6, rfl, hl6, hb6⟩ := hr.flat
    have HB6 := Lib.hid ((HB.out.alloc HB.out.size (.cells #[.string ⟨#[]⟩, .string ⟨#[]⟩, .int .i64 0, .int .u64 0, .string ⟨#[]⟩, .slice none 0 0] 27)).drew.trans (hb6.mono (HB.out.alloc HB.out.size (.cells #[.string ⟨#[]⟩, .string ⟨#[]⟩, .int .i64 0, .int .u64 0, .string ⟨#[]⟩, .slice none 0 0] 27)).drew.size))
    have HW6 : Hid (Below w4.heap.size w4 w6) := Lib.hid (((Below.refl _ _).alloc (Nat.le_refl _) (.cells #[.string ⟨#[]⟩, .string ⟨#[]⟩, .int .i64 0, .int .u64 0, .string ⟨#[]⟩, .slice none 0 0] 27)).drew.trans (hb6.mono (by simp)))
    have HP6 : Hid (Blk w6 w4.heap.size 27 #[.string ⟨#[]⟩, .string ⟨#[]⟩, .int .i64 0, .int .u64 0, .string ⟨#[]⟩, .slice none 0 0]) := Lib.hid ((((Blk.new w4 27 #[.string ⟨#[]⟩, .string ⟨#[]⟩, .int .i64 0, .int .u64 0, .string ⟨#[]⟩, .slice none 0 0]).below (Below.refl _ _).drew (Blk.new w4 27 #[.string ⟨#[]⟩, .string ⟨#[]⟩, .int .i64 0, .int .u64 0, .string ⟨#[]⟩, .slice none 0 0]).lt)).below hb6 (Blk.new w4 27 #[.string ⟨#[]⟩, .string ⟨#[]⟩, .int .i64 0, .int .u64 0, .string ⟨#[]⟩, .slice none 0 0]).lt)
    have HX6 := Lib.hid (HX.out.below HW6.out HX.out.lt)
    clear hb6 hr hl6
    go_wp2_with fail
    refine hK.out _ _ ?sr4_12_4 (fun hS => ?_)
    case sr4_12_4 => (exact HX6.out)
    clear hK K
    (try simp only [Act.put, List.setIfInBounds_toArray, List.set_cons_zero, List.set_cons_succ])
    refine wpAnyH_take (i := 5) (oi := ?o4_5_13) (v := ?v4_5_13) ?i4_5_13 (by kernel_rfl) (by kernel_rfl) (by kernel_rfl) (fun _ _ _ h => h) (Or.inl ⟨?g4_5_13, ?y4_5_13⟩) hS ?_
    case i4_5_13 => simp only [List.getElem?_toArray, List.getElem?_cons_succ, List.getElem?_cons_zero]; rfl
    case g4_5_13 => rfl
    case y4_5_13 => (intro w hSw; (go_simp <;> with_reducible rfl))
    (try simp only [Act.put, List.setIfInBounds_toArray, List.set_cons_zero, List.set_cons_succ])
    refine wpAnyH_take (i := 6) (oi := ?o4_6_14) (v := ?v4_6_14) ?i4_6_14 (by kernel_rfl) (by kernel_rfl) (by kernel_rfl) (fun _ _ _ h => h) (Or.inl ⟨?g4_6_14, ?y4_6_14⟩) hS ?_
    case i4_6_14 => simp only [List.getElem?_toArray, List.getElem?_cons_succ, List.getElem?_cons_zero]; rfl
    case g4_6_14 => rfl
    case y4_6_14 => (intro w hSw; (go_simp <;> with_reducible rfl))
    (try simp only [Act.put, List.setIfInBounds_toArray, List.set_cons_zero, List.set_cons_succ])
    refine wpAnyH_take (i := 7) (oi := ?o4_7_15) (v := ?v4_7_15) ?i4_7_15 (by kernel_rfl) (by kernel_rfl) (by kernel_rfl) (fun _ _ _ h => h) (Or.inl ⟨?g4_7_15, ?y4_7_15⟩) hS ?_
    case i4_7_15 => simp only [List.getElem?_toArray, List.getElem?_cons_succ, List.getElem?_cons_zero]; rfl
    case g4_7_15 => rfl
    case y4_7_15 => (intro w hSw; (go_simp <;> with_reducible rfl))
    (try simp only [Act.put, List.setIfInBounds_toArray, List.set_cons_zero, List.set_cons_succ])
    refine wpAnyH_ready (rs := [9]) (by kernel_rfl) (by simp) ?_
    refine (AllReadyH.cons (o := ?or4_16_9) ?ir4_16_9 (fun K hK => ?str4_16_9) AllReadyH.nil)
    case ir4_16_9 => simp only [List.getElem?_toArray, List.getElem?_cons_succ, List.getElem?_cons_zero]; rfl
    rw [if_pos (by rfl)]
    have fz0 : (w6).frozen? ⟨w4.heap.size, 0, none⟩ = false := HP6.out.frozen 0
    have fq0 := (HP6.out.cell 0).trans rfl
    have fz1 : (w6).frozen? ⟨w4.heap.size, 1, none⟩ = false := HP6.out.frozen 1
    have fq1 := (HP6.out.cell 1).trans rfl
    have fz2 : (w6).frozen? ⟨w4.heap.size, 2, none⟩ = false := HP6.out.frozen 2
    have fq2 := (HP6.out.cell 2).trans rfl
    have fz3 : (w6).frozen? ⟨w4.heap.size, 3, none⟩ = false := HP6.out.frozen 3
    have fq3 := (HP6.out.cell 3).trans rfl
    have fz4 : (w6).frozen? ⟨w4.heap.size, 4, none⟩ = false := HP6.out.frozen 4
    have fq4 := (HP6.out.cell 4).trans rfl
    have fz5 : (w6).frozen? ⟨w4.heap.size, 5, none⟩ = false := HP6.out.frozen 5
    have fq5 := (HP6.out.cell 5).trans rfl
    go_simp
    refine hK.out _ _ ?sr4_16_9 (fun hS => ?_)
    case sr4_16_9 => (exact (set6_other (w := w6) (b := w4.heap.size) (by have := HX.out.lt; omega)).trans HX6.out)
    clear hK K
    (try simp only [Act.put, List.setIfInBounds_toArray, List.set_cons_zero, List.set_cons_succ])
    refine wpAnyH_take (i := 10) (oi := ?o4_10_17) (v := ?v4_10_17) ?i4_10_17 (by kernel_rfl) (by kernel_rfl) (by kernel_rfl) (fun _ _ _ h => h) (Or.inl ⟨?g4_10_17, ?y4_10_17⟩) hS ?_
    case i4_10_17 => simp only [List.getElem?_toArray, List.getElem?_cons_succ, List.getElem?_cons_zero]; rfl
    case g4_10_17 => rfl
    case y4_10_17 => (intro w hSw; (go_simp <;> with_reducible rfl))
    (try simp only [Act.put, List.setIfInBounds_toArray, List.set_cons_zero, List.set_cons_succ])
    refine wpAnyH_done (by kernel_rfl) ?_ _
    refine NoPanic.normal ?_
  · skip
    -- the box was made ahead of the call
    clear hS
    have hlx : w.heap.size < w4.heap.size := HX.out.lt
    have hle : w.heap.size + 1 < w4.heap.size := HE.out.lt
    have hlz : w.heap.size + 2 < w4.heap.size := HZ.out.lt
    have HX7 : Hid (Blk (set6 w6 w4.heap.size (.string (txt pa.name)) (.string (txt pa.key)) (.int .i64 pa.kind) (.int .u64 (pa.num : Int)) (.string (txt pa.text)) (.slice A6 pf.len c6)) w.heap.size 27 #[.string (txt a.name), .string (txt a.key), .int .i64 a.kind, .int .u64 (a.num : Int), .string (txt a.text), .slice A f.len c]) := Lib.hid ((set6_other (by omega)).trans HX6.out)
    have HE7 : Hid (Blk (set6 w6 w4.heap.size (.string (txt pa.name)) (.string (txt pa.key)) (.int .i64 pa.kind) (.int .u64 (pa.num : Int)) (.string (txt pa.text)) (.slice A6 pf.len c6)) (w.heap.size + 1) 27 #[.string (txt e.name), .string (txt e.key), .int .i64 e.kind, .int .u64 (e.num : Int), .string (txt e.text), .slice E eg.len ec]) := Lib.hid ((set6_other (by omega)).trans (HE.out.below HW6.out HE.out.lt))
    have HZ7 : Hid (Blk (set6 w6 w4.heap.size (.string (txt pa.name)) (.string (txt pa.key)) (.int .i64 pa.kind) (.int .u64 (pa.num : Int)) (.string (txt pa.text)) (.slice A6 pf.len c6)) (w.heap.size + 2) 27 #[.string ⟨#[]⟩, .string ⟨#[]⟩, .int .i64 0, .int .u64 0, .string ⟨#[]⟩, .slice none 0 0]) := Lib.hid ((set6_other (by omega)).trans (HZ.out.below HW6.out HZ.out.lt))
    have HB7 : Hid (Below w.heap.size w (set6 w6 w4.heap.size (.string (txt pa.name)) (.string (txt pa.key)) (.int .i64 pa.kind) (.int .u64 (pa.num : Int)) (.string (txt pa.text)) (.slice A6 pf.len c6))) := Lib.hid (HB6.out.trans (set6_below (by omega)))
    have HP7 : Hid (Blk (set6 w6 w4.heap.size (.string (txt pa.name)) (.string (txt pa.key)) (.int .i64 pa.kind) (.int .u64 (pa.num : Int)) (.string (txt pa.text)) (.slice A6 pf.len c6)) w4.heap.size 27 #[.string (txt pa.name), .string (txt pa.key), .int .i64 pa.kind, .int .u64 (pa.num : Int), .string (txt pa.text), .slice A6 pf.len c6]) := Lib.hid (HP6.out.set6 _ _ _ _ _ _)
    clear hlx hle hlz
    revert HX7 HE7 HZ7 HB7 HP7
    unfold set6
    generalize (((((w6.setCell ⟨w4.heap.size, 0, none⟩ (.string (txt pa.name))).setCell ⟨w4.heap.size, 1, none⟩ (.string (txt pa.key))).setCell ⟨w4.heap.size, 2, none⟩ (.int .i64 pa.kind)).setCell ⟨w4.heap.size, 3, none⟩ (.int .u64 (pa.num : Int))).setCell ⟨w4.heap.size, 4, none⟩ (.string (txt pa.text))).setCell ⟨w4.heap.size, 5, none⟩ (.slice A6 pf.len c6) = w7
    intro HX7 HE7 HZ7 HB7 HP7
    have p2 := (HP7.out.cell 2).trans rfl
    have fz0 : (w7).frozen? ⟨w.heap.size + 2, 0, none⟩ = false := HZ7.out.frozen 0
    have fq0 := (HZ7.out.cell 0).trans rfl
    have fz1 : (w7).frozen? ⟨w.heap.size + 2, 1, none⟩ = false := HZ7.out.frozen 1
    have fq1 := (HZ7.out.cell 1).trans rfl
    have fz2 : (w7).frozen? ⟨w.heap.size + 2, 2, none⟩ = false := HZ7.out.frozen 2
    have fq2 := (HZ7.out.cell 2).trans rfl
    have fz3 : (w7).frozen? ⟨w.heap.size + 2, 3, none⟩ = false := HZ7.out.frozen 3
    have fq3 := (HZ7.out.cell 3).trans rfl
    have fz4 : (w7).frozen? ⟨w.heap.size + 2, 4, none⟩ = false := HZ7.out.frozen 4
    have fq4 := (HZ7.out.cell 4).trans rfl
    have fz5 : (w7).frozen? ⟨w.heap.size + 2, 5, none⟩ = false := HZ7.out.frozen 5
    have fq5 := (HZ7.out.cell 5).trans rfl
    go_wp2
    refine bodyPost_ret (res_ct9 rfl _ _ (w.heap.size + 2) 27 _ (0, 0) _ rfl (HZ7.out.set6 _ _ _ _ _ _) Try.underlying27 rfl (by kernel_rfl)) rfl ?_
    exact ⟨_, rfl, (LieB.zero _ _).p _, HB7.out.trans (set6_below (by omega))⟩
  · skip
    -- the box was made behind the call
    clear hS
    have HX7 := Lib.hid (HX6.out.alloc (.cells #[.string (txt pa.name), .string (txt pa.key), .int .i64 pa.kind, .int .u64 (pa.num : Int), .string (txt pa.text), .slice A6 pf.len c6] 27))
    have HE7 := Lib.hid ((HE.out.below HW6.out HE.out.lt).alloc (.cells #[.string (txt pa.name), .string (txt pa.key), .int .i64 pa.kind, .int .u64 (pa.num : Int), .string (txt pa.text), .slice A6 pf.len c6] 27))
    have HZ7 := Lib.hid ((HZ.out.below HW6.out HZ.out.lt).alloc (.cells #[.string (txt pa.name), .string (txt pa.key), .int .i64 pa.kind, .int .u64 (pa.num : Int), .string (txt pa.text), .slice A6 pf.len c6] 27))
    have HB7 := Lib.hid (HB6.out.alloc HB6.out.size (.cells #[.string (txt pa.name), .string (txt pa.key), .int .i64 pa.kind, .int .u64 (pa.num : Int), .string (txt pa.text), .slice A6 pf.len c6] 27))
    have HP7 := Lib.hid (Blk.new w6 27 #[.string (txt pa.name), .string (txt pa.key), .int .i64 pa.kind, .int .u64 (pa.num : Int), .string (txt pa.text), .slice A6 pf.len c6])
    revert HX7 HE7 HZ7 HB7 HP7
    generalize w6.alloc (.cells #[.string (txt pa.name), .string (txt pa.key), .int .i64 pa.kind, .int .u64 (pa.num : Int), .string (txt pa.text), .slice A6 pf.len c6] 27) = w7
    generalize w6.heap.size = pb
    intro HX7 HE7 HZ7 HB7 HP7
    have p2 := (HP7.out.cell 2).trans rfl
    have fz0 : (w7).frozen? ⟨w.heap.size + 2, 0, none⟩ = false := HZ7.out.frozen 0
    have fq0 := (HZ7.out.cell 0).trans rfl
    have fz1 : (w7).frozen? ⟨w.heap.size + 2, 1, none⟩ = false := HZ7.out.frozen 1
    have fq1 := (HZ7.out.cell 1).trans rfl
    have fz2 : (w7).frozen? ⟨w.heap.size + 2, 2, none⟩ = false := HZ7.out.frozen 2
    have fq2 := (HZ7.out.cell 2).trans rfl
    have fz3 : (w7).frozen? ⟨w.heap.size + 2, 3, none⟩ = false := HZ7.out.frozen 3
    have fq3 := (HZ7.out.cell 3).trans rfl
    have fz4 : (w7).frozen? ⟨w.heap.size + 2, 4, none⟩ = false := HZ7.out.frozen 4
    have fq4 := (HZ7.out.cell 4).trans rfl
    have fz5 : (w7).frozen? ⟨w.heap.size + 2, 5, none⟩ = false := HZ7.out.frozen 5
    have fq5 := (HZ7.out.cell 5).trans rfl
    go_wp2
    refine bodyPost_ret (res_ct9 rfl _ _ (w.heap.size + 2) 27 _ (0, 0) _ rfl (HZ7.out.set6 _ _ _ _ _ _) Try.underlying27 rfl (by kernel_rfl)) rfl ?_
    exact ⟨_, rfl, (LieB.zero _ _).p _, HB7.out.trans (set6_below (by omega))⟩
set_option maxRecDepth 100000 in
set_option maxHeartbeats 4000000 in
theorem rSet_leaf (d : Nat) (a e : NdD) (f eg : NdF) (A E : Option Addr) (c ec m g o n : Nat) (s : Stp) (pa : NdD) (pf : NdF) (w : World) (hd : d ≤ w.heap.size) (hx : LieB d w (ndC a (.slice A f.len c)) (a, f)) (hg : g < w.heap.size) (hs1 : w.cell? ⟨g, o + n * 2, none⟩ = some (.string (txt s.1))) (hs2 : w.cell? ⟨g, o + n * 2 + 1, none⟩ = some (.string (txt s.2))) (hn : n ≤ 1000000) (hm : n + 1 ≤ m)
    (h : (s.1 == e.name) = true) (h' : (s.2 == e.key) = true) (hk : pa.kind ≠ 0)
    (hG : ∀ W, Below w.heap.size w W → Calls Try.prog 21 #[.agg #[.string (txt a.name), .string (txt a.key), .int .i64 a.kind, .int .u64 (a.num : Int), .string (txt a.text), .slice A f.len c], .slice (some ⟨g, o, none⟩) n m] W (PTreP d (pa, pf) (.bool true) W)) :
    Calls Try.prog 23 #[.agg #[.string (txt a.name), .string (txt a.key), .int .i64 a.kind, .int .u64 (a.num : Int), .string (txt a.text), .slice A f.len c], .slice (some ⟨g, o, none⟩) (n + 1) m, .agg #[.string (txt e.name), .string (txt e.key), .int .i64 e.kind, .int .u64 (e.num : Int), .string (txt e.text), .slice E eg.len ec]] w (PTreP d noN (.int .i64 30) w) := by
  obtain ⟨h1, hbx, h2, h3, h4⟩ := set_boxes a e f eg A E c ec w (hx.keep (fun _ _ => rfl) hd)
  have HX := Lib.hid h1
  have HE := Lib.hid hbx
  have HZ := Lib.hid h2
  have HB := Lib.hid h3
  clear h1 hbx h2 h3 h4
  -- the last step in memory
  have hst : Stp0 w g (o + n * 2) s := ⟨hs1, hs2⟩
  have HSt := Lib.hid (hst.below hg HB.out.drew)
  have hnm : n ≤ m := by omega
  have i1 : (0 : Int) ≤ (n : Int) := by omega
  have i2 : (n : Int) < (n : Int) + 1 := by omega
  have i3 : (n : Int) ≤ 1000000 := by omega
  have tn : (txt s.1).toList = s.1 := txt_toList _
  have tk : (txt s.2).toList = s.2 := txt_toList _
  have ta : (txt e.name).toList = e.name := txt_toList _
  have tb : (txt e.key).toList = e.key := txt_toList _
  have HW : Hid (IntKind.i64.wrap (n : Int) = (n : Int)) := Lib.hid (Go.IntWalk.i64_in _ (by omega))
  have HGT : Hid (∀ W, Below (((w.alloc (.cells #[.string (txt a.name), .string (txt a.key), .int .i64 a.kind, .int .u64 (a.num : Int), .string (txt a.text), .slice A f.len c] 27)).alloc (.cells #[.string (txt e.name), .string (txt e.key), .int .i64 e.kind, .int .u64 (e.num : Int), .string (txt e.text), .slice E eg.len ec] 27)).alloc (.cells #[.string ⟨#[]⟩, .string ⟨#[]⟩, .int .i64 0, .int .u64 0, .string ⟨#[]⟩, .slice none 0 0] 27)).heap.size (((w.alloc (.cells #[.string (txt a.name), .string (txt a.key), .int .i64 a.kind, .int .u64 (a.num : Int), .string (txt a.text), .slice A f.len c] 27)).alloc (.cells #[.string (txt e.name), .string (txt e.key), .int .i64 e.kind, .int .u64 (e.num : Int), .string (txt e.text), .slice E eg.len ec] 27)).alloc (.cells #[.string ⟨#[]⟩, .string ⟨#[]⟩, .int .i64 0, .int .u64 0, .string ⟨#[]⟩, .slice none 0 0] 27)) W → Calls Try.prog 21 #[.agg #[.string (txt a.name), .string (txt a.key), .int .i64 a.kind, .int .u64 (a.num : Int), .string (txt a.text), .slice A f.len c], .slice (some ⟨g, o, none⟩) n m] W (PTreP d (pa, pf) (.bool true) W)) := Lib.hid (fun W hW => hG W (HB.out.trans (hW.mono HB.out.size)))
  have k1 : (pa.kind == 0) = false := beq_eq_false_iff_ne.2 hk
  have k2 : (pa.kind != 0) = true := by simp [hk]
  clear hk
  clear hx hd hst hs1 hs2 hG
  go_enter Try.func23, Try.ntmps23
  go_wp2_with fail
  refine wp_region_noPanic ?_
  refine wp_region_held_drew (S := fun _ => True) (by kernel_rfl) trivial (fun hS => ?_)
  refine held_more (S' := fun w' => Blk w' (w.heap.size + 1) 27 #[.string (txt e.name), .string (txt e.key), .int .i64 e.kind, .int .u64 (e.num : Int), .string (txt e.text), .slice E eg.len ec] ∧ Stp0 w' g (o + n * 2) s) (fun _ _ => trivial) _ _ _ _ ?_
  replace hS := And.intro (HE.out.below (Below.refl _ _).drew HE.out.lt) HSt.out
  refine wpAnyH_take (i := 0) (oi := ?o5_0_1) (v := ?v5_0_1) ?i5_0_1 (by kernel_rfl) (by kernel_rfl) (by kernel_rfl) (fun _ _ _ h => h) (Or.inl ⟨?g5_0_1, ?y5_0_1⟩) hS ?_
  case i5_0_1 => simp only [List.getElem?_toArray, List.getElem?_cons_succ, List.getElem?_cons_zero]; rfl
  case g5_0_1 => rfl
  case y5_0_1 => (intro w hSw; (go_simp <;> with_reducible rfl))
  (try simp only [Act.put, List.setIfInBounds_toArray, List.set_cons_zero, List.set_cons_succ])
  refine wpAnyH_take (i := 1) (oi := ?o5_1_2) (v := ?v5_1_2) ?i5_1_2 (by kernel_rfl) (by kernel_rfl) (by kernel_rfl) (fun _ _ _ h => h) (Or.inl ⟨?g5_1_2, ?y5_1_2⟩) hS ?_
  case i5_1_2 => simp only [List.getElem?_toArray, List.getElem?_cons_succ, List.getElem?_cons_zero]; rfl
  case g5_1_2 => rfl
  case y5_1_2 => (intro w hSw; (go_simp <;> with_reducible rfl))
  (try simp only [Act.put, List.setIfInBounds_toArray, List.set_cons_zero, List.set_cons_succ])
  refine wpAnyH_take (i := 2) (oi := ?o5_2_3) (v := ?v5_2_3) ?i5_2_3 (by kernel_rfl) (by kernel_rfl) (by kernel_rfl) (fun _ _ _ h => h) (Or.inl ⟨?g5_2_3, ?y5_2_3⟩) hS ?_
  case i5_2_3 => simp only [List.getElem?_toArray, List.getElem?_cons_succ, List.getElem?_cons_zero]; rfl
  case g5_2_3 => rfl
  case y5_2_3 => (intro w hSw; (go_simp <;> with_reducible rfl))
  (try simp only [Act.put, List.setIfInBounds_toArray, List.set_cons_zero, List.set_cons_succ])
  refine wpAnyH_take (i := 3) (oi := ?o5_3_4) (v := ?v5_3_4) ?i5_3_4 (by kernel_rfl) (by kernel_rfl) (by kernel_rfl) (fun _ _ _ h => h) (Or.inl ⟨?g5_3_4, ?y5_3_4⟩) hS ?_
  case i5_3_4 => simp only [List.getElem?_toArray, List.getElem?_cons_succ, List.getElem?_cons_zero]; rfl
  case g5_3_4 => rfl
  case y5_3_4 => (intro w hSw; (go_simp <;> with_reducible rfl))
  (try simp only [Act.put, List.setIfInBounds_toArray, List.set_cons_zero, List.set_cons_succ])
  refine wpAnyH_take (i := 4) (oi := ?o5_4_5) (v := ?v5_4_5) ?i5_4_5 (by kernel_rfl) (by kernel_rfl) (by kernel_rfl) (fun _ _ _ h => h) (Or.inl ⟨?g5_4_5, ?y5_4_5⟩) hS ?_
  case i5_4_5 => simp only [List.getElem?_toArray, List.getElem?_cons_succ, List.getElem?_cons_zero]; rfl
  case g5_4_5 => rfl
  case y5_4_5 => (intro w hSw; (go_simp <;> with_reducible rfl))
  (try simp only [Act.put, List.setIfInBounds_toArray, List.set_cons_zero, List.set_cons_succ])
  refine wpAnyH_take (i := 5) (oi := ?o5_5_6) (v := ?v5_5_6) ?i5_5_6 (by kernel_rfl) (by kernel_rfl) (by kernel_rfl) (fun _ _ _ h => h) (Or.inl ⟨?g5_5_6, ?y5_5_6⟩) hS ?_
  case i5_5_6 => simp only [List.getElem?_toArray, List.getElem?_cons_succ, List.getElem?_cons_zero]; rfl
  case g5_5_6 => rfl
  case y5_5_6 => (intro w hSw; (go_simp <;> with_reducible rfl))
  (try simp only [Act.put, List.setIfInBounds_toArray, List.set_cons_zero, List.set_cons_succ])
  refine wpAnyH_take (i := 6) (oi := ?o5_6_7) (v := ?v5_6_7) ?i5_6_7 (by kernel_rfl) (by kernel_rfl) (by kernel_rfl) (fun _ _ _ h => h) (Or.inl ⟨?g5_6_7, ?y5_6_7⟩) hS ?_
  case i5_6_7 => simp only [List.getElem?_toArray, List.getElem?_cons_succ, List.getElem?_cons_zero]; rfl
  case g5_6_7 => rfl
  case y5_6_7 => (intro w hSw; (go_simp <;> with_reducible rfl))
  (try simp only [Act.put, List.setIfInBounds_toArray, List.set_cons_zero, List.set_cons_succ])
  refine wpAnyH_take (i := 7) (oi := ?o5_7_8) (v := ?v5_7_8) ?i5_7_8 (by kernel_rfl) (by kernel_rfl) (by kernel_rfl) (fun _ _ _ h => h) (Or.inl ⟨?g5_7_8, ?y5_7_8⟩) hS ?_
  case i5_7_8 => simp only [List.getElem?_toArray, List.getElem?_cons_succ, List.getElem?_cons_zero]; rfl
  case g5_7_8 => rfl
  case y5_7_8 => (intro w hSw; have q0 := hSw.2.1; (go_simp <;> with_reducible rfl))
  (try simp only [Act.put, List.setIfInBounds_toArray, List.set_cons_zero, List.set_cons_succ])
  refine wpAnyH_take (i := 8) (oi := ?o5_8_9) (v := ?v5_8_9) ?i5_8_9 (by kernel_rfl) (by kernel_rfl) (by kernel_rfl) (fun _ _ _ h => h) (Or.inl ⟨?g5_8_9, ?y5_8_9⟩) hS ?_
  case i5_8_9 => simp only [List.getElem?_toArray, List.getElem?_cons_succ, List.getElem?_cons_zero]; rfl
  case g5_8_9 => rfl
  case y5_8_9 => (intro w hSw; (go_simp <;> with_reducible rfl))
  (try simp only [Act.put, List.setIfInBounds_toArray, List.set_cons_zero, List.set_cons_succ])
  refine wpAnyH_take (i := 9) (oi := ?o5_9_10) (v := ?v5_9_10) ?i5_9_10 (by kernel_rfl) (by kernel_rfl) (by kernel_rfl) (fun _ _ _ h => h) (Or.inl ⟨?g5_9_10, ?y5_9_10⟩) hS ?_
  case i5_9_10 => simp only [List.getElem?_toArray, List.getElem?_cons_succ, List.getElem?_cons_zero]; rfl
  case g5_9_10 => rfl
  case y5_9_10 => (intro w hSw; have q0 := (hSw.1.cell 0).trans rfl; (go_simp <;> with_reducible rfl))
  (try simp only [Act.put, List.setIfInBounds_toArray, List.set_cons_zero, List.set_cons_succ])
  refine wpAnyH_take (i := 10) (oi := ?o5_10_11) (v := ?v5_10_11) ?i5_10_11 (by kernel_rfl) (by kernel_rfl) (by kernel_rfl) (fun _ _ _ h => h) (Or.inl ⟨?g5_10_11, ?y5_10_11⟩) hS ?_
  case i5_10_11 => simp only [List.getElem?_toArray, List.getElem?_cons_succ, List.getElem?_cons_zero]; rfl
  case g5_10_11 => rfl
  case y5_10_11 => (intro w hSw; (go_simp <;> with_reducible rfl))
  (try simp only [Act.put, List.setIfInBounds_toArray, List.set_cons_zero, List.set_cons_succ])
  refine wpAnyH_take (i := 11) (oi := ?o5_11_12) (v := ?v5_11_12) ?i5_11_12 (by kernel_rfl) (by kernel_rfl) (by kernel_rfl) (fun _ _ _ h => h) (Or.inl ⟨?g5_11_12, ?y5_11_12⟩) hS ?_
  case i5_11_12 => simp only [List.getElem?_toArray, List.getElem?_cons_succ, List.getElem?_cons_zero]; rfl
  case g5_11_12 => rfl
  case y5_11_12 => (intro w hSw; (go_simp <;> with_reducible rfl))
  (try simp only [Act.put, List.setIfInBounds_toArray, List.set_cons_zero, List.set_cons_succ])
  refine wpAnyH_take (i := 12) (oi := ?o5_12_13) (v := ?v5_12_13) ?i5_12_13 (by kernel_rfl) (by kernel_rfl) (by kernel_rfl) (fun _ _ _ h => h) (Or.inl ⟨?g5_12_13, ?y5_12_13⟩) hS ?_
  case i5_12_13 => simp only [List.getElem?_toArray, List.getElem?_cons_succ, List.getElem?_cons_zero]; rfl
  case g5_12_13 => rfl
  case y5_12_13 => (intro w hSw; (go_simp <;> with_reducible rfl))
  (try simp only [Act.put, List.setIfInBounds_toArray, List.set_cons_zero, List.set_cons_succ])
  refine wpAnyH_take (i := 13) (oi := ?o5_13_14) (v := ?v5_13_14) ?i5_13_14 (by kernel_rfl) (by kernel_rfl) (by kernel_rfl) (fun _ _ _ h => h) (Or.inl ⟨?g5_13_14, ?y5_13_14⟩) hS ?_
  case i5_13_14 => simp only [List.getElem?_toArray, List.getElem?_cons_succ, List.getElem?_cons_zero]; rfl
  case g5_13_14 => rfl
  case y5_13_14 => (intro w hSw; (go_simp <;> with_reducible rfl))
  (try simp only [Act.put, List.setIfInBounds_toArray, List.set_cons_zero, List.set_cons_succ])
  refine wpAnyH_take (i := 14) (oi := ?o5_14_15) (v := ?v5_14_15) ?i5_14_15 (by kernel_rfl) (by kernel_rfl) (by kernel_rfl) (fun _ _ _ h => h) (Or.inl ⟨?g5_14_15, ?y5_14_15⟩) hS ?_
  case i5_14_15 => simp only [List.getElem?_toArray, List.getElem?_cons_succ, List.getElem?_cons_zero]; rfl
  case g5_14_15 => rfl
  case y5_14_15 => (intro w hSw; (go_simp <;> with_reducible rfl))
  (try simp only [Act.put, List.setIfInBounds_toArray, List.set_cons_zero, List.set_cons_succ])
  refine wpAnyH_take (i := 15) (oi := ?o5_15_16) (v := ?v5_15_16) ?i5_15_16 (by kernel_rfl) (by kernel_rfl) (by kernel_rfl) (fun _ _ _ h => h) (Or.inl ⟨?g5_15_16, ?y5_15_16⟩) hS ?_
  case i5_15_16 => simp only [List.getElem?_toArray, List.getElem?_cons_succ, List.getElem?_cons_zero]; rfl
  case g5_15_16 => rfl
  case y5_15_16 => (intro w hSw; (go_simp <;> with_reducible rfl))
  (try simp only [Act.put, List.setIfInBounds_toArray, List.set_cons_zero, List.set_cons_succ])
  refine wpAnyH_take (i := 16) (oi := ?o5_16_17) (v := ?v5_16_17) ?i5_16_17 (by kernel_rfl) (by kernel_rfl) (by kernel_rfl) (fun _ _ _ h => h) (Or.inl ⟨?g5_16_17, ?y5_16_17⟩) hS ?_
  case i5_16_17 => simp only [List.getElem?_toArray, List.getElem?_cons_succ, List.getElem?_cons_zero]; rfl
  case g5_16_17 => rfl
  case y5_16_17 => (intro w hSw; (go_simp <;> with_reducible rfl))
  (try simp only [Act.put, List.setIfInBounds_toArray, List.set_cons_zero, List.set_cons_succ])
  refine wpAnyH_take (i := 17) (oi := ?o5_17_18) (v := ?v5_17_18) ?i5_17_18 (by kernel_rfl) (by kernel_rfl) (by kernel_rfl) (fun _ _ _ h => h) (Or.inl ⟨?g5_17_18, ?y5_17_18⟩) hS ?_
  case i5_17_18 => simp only [List.getElem?_toArray, List.getElem?_cons_succ, List.getElem?_cons_zero]; rfl
  case g5_17_18 => rfl
  case y5_17_18 => (intro w hSw; have q0 := hSw.2.2; (go_simp <;> with_reducible rfl))
  (try simp only [Act.put, List.setIfInBounds_toArray, List.set_cons_zero, List.set_cons_succ])
  refine wpAnyH_take (i := 18) (oi := ?o5_18_19) (v := ?v5_18_19) ?i5_18_19 (by kernel_rfl) (by kernel_rfl) (by kernel_rfl) (fun _ _ _ h => h) (Or.inl ⟨?g5_18_19, ?y5_18_19⟩) hS ?_
  case i5_18_19 => simp only [List.getElem?_toArray, List.getElem?_cons_succ, List.getElem?_cons_zero]; rfl
  case g5_18_19 => rfl
  case y5_18_19 => (intro w hSw; (go_simp <;> with_reducible rfl))
  (try simp only [Act.put, List.setIfInBounds_toArray, List.set_cons_zero, List.set_cons_succ])
  refine wpAnyH_take (i := 19) (oi := ?o5_19_20) (v := ?v5_19_20) ?i5_19_20 (by kernel_rfl) (by kernel_rfl) (by kernel_rfl) (fun _ _ _ h => h) (Or.inl ⟨?g5_19_20, ?y5_19_20⟩) hS ?_
  case i5_19_20 => simp only [List.getElem?_toArray, List.getElem?_cons_succ, List.getElem?_cons_zero]; rfl
  case g5_19_20 => rfl
  case y5_19_20 => (intro w hSw; have q0 := (hSw.1.cell 1).trans rfl; (go_simp <;> with_reducible rfl))
  (try simp only [Act.put, List.setIfInBounds_toArray, List.set_cons_zero, List.set_cons_succ])
  refine wpAnyH_take (i := 20) (oi := ?o5_20_21) (v := ?v5_20_21) ?i5_20_21 (by kernel_rfl) (by kernel_rfl) (by kernel_rfl) (fun _ _ _ h => h) (Or.inl ⟨?g5_20_21, ?y5_20_21⟩) hS ?_
  case i5_20_21 => simp only [List.getElem?_toArray, List.getElem?_cons_succ, List.getElem?_cons_zero]; rfl
  case g5_20_21 => rfl
  case y5_20_21 => (intro w hSw; (go_simp <;> with_reducible rfl))
  (try simp only [Act.put, List.setIfInBounds_toArray, List.set_cons_zero, List.set_cons_succ])
  refine wpAnyH_take (i := 21) (oi := ?o5_21_22) (v := ?v5_21_22) ?i5_21_22 (by kernel_rfl) (by kernel_rfl) (by kernel_rfl) (fun _ _ _ h => h) (Or.inl ⟨?g5_21_22, ?y5_21_22⟩) hS ?_
  case i5_21_22 => simp only [List.getElem?_toArray, List.getElem?_cons_succ, List.getElem?_cons_zero]; rfl
  case g5_21_22 => rfl
  case y5_21_22 => (intro w hSw; (go_simp <;> with_reducible rfl))
  (try simp only [Act.put, List.setIfInBounds_toArray, List.set_cons_zero, List.set_cons_succ])
  refine wpAnyH_done (by kernel_rfl) ?_ _
  refine NoPanic.normal ?_
  clear hS
  go_wp2_with fail
  replace HX := Lib.hid (HX.out.below (Below.refl _ _).drew HX.out.lt)
  replace HE := Lib.hid (HE.out.below (Below.refl _ _).drew HE.out.lt)
  replace HZ := Lib.hid (HZ.out.below (Below.refl _ _).drew HZ.out.lt)
  replace HB := Lib.hid HB.out.drew
  replace HGT := Lib.hid (fun (W : World) (hW : Below (((w.alloc (.cells #[.string (txt a.name), .string (txt a.key), .int .i64 a.kind, .int .u64 (a.num : Int), .string (txt a.text), .slice A f.len c] 27)).alloc (.cells #[.string (txt e.name), .string (txt e.key), .int .i64 e.kind, .int .u64 (e.num : Int), .string (txt e.text), .slice E eg.len ec] 27)).alloc (.cells #[.string ⟨#[]⟩, .string ⟨#[]⟩, .int .i64 0, .int .u64 0, .string ⟨#[]⟩, .slice none 0 0] 27)).drew.heap.size (((w.alloc (.cells #[.string (txt a.name), .string (txt a.key), .int .i64 a.kind, .int .u64 (a.num : Int), .string (txt a.text), .slice A f.len c] 27)).alloc (.cells #[.string (txt e.name), .string (txt e.key), .int .i64 e.kind, .int .u64 (e.num : Int), .string (txt e.text), .slice E eg.len ec] 27)).alloc (.cells #[.string ⟨#[]⟩, .string ⟨#[]⟩, .int .i64 0, .int .u64 0, .string ⟨#[]⟩, .slice none 0 0] 27)).drew W) => HGT.out W ((Below.refl _ _).drew.trans hW))
  clear HSt HW
  revert HX HE HZ HB HGT
  generalize (((w.alloc (.cells #[.string (txt a.name), .string (txt a.key), .int .i64 a.kind, .int .u64 (a.num : Int), .string (txt a.text), .slice A f.len c] 27)).alloc (.cells #[.string (txt e.name), .string (txt e.key), .int .i64 e.kind, .int .u64 (e.num : Int), .string (txt e.text), .slice E eg.len ec] 27)).alloc (.cells #[.string ⟨#[]⟩, .string ⟨#[]⟩, .int .i64 0, .int .u64 0, .string ⟨#[]⟩, .slice none 0 0] 27)).drew = w4
  intro HX HE HZ HB HGT
  refine wp_region_noPanic ?_
  refine wp_region_held_drew (S := fun _ => True) (by kernel_rfl) trivial (fun hS => ?_)
  refine held_more (S' := fun w' => Blk w' w.heap.size 27 #[.string (txt a.name), .string (txt a.key), .int .i64 a.kind, .int .u64 (a.num : Int), .string (txt a.text), .slice A f.len c]) (fun _ _ => trivial) _ _ _ _ ?_
  replace hS := HX.out.below (Below.refl _ _).drew HX.out.lt
  refine wpAnyH_take (i := 0) (oi := ?o6_0_1) (v := ?v6_0_1) ?i6_0_1 (by kernel_rfl) (by kernel_rfl) (by kernel_rfl) (fun _ _ _ h => h) (Or.inl ⟨?g6_0_1, ?y6_0_1⟩) hS ?_
  case i6_0_1 => simp only [List.getElem?_toArray, List.getElem?_cons_succ, List.getElem?_cons_zero]; rfl
  case g6_0_1 => rfl
  case y6_0_1 => (intro w hSw; have q0 := (hSw.cell 0).trans rfl; have q1 := (hSw.cell 1).trans rfl; have q2 := (hSw.cell 2).trans rfl; have q3 := (hSw.cell 3).trans rfl; have q4 := (hSw.cell 4).trans rfl; have q5 := (hSw.cell 5).trans rfl; (go_simp <;> with_reducible rfl))
  (try simp only [Act.put, List.setIfInBounds_toArray, List.set_cons_zero, List.set_cons_succ])
  refine wpAnyH_take (i := 1) (oi := ?o6_1_2) (v := ?v6_1_2) ?i6_1_2 (by kernel_rfl) (by kernel_rfl) (by kernel_rfl) (fun _ _ _ h => h) (Or.inl ⟨?g6_1_2, ?y6_1_2⟩) hS ?_
  case i6_1_2 => simp only [List.getElem?_toArray, List.getElem?_cons_succ, List.getElem?_cons_zero]; rfl
  case g6_1_2 => rfl
  case y6_1_2 => (intro w hSw; (go_simp <;> with_reducible rfl))
  (try simp only [Act.put, List.setIfInBounds_toArray, List.set_cons_zero, List.set_cons_succ])
  refine wpAnyH_take (i := 2) (oi := ?o6_2_3) (v := ?v6_2_3) ?i6_2_3 (by kernel_rfl) (by kernel_rfl) (by kernel_rfl) (fun _ _ _ h => h) (Or.inl ⟨?g6_2_3, ?y6_2_3⟩) hS ?_
  case i6_2_3 => simp only [List.getElem?_toArray, List.getElem?_cons_succ, List.getElem?_cons_zero]; rfl
  case g6_2_3 => rfl
  case y6_2_3 => (intro w hSw; (go_simp <;> with_reducible rfl))
  (try simp only [Act.put, List.setIfInBounds_toArray, List.set_cons_zero, List.set_cons_succ])
  refine wpAnyH_take (i := 3) (oi := ?o6_3_4) (v := ?v6_3_4) ?i6_3_4 (by kernel_rfl) (by kernel_rfl) (by kernel_rfl) (fun _ _ _ h => h) (Or.inl ⟨?g6_3_4, ?y6_3_4⟩) hS ?_
  case i6_3_4 => simp only [List.getElem?_toArray, List.getElem?_cons_succ, List.getElem?_cons_zero]; rfl
  case g6_3_4 => rfl
  case y6_3_4 => (intro w hSw; (go_simp <;> with_reducible rfl))
  (try simp only [Act.put, List.setIfInBounds_toArray, List.set_cons_zero, List.set_cons_succ])
  refine wpAnyH_ready (rs := [4, 8]) (by kernel_rfl) (by simp) ?_
  refine (AllReadyH.cons (o := ?or6_5_4) ?ir6_5_4 (fun K hK => ?str6_5_4) (AllReadyH.cons (o := ?or6_5_8) ?ir6_5_8 (fun K hK => ?str6_5_8) AllReadyH.nil))
  case ir6_5_4 => simp only [List.getElem?_toArray, List.getElem?_cons_succ, List.getElem?_cons_zero]; rfl
  case ir6_5_8 => simp only [List.getElem?_toArray, List.getElem?_cons_succ, List.getElem?_cons_zero]; rfl
  case' str6_5_4 =>
    rw [if_pos (by rfl)]
    go_simp
    refine (HGT.out w4.drew (Below.refl _ _).drew).mono ?_
    intro r w6 hr
    obtain ⟨A6, c6, rfl, hl6, hb6⟩ := hr.flat
    have HB6 := Lib.hid (HB.out.drew.trans (hb6.mono HB.out.drew.size))
    have HW6 : Hid (Below w4.heap.size w4 w6) := Lib.hid ((Below.refl w4.heap.size w4).drew.trans hb6)
    have HX6 := Lib.hid (HX.out.below HW6.out HX.out.lt)
    clear hb6 hr hl6
    go_wp2_with fail
    refine hK.out _ _ ?sr6_5_4 (fun hS => ?_)
    case sr6_5_4 => (exact HX6.out)
    clear hK K
    (try simp only [Act.put, List.setIfInBounds_toArray, List.set_cons_zero, List.set_cons_succ])
    refine wpAnyH_take (i := 5) (oi := ?o6_5_6) (v := ?v6_5_6) ?i6_5_6 (by kernel_rfl) (by kernel_rfl) (by kernel_rfl) (fun _ _ _ h => h) (Or.inl ⟨?g6_5_6, ?y6_5_6⟩) hS ?_
    case i6_5_6 => simp only [List.getElem?_toArray, List.getElem?_cons_succ, List.getElem?_cons_zero]; rfl
    case g6_5_6 => rfl
    case y6_5_6 => (intro w hSw; (go_simp <;> with_reducible rfl))
    (try simp only [Act.put, List.setIfInBounds_toArray, List.set_cons_zero, List.set_cons_succ])
    refine wpAnyH_take (i := 6) (oi := ?o6_6_7) (v := ?v6_6_7) ?i6_6_7 (by kernel_rfl) (by kernel_rfl) (by kernel_rfl) (fun _ _ _ h => h) (Or.inl ⟨?g6_6_7, ?y6_6_7⟩) hS ?_
    case i6_6_7 => simp only [List.getElem?_toArray, List.getElem?_cons_succ, List.getElem?_cons_zero]; rfl
    case g6_6_7 => rfl
    case y6_6_7 => (intro w hSw; (go_simp <;> with_reducible rfl))
    (try simp only [Act.put, List.setIfInBounds_toArray, List.set_cons_zero, List.set_cons_succ])
    refine wpAnyH_take (i := 7) (oi := ?o6_7_8) (v := ?v6_7_8) ?i6_7_8 (by kernel_rfl) (by kernel_rfl) (by kernel_rfl) (fun _ _ _ h => h) (Or.inl ⟨?g6_7_8, ?y6_7_8⟩) hS ?_
    case i6_7_8 => simp only [List.getElem?_toArray, List.getElem?_cons_succ, List.getElem?_cons_zero]; rfl
    case g6_7_8 => rfl
    case y6_7_8 => (intro w hSw; (go_simp <;> with_reducible rfl))
    (try simp only [Act.put, List.setIfInBounds_toArray, List.set_cons_zero, List.set_cons_succ])
    refine wpAnyH_ready (rs := [8]) (by kernel_rfl) (by simp) ?_
    refine (AllReadyH.cons (o := ?or6_9_8) ?ir6_9_8 (fun K hK => ?str6_9_8) AllReadyH.nil)
    case ir6_9_8 => simp only [List.getElem?_toArray, List.getElem?_cons_succ, List.getElem?_cons_zero]; rfl
    rw [if_pos (by rfl)]
    go_simp
    refine hK.out _ _ ?sr6_9_8 (fun hS => ?_)
    case sr6_9_8 => (exact HX6.out.alloc _)
    clear hK K
    (try simp only [Act.put, List.setIfInBounds_toArray, List.set_cons_zero, List.set_cons_succ])
    refine wpAnyH_ready (rs := [9]) (by kernel_rfl) (by simp) ?_
    refine (AllReadyH.cons (o := ?or6_10_9) ?ir6_10_9 (fun K hK => ?str6_10_9) AllReadyH.nil)
    case ir6_10_9 => simp only [List.getElem?_toArray, List.getElem?_cons_succ, List.getElem?_cons_zero]; rfl
    rw [if_pos (by rfl)]
    go_simp
    refine hK.out _ _ ?sr6_10_9 (fun hS => ?_)
    case sr6_10_9 => (exact HX6.out.alloc _)
    clear hK K
    (try simp only [Act.put, List.setIfInBounds_toArray, List.set_cons_zero, List.set_cons_succ])
    refine wpAnyH_take (i := 10) (oi := ?o6_10_11) (v := ?v6_10_11) ?i6_10_11 (by kernel_rfl) (by kernel_rfl) (by kernel_rfl) (fun _ _ _ h => h) (Or.inl ⟨?g6_10_11, ?y6_10_11⟩) hS ?_
    case i6_10_11 => simp only [List.getElem?_toArray, List.getElem?_cons_succ, List.getElem?_cons_zero]; rfl
    case g6_10_11 => rfl
    case y6_10_11 => (intro w hSw; (go_simp <;> with_reducible rfl))
    (try simp only [Act.put, List.setIfInBounds_toArray, List.set_cons_zero, List.set_cons_succ])
    refine wpAnyH_done (by kernel_rfl) ?_ _
    refine NoPanic.normal ?_
  case' str6_5_8 =>
    rw [if_pos (by rfl)]
    go_simp
    refine hK.out _ _ ?sr6_5_8 (fun hS => ?_)
    case sr6_5_8 => (exact Blk.alloc (w := w4) HX.out _)
    clear hK K
    (try simp only [Act.put, List.setIfInBounds_toArray, List.set_cons_zero, List.set_cons_succ])
    refine wpAnyH_ready (rs := [4]) (by kernel_rfl) (by simp) ?_
    refine (AllReadyH.cons (o := ?or6_12_4) ?ir6_12_4 (fun K hK => ?str6_12_4) AllReadyH.nil)
    case ir6_12_4 => simp only [List.getElem?_toArray, List.getElem?_cons_succ, List.getElem?_cons_zero]; rfl
    rw [if_pos (by rfl)]
    go_simp
    refine (HGT.out (w4.alloc (.cells #[.string ⟨#[]⟩, .string ⟨#[]⟩, .int .i64 0, .int .u64 0, .string ⟨#[]⟩, .slice none 0 0] 27)).drew ((Below.refl _ _).alloc (Nat.le_refl _) _).drew).mono ?_
    intro r w6 hr
    obtain ⟨A6, c6, rfl, hl6, hb6⟩ := hr.flat
    have HB6 := Lib.hid ((HB.out.alloc HB.out.size (.cells #[.string ⟨#[]⟩, .string ⟨#[]⟩, .int .i64 0, .int .u64 0, .string ⟨#[]⟩, .slice none 0 0] 27)).drew.trans (hb6.mono (HB.out.alloc HB.out.size (.cells #[.string ⟨#[]⟩, .string ⟨#[]⟩, .int .i64 0, .int .u64 0, .string ⟨#[]⟩, .slice none 0 0] 27)).drew.size))
    have HW6 : Hid (Below w4.heap.size w4 w6) := Lib.hid (((Below.refl _ _).alloc (Nat.le_refl _) (.cells #[.string ⟨#[]⟩, .string ⟨#[]⟩, .int .i64 0, .int .u64 0, .string ⟨#[]⟩, .slice none 0 0] 27)).drew.trans (hb6.mono (by simp)))
    have HP6 : Hid (Blk w6 w4.heap.size 27 #[.string ⟨#[]⟩, .string ⟨#[]⟩, .int .i64 0, .int .u64 0, .string ⟨#[]⟩, .slice none 0 0]) := Lib.hid ((((Blk.new w4 27 #[.string ⟨#[]⟩, .string ⟨#[]⟩, .int .i64 0, .int .u64 0, .string ⟨#[]⟩, .slice none 0 0]).below (Below.refl _ _).drew (Blk.new w4 27 #[.string ⟨#[]⟩, .string ⟨#[]⟩, .int .i64 0, .int .u64 0, .string ⟨#[]⟩, .slice none 0 0]).lt)).below hb6 (Blk.new w4 27 #[.string ⟨#[]⟩, .string ⟨#[]⟩, .int .i64 0, .int .u64 0, .string ⟨#[]⟩, .slice none 0 0]).lt)
    have HX6 := Lib.hid (HX.out.below HW6.out HX.out.lt)
    clear hb6 hr hl6
    go_wp2_with fail
    refine hK.out _ _ ?sr6_12_4 (fun hS => ?_)
    case sr6_12_4 => (exact HX6.out)
    clear hK K
    (try simp only [Act.put, List.setIfInBounds_toArray, List.set_cons_zero, List.set_cons_succ])
    refine wpAnyH_take (i := 5) (oi := ?o6_5_13) (v := ?v6_5_13) ?i6_5_13 (by kernel_rfl) (by kernel_rfl) (by kernel_rfl) (fun _ _ _ h => h) (Or.inl ⟨?g6_5_13, ?y6_5_13⟩) hS ?_
    case i6_5_13 => simp only [List.getElem?_toArray, List.getElem?_cons_succ, List.getElem?_cons_zero]; rfl
    case g6_5_13 => rfl
    case y6_5_13 => (intro w hSw; (go_simp <;> with_reducible rfl))
    (try simp only [Act.put, List.setIfInBounds_toArray, List.set_cons_zero, List.set_cons_succ])
    refine wpAnyH_take (i := 6) (oi := ?o6_6_14) (v := ?v6_6_14) ?i6_6_14 (by kernel_rfl) (by kernel_rfl) (by kernel_rfl) (fun _ _ _ h => h) (Or.inl ⟨?g6_6_14, ?y6_6_14⟩) hS ?_
    case i6_6_14 => simp only [List.getElem?_toArray, List.getElem?_cons_succ, List.getElem?_cons_zero]; rfl
    case g6_6_14 => rfl
    case y6_6_14 => (intro w hSw; (go_simp <;> with_reducible rfl))
    (try simp only [Act.put, List.setIfInBounds_toArray, List.set_cons_zero, List.set_cons_succ])
    refine wpAnyH_take (i := 7) (oi := ?o6_7_15) (v := ?v6_7_15) ?i6_7_15 (by kernel_rfl) (by kernel_rfl) (by kernel_rfl) (fun _ _ _ h => h) (Or.inl ⟨?g6_7_15, ?y6_7_15⟩) hS ?_
    case i6_7_15 => simp only [List.getElem?_toArray, List.getElem?_cons_succ, List.getElem?_cons_zero]; rfl
    case g6_7_15 => rfl
    case y6_7_15 => (intro w hSw; (go_simp <;> with_reducible rfl))
    (try simp only [Act.put, List.setIfInBounds_toArray, List.set_cons_zero, List.set_cons_succ])
    refine wpAnyH_ready (rs := [9]) (by kernel_rfl) (by simp) ?_
    refine (AllReadyH.cons (o := ?or6_16_9) ?ir6_16_9 (fun K hK => ?str6_16_9) AllReadyH.nil)
    case ir6_16_9 => simp only [List.getElem?_toArray, List.getElem?_cons_succ, List.getElem?_cons_zero]; rfl
    rw [if_pos (by rfl)]
    have fz0 : (w6).frozen? ⟨w4.heap.size, 0, none⟩ = false := HP6.out.frozen 0
    have fq0 := (HP6.out.cell 0).trans rfl
    have fz1 : (w6).frozen? ⟨w4.heap.size, 1, none⟩ = false := HP6.out.frozen 1
    have fq1 := (HP6.out.cell 1).trans rfl
    have fz2 : (w6).frozen? ⟨w4.heap.size, 2, none⟩ = false := HP6.out.frozen 2
    have fq2 := (HP6.out.cell 2).trans rfl
    have fz3 : (w6).frozen? ⟨w4.heap.size, 3, none⟩ = false := HP6.out.frozen 3
    have fq3 := (HP6.out.cell 3).trans rfl
    have fz4 : (w6).frozen? ⟨w4.heap.size, 4, none⟩ = false := HP6.out.frozen 4
    have fq4 := (HP6.out.cell 4).trans rfl
    have fz5 : (w6).frozen? ⟨w4.heap.size, 5, none⟩ = false := HP6.out.frozen 5
    have fq5 := (HP6.out.cell 5).trans rfl
    go_simp
    refine hK.out _ _ ?sr6_16_9 (fun hS => ?_)
    case sr6_16_9 => (exact (set6_other (w := w6) (b := w4.heap.size) (by have := HX.out.lt; omega)).trans HX6.out)
    clear hK K
    (try simp only [Act.put, List.setIfInBounds_toArray, List.set_cons_zero, List.set_cons_succ])
    refine wpAnyH_take (i := 10) (oi := ?o6_10_17) (v := ?v6_10_17) ?i6_10_17 (by kernel_rfl) (by kernel_rfl) (by kernel_rfl) (fun _ _ _ h => h) (Or.inl ⟨?g6_10_17, ?y6_10_17⟩) hS ?_
    case i6_10_17 => simp only [List.getElem?_toArray, List.getElem?_cons_succ, List.getElem?_cons_zero]; rfl
    case g6_10_17 => rfl
    case y6_10_17 => (intro w hSw; (go_simp <;> with_reducible rfl))
    (try simp only [Act.put, List.setIfInBounds_toArray, List.set_cons_zero, List.set_cons_succ])
    refine wpAnyH_done (by kernel_rfl) ?_ _
    refine NoPanic.normal ?_
  · skip
    -- the box was made ahead of the call
    clear hS
    have hlx : w.heap.size < w4.heap.size := HX.out.lt
    have hle : w.heap.size + 1 < w4.heap.size := HE.out.lt
    have hlz : w.heap.size + 2 < w4.heap.size := HZ.out.lt
    have HX7 : Hid (Blk (set6 w6 w4.heap.size (.string (txt pa.name)) (.string (txt pa.key)) (.int .i64 pa.kind) (.int .u64 (pa.num : Int)) (.string (txt pa.text)) (.slice A6 pf.len c6)) w.heap.size 27 #[.string (txt a.name), .string (txt a.key), .int .i64 a.kind, .int .u64 (a.num : Int), .string (txt a.text), .slice A f.len c]) := Lib.hid ((set6_other (by omega)).trans HX6.out)
    have HE7 : Hid (Blk (set6 w6 w4.heap.size (.string (txt pa.name)) (.string (txt pa.key)) (.int .i64 pa.kind) (.int .u64 (pa.num : Int)) (.string (txt pa.text)) (.slice A6 pf.len c6)) (w.heap.size + 1) 27 #[.string (txt e.name), .string (txt e.key), .int .i64 e.kind, .int .u64 (e.num : Int), .string (txt e.text), .slice E eg.len ec]) := Lib.hid ((set6_other (by omega)).trans (HE.out.below HW6.out HE.out.lt))
    have HZ7 : Hid (Blk (set6 w6 w4.heap.size (.string (txt pa.name)) (.string (txt pa.key)) (.int .i64 pa.kind) (.int .u64 (pa.num : Int)) (.string (txt pa.text)) (.slice A6 pf.len c6)) (w.heap.size + 2) 27 #[.string ⟨#[]⟩, .string ⟨#[]⟩, .int .i64 0, .int .u64 0, .string ⟨#[]⟩, .slice none 0 0]) := Lib.hid ((set6_other (by omega)).trans (HZ.out.below HW6.out HZ.out.lt))
    have HB7 : Hid (Below w.heap.size w (set6 w6 w4.heap.size (.string (txt pa.name)) (.string (txt pa.key)) (.int .i64 pa.kind) (.int .u64 (pa.num : Int)) (.string (txt pa.text)) (.slice A6 pf.len c6))) := Lib.hid (HB6.out.trans (set6_below (by omega)))
    have HP7 : Hid (Blk (set6 w6 w4.heap.size (.string (txt pa.name)) (.string (txt pa.key)) (.int .i64 pa.kind) (.int .u64 (pa.num : Int)) (.string (txt pa.text)) (.slice A6 pf.len c6)) w4.heap.size 27 #[.string (txt pa.name), .string (txt pa.key), .int .i64 pa.kind, .int .u64 (pa.num : Int), .string (txt pa.text), .slice A6 pf.len c6]) := Lib.hid (HP6.out.set6 _ _ _ _ _ _)
    clear hlx hle hlz
    revert HX7 HE7 HZ7 HB7 HP7
    unfold set6
    generalize (((((w6.setCell ⟨w4.heap.size, 0, none⟩ (.string (txt pa.name))).setCell ⟨w4.heap.size, 1, none⟩ (.string (txt pa.key))).setCell ⟨w4.heap.size, 2, none⟩ (.int .i64 pa.kind)).setCell ⟨w4.heap.size, 3, none⟩ (.int .u64 (pa.num : Int))).setCell ⟨w4.heap.size, 4, none⟩ (.string (txt pa.text))).setCell ⟨w4.heap.size, 5, none⟩ (.slice A6 pf.len c6) = w7
    intro HX7 HE7 HZ7 HB7 HP7
    have p2 := (HP7.out.cell 2).trans rfl
    have fz0 : (w7).frozen? ⟨w.heap.size + 2, 0, none⟩ = false := HZ7.out.frozen 0
    have fq0 := (HZ7.out.cell 0).trans rfl
    have fz1 : (w7).frozen? ⟨w.heap.size + 2, 1, none⟩ = false := HZ7.out.frozen 1
    have fq1 := (HZ7.out.cell 1).trans rfl
    have fz2 : (w7).frozen? ⟨w.heap.size + 2, 2, none⟩ = false := HZ7.out.frozen 2
    have fq2 := (HZ7.out.cell 2).trans rfl
    have fz3 : (w7).frozen? ⟨w.heap.size + 2, 3, none⟩ = false := HZ7.out.frozen 3
    have fq3 := (HZ7.out.cell 3).trans rfl
    have fz4 : (w7).frozen? ⟨w.heap.size + 2, 4, none⟩ = false := HZ7.out.frozen 4
    have fq4 := (HZ7.out.cell 4).trans rfl
    have fz5 : (w7).frozen? ⟨w.heap.size + 2, 5, none⟩ = false := HZ7.out.frozen 5
    have fq5 := (HZ7.out.cell 5).trans rfl
    go_wp2
    refine bodyPost_ret (res_ct9 rfl _ _ (w.heap.size + 2) 27 _ (0, 0) _ rfl (HZ7.out.set6 _ _ _ _ _ _) Try.underlying27 rfl (by kernel_rfl)) rfl ?_
    exact ⟨_, rfl, (LieB.zero _ _).p _, HB7.out.trans (set6_below (by omega))⟩
  · skip
    -- the box was made behind the call
    clear hS
    have HX7 := Lib.hid (HX6.out.alloc (.cells #[.string (txt pa.name), .string (txt pa.key), .int .i64 pa.kind, .int .u64 (pa.num : Int), .string (txt pa.text), .slice A6 pf.len c6] 27))
    have HE7 := Lib.hid ((HE.out.below HW6.out HE.out.lt).alloc (.cells #[.string (txt pa.name), .string (txt pa.key), .int .i64 pa.kind, .int .u64 (pa.num : Int), .string (txt pa.text), .slice A6 pf.len c6] 27))
    have HZ7 := Lib.hid ((HZ.out.below HW6.out HZ.out.lt).alloc (.cells #[.string (txt pa.name), .string (txt pa.key), .int .i64 pa.kind, .int .u64 (pa.num : Int), .string (txt pa.text), .slice A6 pf.len c6] 27))
    have HB7 := Lib.hid (HB6.out.alloc HB6.out.size (.cells #[.string (txt pa.name), .string (txt pa.key), .int .i64 pa.kind, .int .u64 (pa.num : Int), .string (txt pa.text), .slice A6 pf.len c6] 27))
    have HP7 := Lib.hid (Blk.new w6 27 #[.string (txt pa.name), .string (txt pa.key), .int .i64 pa.kind, .int .u64 (pa.num : Int), .string (txt pa.text), .slice A6 pf.len c6])
    revert HX7 HE7 HZ7 HB7 HP7
    generalize w6.alloc (.cells #[.string (txt pa.name), .string (txt pa.key), .int .i64 pa.kind, .int .u64 (pa.num : Int), .string (txt pa.text), .slice A6 pf.len c6] 27) = w7
    generalize w6.heap.size = pb
    intro HX7 HE7 HZ7 HB7 HP7
    have p2 := (HP7.out.cell 2).trans rfl
    have fz0 : (w7).frozen? ⟨w.heap.size + 2, 0, none⟩ = false := HZ7.out.frozen 0
    have fq0 := (HZ7.out.cell 0).trans rfl
    have fz1 : (w7).frozen? ⟨w.heap.size + 2, 1, none⟩ = false := HZ7.out.frozen 1
    have fq1 := (HZ7.out.cell 1).trans rfl
    have fz2 : (w7).frozen? ⟨w.heap.size + 2, 2, none⟩ = false := HZ7.out.frozen 2
    have fq2 := (HZ7.out.cell 2).trans rfl
    have fz3 : (w7).frozen? ⟨w.heap.size + 2, 3, none⟩ = false := HZ7.out.frozen 3
    have fq3 := (HZ7.out.cell 3).trans rfl
    have fz4 : (w7).frozen? ⟨w.heap.size + 2, 4, none⟩ = false := HZ7.out.frozen 4
    have fq4 := (HZ7.out.cell 4).trans rfl
    have fz5 : (w7).frozen? ⟨w.heap.size + 2, 5, none⟩ = false := HZ7.out.frozen 5
    have fq5 := (HZ7.out.cell 5).trans rfl
    go_wp2
    refine bodyPost_ret (res_ct9 rfl _ _ (w.heap.size + 2) 27 _ (0, 0) _ rfl (HZ7.out.set6 _ _ _ _ _ _) Try.underlying27 rfl (by kernel_rfl)) rfl ?_
    exact ⟨_, rfl, (LieB.zero _ _).p _, HB7.out.trans (set6_below (by omega))⟩
set_option maxRecDepth 100000 in
set_option maxHeartbeats 4000000 in
theorem rSet_ok (d : Nat) (a e : NdD) (f eg : NdF) (A E : Option Addr) (c ec m g o n : Nat) (s : Stp) (pa : NdD) (pf : NdF) (w : World) (hd : d ≤ w.heap.size) (hx : LieB d w (ndC a (.slice A f.len c)) (a, f)) (hg : g < w.heap.size) (hs1 : w.cell? ⟨g, o + n * 2, none⟩ = some (.string (txt s.1))) (hs2 : w.cell? ⟨g, o + n * 2 + 1, none⟩ = some (.string (txt s.2))) (hn : n ≤ 1000000) (hm : n + 1 ≤ m)
    (h : (s.1 == e.name) = true) (h' : (s.2 == e.key) = true) (hk : pa.kind = 0) (ra : NdD) (rf : NdF) (hS : ∀ W, Below w.heap.size w W → Calls Try.prog 38 #[.agg #[.string (txt a.name), .string (txt a.key), .int .i64 a.kind, .int .u64 (a.num : Int), .string (txt a.text), .slice A f.len c], .slice (some ⟨g, o, none⟩) (n + 1) m, .agg #[.string (txt e.name), .string (txt e.key), .int .i64 e.kind, .int .u64 (e.num : Int), .string (txt e.text), .slice E eg.len ec]] W (PTreP1 d (ra, rf) W))
    (hG : ∀ W, Below w.heap.size w W → Calls Try.prog 21 #[.agg #[.string (txt a.name), .string (txt a.key), .int .i64 a.kind, .int .u64 (a.num : Int), .string (txt a.text), .slice A f.len c], .slice (some ⟨g, o, none⟩) n m] W (PTreP d (pa, pf) (.bool true) W)) :
    Calls Try.prog 23 #[.agg #[.string (txt a.name), .string (txt a.key), .int .i64 a.kind, .int .u64 (a.num : Int), .string (txt a.text), .slice A f.len c], .slice (some ⟨g, o, none⟩) (n + 1) m, .agg #[.string (txt e.name), .string (txt e.key), .int .i64 e.kind, .int .u64 (e.num : Int), .string (txt e.text), .slice E eg.len ec]] w (PTreP d (ra, rf) (.int .i64 0) w) := by
  obtain ⟨h1, hbx, h2, h3, h4⟩ := set_boxes a e f eg A E c ec w (hx.keep (fun _ _ => rfl) hd)
  have HX := Lib.hid h1
  have HE := Lib.hid hbx
  have HZ := Lib.hid h2
  have HB := Lib.hid h3
  clear h1 hbx h2 h3 h4
  -- the last step in memory
  have hst : Stp0 w g (o + n * 2) s := ⟨hs1, hs2⟩
  have HSt := Lib.hid (hst.below hg HB.out.drew)
  have hnm : n ≤ m := by omega
  have i1 : (0 : Int) ≤ (n : Int) := by omega
  have i2 : (n : Int) < (n : Int) + 1 := by omega
  have i3 : (n : Int) ≤ 1000000 := by omega
  have tn : (txt s.1).toList = s.1 := txt_toList _
  have tk : (txt s.2).toList = s.2 := txt_toList _
  have ta : (txt e.name).toList = e.name := txt_toList _
  have tb : (txt e.key).toList = e.key := txt_toList _
  have HW : Hid (IntKind.i64.wrap (n : Int) = (n : Int)) := Lib.hid (Go.IntWalk.i64_in _ (by omega))
  have HGT : Hid (∀ W, Below (((w.alloc (.cells #[.string (txt a.name), .string (txt a.key), .int .i64 a.kind, .int .u64 (a.num : Int), .string (txt a.text), .slice A f.len c] 27)).alloc (.cells #[.string (txt e.name), .string (txt e.key), .int .i64 e.kind, .int .u64 (e.num : Int), .string (txt e.text), .slice E eg.len ec] 27)).alloc (.cells #[.string ⟨#[]⟩, .string ⟨#[]⟩, .int .i64 0, .int .u64 0, .string ⟨#[]⟩, .slice none 0 0] 27)).heap.size (((w.alloc (.cells #[.string (txt a.name), .string (txt a.key), .int .i64 a.kind, .int .u64 (a.num : Int), .string (txt a.text), .slice A f.len c] 27)).alloc (.cells #[.string (txt e.name), .string (txt e.key), .int .i64 e.kind, .int .u64 (e.num : Int), .string (txt e.text), .slice E eg.len ec] 27)).alloc (.cells #[.string ⟨#[]⟩, .string ⟨#[]⟩, .int .i64 0, .int .u64 0, .string ⟨#[]⟩, .slice none 0 0] 27)) W → Calls Try.prog 21 #[.agg #[.string (txt a.name), .string (txt a.key), .int .i64 a.kind, .int .u64 (a.num : Int), .string (txt a.text), .slice A f.len c], .slice (some ⟨g, o, none⟩) n m] W (PTreP d (pa, pf) (.bool true) W)) := Lib.hid (fun W hW => hG W (HB.out.trans (hW.mono HB.out.size)))
  have k1 : (pa.kind == 0) = true := beq_iff_eq.2 hk
  have k2 : (pa.kind != 0) = false := by simp [hk]
  have HST := Lib.hid hS
  have HD := Lib.hid hd
  clear hk hS
  clear hx hd hst hs1 hs2 hG
  go_enter Try.func23, Try.ntmps23
  go_wp2_with fail
  refine wp_region_noPanic ?_
  refine wp_region_held_drew (S := fun _ => True) (by kernel_rfl) trivial (fun hS => ?_)
  refine held_more (S' := fun w' => Blk w' (w.heap.size + 1) 27 #[.string (txt e.name), .string (txt e.key), .int .i64 e.kind, .int .u64 (e.num : Int), .string (txt e.text), .slice E eg.len ec] ∧ Stp0 w' g (o + n * 2) s) (fun _ _ => trivial) _ _ _ _ ?_
  replace hS := And.intro (HE.out.below (Below.refl _ _).drew HE.out.lt) HSt.out
  refine wpAnyH_take (i := 0) (oi := ?o7_0_1) (v := ?v7_0_1) ?i7_0_1 (by kernel_rfl) (by kernel_rfl) (by kernel_rfl) (fun _ _ _ h => h) (Or.inl ⟨?g7_0_1, ?y7_0_1⟩) hS ?_
  case i7_0_1 => simp only [List.getElem?_toArray, List.getElem?_cons_succ, List.getElem?_cons_zero]; rfl
  case g7_0_1 => rfl
  case y7_0_1 => (intro w hSw; (go_simp <;> with_reducible rfl))
  (try simp only [Act.put, List.setIfInBounds_toArray, List.set_cons_zero, List.set_cons_succ])
  refine wpAnyH_take (i := 1) (oi := ?o7_1_2) (v := ?v7_1_2) ?i7_1_2 (by kernel_rfl) (by kernel_rfl) (by kernel_rfl) (fun _ _ _ h => h) (Or.inl ⟨?g7_1_2, ?y7_1_2⟩) hS ?_
  case i7_1_2 => simp only [List.getElem?_toArray, List.getElem?_cons_succ, List.getElem?_cons_zero]; rfl
  case g7_1_2 => rfl
  case y7_1_2 => (intro w hSw; (go_simp <;> with_reducible rfl))
  (try simp only [Act.put, List.setIfInBounds_toArray, List.set_cons_zero, List.set_cons_succ])
  refine wpAnyH_take (i := 2) (oi := ?o7_2_3) (v := ?v7_2_3) ?i7_2_3 (by kernel_rfl) (by kernel_rfl) (by kernel_rfl) (fun _ _ _ h => h) (Or.inl ⟨?g7_2_3, ?y7_2_3⟩) hS ?_
  case i7_2_3 => simp only [List.getElem?_toArray, List.getElem?_cons_succ, List.getElem?_cons_zero]; rfl
  case g7_2_3 => rfl
  case y7_2_3 => (intro w hSw; (go_simp <;> with_reducible rfl))
  (try simp only [Act.put, List.setIfInBounds_toArray, List.set_cons_zero, List.set_cons_succ])
  refine wpAnyH_take (i := 3) (oi := ?o7_3_4) (v := ?v7_3_4) ?i7_3_4 (by kernel_rfl) (by kernel_rfl) (by kernel_rfl) (fun _ _ _ h => h) (Or.inl ⟨?g7_3_4, ?y7_3_4⟩) hS ?_
  case i7_3_4 => simp only [List.getElem?_toArray, List.getElem?_cons_succ, List.getElem?_cons_zero]; rfl
  case g7_3_4 => rfl
  case y7_3_4 => (intro w hSw; (go_simp <;> with_reducible rfl))
  (try simp only [Act.put, List.setIfInBounds_toArray, List.set_cons_zero, List.set_cons_succ])
  refine wpAnyH_take (i := 4) (oi := ?o7_4_5) (v := ?v7_4_5) ?i7_4_5 (by kernel_rfl) (by kernel_rfl) (by kernel_rfl) (fun _ _ _ h => h) (Or.inl ⟨?g7_4_5, ?y7_4_5⟩) hS ?_
  case i7_4_5 => simp only [List.getElem?_toArray, List.getElem?_cons_succ, List.getElem?_cons_zero]; rfl
  case g7_4_5 => rfl
  case y7_4_5 => (intro w hSw; (go_simp <;> with_reducible rfl))
  (try simp only [Act.put, List.setIfInBounds_toArray, List.set_cons_zero, List.set_cons_succ])
  refine wpAnyH_take (i := 5) (oi := ?o7_5_6) (v := ?v7_5_6) ?i7_5_6 (by kernel_rfl) (by kernel_rfl) (by kernel_rfl) (fun _ _ _ h => h) (Or.inl ⟨?g7_5_6, ?y7_5_6⟩) hS ?_
  case i7_5_6 => simp only [List.getElem?_toArray, List.getElem?_cons_succ, List.getElem?_cons_zero]; rfl
  case g7_5_6 => rfl
  case y7_5_6 => (intro w hSw; (go_simp <;> with_reducible rfl))
  (try simp only [Act.put, List.setIfInBounds_toArray, List.set_cons_zero, List.set_cons_succ])
  refine wpAnyH_take (i := 6) (oi := ?o7_6_7) (v := ?v7_6_7) ?i7_6_7 (by kernel_rfl) (by kernel_rfl) (by kernel_rfl) (fun _ _ _ h => h) (Or.inl ⟨?g7_6_7, ?y7_6_7⟩) hS ?_
  case i7_6_7 => simp only [List.getElem?_toArray, List.getElem?_cons_succ, List.getElem?_cons_zero]; rfl
  case g7_6_7 => rfl
  case y7_6_7 => (intro w hSw; (go_simp <;> with_reducible rfl))
  (try simp only [Act.put, List.setIfInBounds_toArray, List.set_cons_zero, List.set_cons_succ])
  refine wpAnyH_take (i := 7) (oi := ?o7_7_8) (v := ?v7_7_8) ?i7_7_8 (by kernel_rfl) (by kernel_rfl) (by kernel_rfl) (fun _ _ _ h => h) (Or.inl ⟨?g7_7_8, ?y7_7_8⟩) hS ?_
  case i7_7_8 => simp only [List.getElem?_toArray, List.getElem?_cons_succ, List.getElem?_cons_zero]; rfl
  case g7_7_8 => rfl
  case y7_7_8 => (intro w hSw; have q0 := hSw.2.1; (go_simp <;> with_reducible rfl))
  (try simp only [Act.put, List.setIfInBounds_toArray, List.set_cons_zero, List.set_cons_succ])
  refine wpAnyH_take (i := 8) (oi := ?o7_8_9) (v := ?v7_8_9) ?i7_8_9 (by kernel_rfl) (by kernel_rfl) (by kernel_rfl) (fun _ _ _ h => h) (Or.inl ⟨?g7_8_9, ?y7_8_9⟩) hS ?_
  case i7_8_9 => simp only [List.getElem?_toArray, List.getElem?_cons_succ, List.getElem?_cons_zero]; rfl
  case g7_8_9 => rfl
  case y7_8_9 => (intro w hSw; (go_simp <;> with_reducible rfl))
  (try simp only [Act.put, List.setIfInBounds_toArray, List.set_cons_zero, List.set_cons_succ])
  refine wpAnyH_take (i := 9) (oi := ?o7_9_10) (v := ?v7_9_10) ?i7_9_10 (by kernel_rfl) (by kernel_rfl) (by kernel_rfl) (fun _ _ _ h => h) (Or.inl ⟨?g7_9_10, ?y7_9_10⟩) hS ?_
  case i7_9_10 => simp only [List.getElem?_toArray, List.getElem?_cons_succ, List.getElem?_cons_zero]; rfl
  case g7_9_10 => rfl
  case y7_9_10 => (intro w hSw; have q0 := (hSw.1.cell 0).trans rfl; (go_simp <;> with_reducible rfl))
  (try simp only [Act.put, List.setIfInBounds_toArray, List.set_cons_zero, List.set_cons_succ])
  refine wpAnyH_take (i := 10) (oi := ?o7_10_11) (v := ?v7_10_11) ?i7_10_11 (by kernel_rfl) (by kernel_rfl) (by kernel_rfl) (fun _ _ _ h => h) (Or.inl ⟨?g7_10_11, ?y7_10_11⟩) hS ?_
  case i7_10_11 => simp only [List.getElem?_toArray, List.getElem?_cons_succ, List.getElem?_cons_zero]; rfl
  case g7_10_11 => rfl
  case y7_10_11 => (intro w hSw; (go_simp <;> with_reducible rfl))
  (try simp only [Act.put, List.setIfInBounds_toArray, List.set_cons_zero, List.set_cons_succ])
  refine wpAnyH_take (i := 11) (oi := ?o7_11_12) (v := ?v7_11_12) ?i7_11_12 (by kernel_rfl) (by kernel_rfl) (by kernel_rfl) (fun _ _ _ h => h) (Or.inl ⟨?g7_11_12, ?y7_11_12⟩) hS ?_
  case i7_11_12 => simp only [List.getElem?_toArray, List.getElem?_cons_succ, List.getElem?_cons_zero]; rfl
  case g7_11_12 => rfl
  case y7_11_12 => (intro w hSw; (go_simp <;> with_reducible rfl))
  (try simp only [Act.put, List.setIfInBounds_toArray, List.set_cons_zero, List.set_cons_succ])
  refine wpAnyH_take (i := 12) (oi := ?o7_12_13) (v := ?v7_12_13) ?i7_12_13 (by kernel_rfl) (by kernel_rfl) (by kernel_rfl) (fun _ _ _ h => h) (Or.inl ⟨?g7_12_13, ?y7_12_13⟩) hS ?_
  case i7_12_13 => simp only [List.getElem?_toArray, List.getElem?_cons_succ, List.getElem?_cons_zero]; rfl
  case g7_12_13 => rfl
  case y7_12_13 => (intro w hSw; (go_simp <;> with_reducible rfl))
  (try simp only [Act.put, List.setIfInBounds_toArray, List.set_cons_zero, List.set_cons_succ])
  refine wpAnyH_take (i := 13) (oi := ?o7_13_14) (v := ?v7_13_14) ?i7_13_14 (by kernel_rfl) (by kernel_rfl) (by kernel_rfl) (fun _ _ _ h => h) (Or.inl ⟨?g7_13_14, ?y7_13_14⟩) hS ?_
  case i7_13_14 => simp only [List.getElem?_toArray, List.getElem?_cons_succ, List.getElem?_cons_zero]; rfl
  case g7_13_14 => rfl
  case y7_13_14 => (intro w hSw; (go_simp <;> with_reducible rfl))
  (try simp only [Act.put, List.setIfInBounds_toArray, List.set_cons_zero, List.set_cons_succ])
  refine wpAnyH_take (i := 14) (oi := ?o7_14_15) (v := ?v7_14_15) ?i7_14_15 (by kernel_rfl) (by kernel_rfl) (by kernel_rfl) (fun _ _ _ h => h) (Or.inl ⟨?g7_14_15, ?y7_14_15⟩) hS ?_
  case i7_14_15 => simp only [List.getElem?_toArray, List.getElem?_cons_succ, List.getElem?_cons_zero]; rfl
  case g7_14_15 => rfl
  case y7_14_15 => (intro w hSw; (go_simp <;> with_reducible rfl))
  (try simp only [Act.put, List.setIfInBounds_toArray, List.set_cons_zero, List.set_cons_succ])
  refine wpAnyH_take (i := 15) (oi := ?o7_15_16) (v := ?v7_15_16) ?i7_15_16 (by kernel_rfl) (by kernel_rfl) (by kernel_rfl) (fun _ _ _ h => h) (Or.inl ⟨?g7_15_16, ?y7_15_16⟩) hS ?_
  case i7_15_16 => simp only [List.getElem?_toArray, List.getElem?_cons_succ, List.getElem?_cons_zero]; rfl
  case g7_15_16 => rfl
  case y7_15_16 => (intro w hSw; (go_simp <;> with_reducible rfl))
  (try simp only [Act.put, List.setIfInBounds_toArray, List.set_cons_zero, List.set_cons_succ])
  refine wpAnyH_take (i := 16) (oi := ?o7_16_17) (v := ?v7_16_17) ?i7_16_17 (by kernel_rfl) (by kernel_rfl) (by kernel_rfl) (fun _ _ _ h => h) (Or.inl ⟨?g7_16_17, ?y7_16_17⟩) hS ?_
  case i7_16_17 => simp only [List.getElem?_toArray, List.getElem?_cons_succ, List.getElem?_cons_zero]; rfl
  case g7_16_17 => rfl
  case y7_16_17 => (intro w hSw; (go_simp <;> with_reducible rfl))
  (try simp only [Act.put, List.setIfInBounds_toArray, List.set_cons_zero, List.set_cons_succ])
  refine wpAnyH_take (i := 17) (oi := ?o7_17_18) (v := ?v7_17_18) ?i7_17_18 (by kernel_rfl) (by kernel_rfl) (by kernel_rfl) (fun _ _ _ h => h) (Or.inl ⟨?g7_17_18, ?y7_17_18⟩) hS ?_
  case i7_17_18 => simp only [List.getElem?_toArray, List.getElem?_cons_succ, List.getElem?_cons_zero]; rfl
  case g7_17_18 => rfl
  case y7_17_18 => (intro w hSw; have q0 := hSw.2.2; (go_simp <;> with_reducible rfl))
  (try simp only [Act.put, List.setIfInBounds_toArray, List.set_cons_zero, List.set_cons_succ])
  refine wpAnyH_take (i := 18) (oi := ?o7_18_19) (v := ?v7_18_19) ?i7_18_19 (by kernel_rfl) (by kernel_rfl) (by kernel_rfl) (fun _ _ _ h => h) (Or.inl ⟨?g7_18_19, ?y7_18_19⟩) hS ?_
  case i7_18_19 => simp only [List.getElem?_toArray, List.getElem?_cons_succ, List.getElem?_cons_zero]; rfl
  case g7_18_19 => rfl
  case y7_18_19 => (intro w hSw; (go_simp <;> with_reducible rfl))
  (try simp only [Act.put, List.setIfInBounds_toArray, List.set_cons_zero, List.set_cons_succ])
  refine wpAnyH_take (i := 19) (oi := ?o7_19_20) (v := ?v7_19_20) ?i7_19_20 (by kernel_rfl) (by kernel_rfl) (by kernel_rfl) (fun _ _ _ h => h) (Or.inl ⟨?g7_19_20, ?y7_19_20⟩) hS ?_
  case i7_19_20 => simp only [List.getElem?_toArray, List.getElem?_cons_succ, List.getElem?_cons_zero]; rfl
  case g7_19_20 => rfl
  case y7_19_20 => (intro w hSw; have q0 := (hSw.1.cell 1).trans rfl; (go_simp <;> with_reducible rfl))
  (try simp only [Act.put, List.setIfInBounds_toArray, List.set_cons_zero, List.set_cons_succ])
  refine wpAnyH_take (i := 20) (oi := ?o7_20_21) (v := ?v7_20_21) ?i7_20_21 (by kernel_rfl) (by kernel_rfl) (by kernel_rfl) (fun _ _ _ h => h) (Or.inl ⟨?g7_20_21, ?y7_20_21⟩) hS ?_
  case i7_20_21 => simp only [List.getElem?_toArray, List.getElem?_cons_succ, List.getElem?_cons_zero]; rfl
  case g7_20_21 => rfl
  case y7_20_21 => (intro w hSw; (go_simp <;> with_reducible rfl))
  (try simp only [Act.put, List.setIfInBounds_toArray, List.set_cons_zero, List.set_cons_succ])
  refine wpAnyH_take (i := 21) (oi := ?o7_21_22) (v := ?v7_21_22) ?i7_21_22 (by kernel_rfl) (by kernel_rfl) (by kernel_rfl) (fun _ _ _ h => h) (Or.inl ⟨?g7_21_22, ?y7_21_22⟩) hS ?_
  case i7_21_22 => simp only [List.getElem?_toArray, List.getElem?_cons_succ, List.getElem?_cons_zero]; rfl
  case g7_21_22 => rfl
  case y7_21_22 => (intro w hSw; (go_simp <;> with_reducible rfl))
  (try simp only [Act.put, List.setIfInBounds_toArray, List.set_cons_zero, List.set_cons_succ])
  refine wpAnyH_done (by kernel_rfl) ?_ _
  refine NoPanic.normal ?_
  clear hS
  go_wp2_with fail
  replace HX := Lib.hid (HX.out.below (Below.refl _ _).drew HX.out.lt)
  replace HE := Lib.hid (HE.out.below (Below.refl _ _).drew HE.out.lt)
  replace HZ := Lib.hid (HZ.out.below (Below.refl _ _).drew HZ.out.lt)
  replace HB := Lib.hid HB.out.drew
  replace HGT := Lib.hid (fun (W : World) (hW : Below (((w.alloc (.cells #[.string (txt a.name), .string (txt a.key), .int .i64 a.kind, .int .u64 (a.num : Int), .string (txt a.text), .slice A f.len c] 27)).alloc (.cells #[.string (txt e.name), .string (txt e.key), .int .i64 e.kind, .int .u64 (e.num : Int), .string (txt e.text), .slice E eg.len ec] 27)).alloc (.cells #[.string ⟨#[]⟩, .string ⟨#[]⟩, .int .i64 0, .int .u64 0, .string ⟨#[]⟩, .slice none 0 0] 27)).drew.heap.size (((w.alloc (.cells #[.string (txt a.name), .string (txt a.key), .int .i64 a.kind, .int .u64 (a.num : Int), .string (txt a.text), .slice A f.len c] 27)).alloc (.cells #[.string (txt e.name), .string (txt e.key), .int .i64 e.kind, .int .u64 (e.num : Int), .string (txt e.text), .slice E eg.len ec] 27)).alloc (.cells #[.string ⟨#[]⟩, .string ⟨#[]⟩, .int .i64 0, .int .u64 0, .string ⟨#[]⟩, .slice none 0 0] 27)).drew W) => HGT.out W ((Below.refl _ _).drew.trans hW))
  clear HSt HW
  revert HX HE HZ HB HGT
  generalize (((w.alloc (.cells #[.string (txt a.name), .string (txt a.key), .int .i64 a.kind, .int .u64 (a.num : Int), .string (txt a.text), .slice A f.len c] 27)).alloc (.cells #[.string (txt e.name), .string (txt e.key), .int .i64 e.kind, .int .u64 (e.num : Int), .string (txt e.text), .slice E eg.len ec] 27)).alloc (.cells #[.string ⟨#[]⟩, .string ⟨#[]⟩, .int .i64 0, .int .u64 0, .string ⟨#[]⟩, .slice none 0 0] 27)).drew = w4
  intro HX HE HZ HB HGT
  refine wp_region_noPanic ?_
  refine wp_region_held_drew (S := fun _ => True) (by kernel_rfl) trivial (fun hS => ?_)
  refine held_more (S' := fun w' => Blk w' w.heap.size 27 #[.string (txt a.name), .string (txt a.key), .int .i64 a.kind, .int .u64 (a.num : Int), .string (txt a.text), .slice A f.len c]) (fun _ _ => trivial) _ _ _ _ ?_
  replace hS := HX.out.below (Below.refl _ _).drew HX.out.lt
  refine wpAnyH_take (i := 0) (oi := ?o8_0_1) (v := ?v8_0_1) ?i8_0_1 (by kernel_rfl) (by kernel_rfl) (by kernel_rfl) (fun _ _ _ h => h) (Or.inl ⟨?g8_0_1, ?y8_0_1⟩) hS ?_
  case i8_0_1 => simp only [List.getElem?_toArray, List.getElem?_cons_succ, List.getElem?_cons_zero]; rfl
  case g8_0_1 => rfl
  case y8_0_1 => (intro w hSw; have q0 := (hSw.cell 0).trans rfl; have q1 := (hSw.cell 1).trans rfl; have q2 := (hSw.cell 2).trans rfl; have q3 := (hSw.cell 3).trans rfl; have q4 := (hSw.cell 4).trans rfl; have q5 := (hSw.cell 5).trans rfl; (go_simp <;> with_reducible rfl))
  (try simp only [Act.put, List.setIfInBounds_toArray, List.set_cons_zero, List.set_cons_succ])
  refine wpAnyH_take (i := 1) (oi := ?o8_1_2) (v := ?v8_1_2) ?i8_1_2 (by kernel_rfl) (by kernel_rfl) (by kernel_rfl) (fun _ _ _ h => h) (Or.inl ⟨?g8_1_2, ?y8_1_2⟩) hS ?_
  case i8_1_2 => simp only [List.getElem?_toArray, List.getElem?_cons_succ, List.getElem?_cons_zero]; rfl
  case g8_1_2 => rfl
  case y8_1_2 => (intro w hSw; (go_simp <;> with_reducible rfl))
  (try simp only [Act.put, List.setIfInBounds_toArray, List.set_cons_zero, List.set_cons_succ])
  refine wpAnyH_take (i := 2) (oi := ?o8_2_3) (v := ?v8_2_3) ?i8_2_3 (by kernel_rfl) (by kernel_rfl) (by kernel_rfl) (fun _ _ _ h => h) (Or.inl ⟨?g8_2_3, ?y8_2_3⟩) hS ?_
  case i8_2_3 => simp only [List.getElem?_toArray, List.getElem?_cons_succ, List.getElem?_cons_zero]; rfl
  case g8_2_3 => rfl
  case y8_2_3 => (intro w hSw; (go_simp <;> with_reducible rfl))
  (try simp only [Act.put, List.setIfInBounds_toArray, List.set_cons_zero, List.set_cons_succ])
  refine wpAnyH_take (i := 3) (oi := ?o8_3_4) (v := ?v8_3_4) ?i8_3_4 (by kernel_rfl) (by kernel_rfl) (by kernel_rfl) (fun _ _ _ h => h) (Or.inl ⟨?g8_3_4, ?y8_3_4⟩) hS ?_
  case i8_3_4 => simp only [List.getElem?_toArray, List.getElem?_cons_succ, List.getElem?_cons_zero]; rfl
  case g8_3_4 => rfl
  case y8_3_4 => (intro w hSw; (go_simp <;> with_reducible rfl))
  (try simp only [Act.put, List.setIfInBounds_toArray, List.set_cons_zero, List.set_cons_succ])
  refine wpAnyH_ready (rs := [4, 8]) (by kernel_rfl) (by simp) ?_
  refine (AllReadyH.cons (o := ?or8_5_4) ?ir8_5_4 (fun K hK => ?str8_5_4) (AllReadyH.cons (o := ?or8_5_8) ?ir8_5_8 (fun K hK => ?str8_5_8) AllReadyH.nil))
  case ir8_5_4 => simp only [List.getElem?_toArray, List.getElem?_cons_succ, List.getElem?_cons_zero]; rfl
  case ir8_5_8 => simp only [List.getElem?_toArray, List.getElem?_cons_succ, List.getElem?_cons_zero]; rfl
  case' str8_5_4 =>
    rw [if_pos (by rfl)]
    go_simp
    refine (HGT.out w4.drew (Below.refl _ _).drew).mono ?_
    intro r w6 hr
    obtain ⟨A6, c6, rfl, hl6, hb6⟩ := hr.flat
    have HB6 := Lib.hid (HB.out.drew.trans (hb6.mono HB.out.drew.size))
    have HW6 : Hid (Below w4.heap.size w4 w6) := Lib.hid ((Below.refl w4.heap.size w4).drew.trans hb6)
    have HX6 := Lib.hid (HX.out.below HW6.out HX.out.lt)
    clear hb6 hr hl6
    go_wp2_with fail
    refine hK.out _ _ ?sr8_5_4 (fun hS => ?_)
    case sr8_5_4 => (exact HX6.out)
    clear hK K
    (try simp only [Act.put, List.setIfInBounds_toArray, List.set_cons_zero, List.set_cons_succ])
    refine wpAnyH_take (i := 5) (oi := ?o8_5_6) (v := ?v8_5_6) ?i8_5_6 (by kernel_rfl) (by kernel_rfl) (by kernel_rfl) (fun _ _ _ h => h) (Or.inl ⟨?g8_5_6, ?y8_5_6⟩) hS ?_
    case i8_5_6 => simp only [List.getElem?_toArray, List.getElem?_cons_succ, List.getElem?_cons_zero]; rfl
    case g8_5_6 => rfl
    case y8_5_6 => (intro w hSw; (go_simp <;> with_reducible rfl))
    (try simp only [Act.put, List.setIfInBounds_toArray, List.set_cons_zero, List.set_cons_succ])
    refine wpAnyH_take (i := 6) (oi := ?o8_6_7) (v := ?v8_6_7) ?i8_6_7 (by kernel_rfl) (by kernel_rfl) (by kernel_rfl) (fun _ _ _ h => h) (Or.inl ⟨?g8_6_7, ?y8_6_7⟩) hS ?_
    case i8_6_7 => simp only [List.getElem?_toArray, List.getElem?_cons_succ, List.getElem?_cons_zero]; rfl
    case g8_6_7 => rfl
    case y8_6_7 => (intro w hSw; (go_simp <;> with_reducible rfl))
    (try simp only [Act.put, List.setIfInBounds_toArray, List.set_cons_zero, List.set_cons_succ])
    refine wpAnyH_take (i := 7) (oi := ?o8_7_8) (v := ?v8_7_8) ?i8_7_8 (by kernel_rfl) (by kernel_rfl) (by kernel_rfl) (fun _ _ _ h => h) (Or.inl ⟨?g8_7_8, ?y8_7_8⟩) hS ?_
    case i8_7_8 => simp only [List.getElem?_toArray, List.getElem?_cons_succ, List.getElem?_cons_zero]; rfl
    case g8_7_8 => rfl
    case y8_7_8 => (intro w hSw; (go_simp <;> with_reducible rfl))
    (try simp only [Act.put, List.setIfInBounds_toArray, List.set_cons_zero, List.set_cons_succ])
    refine wpAnyH_ready (rs := [8]) (by kernel_rfl) (by simp) ?_
    refine (AllReadyH.cons (o := ?or8_9_8) ?ir8_9_8 (fun K hK => ?str8_9_8) AllReadyH.nil)
    case ir8_9_8 => simp only [List.getElem?_toArray, List.getElem?_cons_succ, List.getElem?_cons_zero]; rfl
    rw [if_pos (by rfl)]
    go_simp
    refine hK.out _ _ ?sr8_9_8 (fun hS => ?_)
    case sr8_9_8 => (exact HX6.out.alloc _)
    clear hK K
    (try simp only [Act.put, List.setIfInBounds_toArray, List.set_cons_zero, List.set_cons_succ])
    refine wpAnyH_ready (rs := [9]) (by kernel_rfl) (by simp) ?_
    refine (AllReadyH.cons (o := ?or8_10_9) ?ir8_10_9 (fun K hK => ?str8_10_9) AllReadyH.nil)
    case ir8_10_9 => simp only [List.getElem?_toArray, List.getElem?_cons_succ, List.getElem?_cons_zero]; rfl
    rw [if_pos (by rfl)]
    go_simp
    refine hK.out _ _ ?sr8_10_9 (fun hS => ?_)
    case sr8_10_9 => (exact HX6.out.alloc _)
    clear hK K
    (try simp only [Act.put, List.setIfInBounds_toArray, List.set_cons_zero, List.set_cons_succ])
    refine wpAnyH_take (i := 10) (oi := ?o8_10_11) (v := ?v8_10_11) ?i8_10_11 (by kernel_rfl) (by kernel_rfl) (by kernel_rfl) (fun _ _ _ h => h) (Or.inl ⟨?g8_10_11, ?y8_10_11⟩) hS ?_
    case i8_10_11 => simp only [List.getElem?_toArray, List.getElem?_cons_succ, List.getElem?_cons_zero]; rfl
    case g8_10_11 => rfl
    case y8_10_11 => (intro w hSw; (go_simp <;> with_reducible rfl))
    (try simp only [Act.put, List.setIfInBounds_toArray, List.set_cons_zero, List.set_cons_succ])
    refine wpAnyH_done (by kernel_rfl) ?_ _
    refine NoPanic.normal ?_
  case' str8_5_8 =>
    rw [if_pos (by rfl)]
    go_simp
    refine hK.out _ _ ?sr8_5_8 (fun hS => ?_)
    case sr8_5_8 => (exact Blk.alloc (w := w4) HX.out _)
    clear hK K
    (try simp only [Act.put, List.setIfInBounds_toArray, List.set_cons_zero, List.set_cons_succ])
    refine wpAnyH_ready (rs := [4]) (by kernel_rfl) (by simp) ?_
    refine (AllReadyH.cons (o := ?or8_12_4) ?ir8_12_4 (fun K hK => ?str8_12_4) AllReadyH.nil)
    case ir8_12_4 => simp only [List.getElem?_toArray, List.getElem?_cons_succ, List.getElem?_cons_zero]; rfl
    rw [if_pos (by rfl)]
    go_simp
    refine (HGT.out (w4.alloc (.cells #[.string ⟨#[]⟩, .string ⟨#[]⟩, .int .i64 0, .int .u64 0, .string ⟨#[]⟩, .slice none 0 0] 27)).drew ((Below.refl _ _).alloc (Nat.le_refl _) _).drew).mono ?_
    intro r w6 hr
    obtain ⟨A6, c6, rfl, hl6, hb6⟩ := hr.flat
    have HB6 := Lib.hid ((HB.out.alloc HB.out.size (.cells #[.string ⟨#[]⟩, .string ⟨#[]⟩, .int .i64 0, .int .u64 0, .string ⟨#[]⟩, .slice none 0 0] 27)).drew.trans (hb6.mono (HB.out.alloc HB.out.size (.cells #[.string ⟨#[]⟩, .string ⟨#[]⟩, .int .i64 0, .int .u64 0, .string ⟨#[]⟩, .slice none 0 0] 27)).drew.size))
    have HW6 : Hid (Below w4.heap.size w4 w6) := Lib.hid (((Below.refl _ _).alloc (Nat.le_refl _) (.cells #[.string ⟨#[]⟩, .string ⟨#[]⟩, .int .i64 0, .int .u64 0, .string ⟨#[]⟩, .slice none 0 0] 27)).drew.trans (hb6.mono (by simp)))
    have HP6 : Hid (Blk w6 w4.heap.size 27 #[.string ⟨#[]⟩, .string ⟨#[]⟩, .int .i64 0, .int .u64 0, .string ⟨#[]⟩, .slice none 0 0]) := Lib.hid ((((Blk.new w4 27 #[.string ⟨#[]⟩, .string ⟨#[]⟩, .int .i64 0, .int .u64 0, .string ⟨#[]⟩, .slice none 0 0]).below (Below.refl _ _).drew (Blk.new w4 27 #[.string ⟨#[]⟩, .string ⟨#[]⟩, .int .i64 0, .int .u64 0, .string ⟨#[]⟩, .slice none 0 0]).lt)).below hb6 (Blk.new w4 27 #[.string ⟨#[]⟩, .string ⟨#[]⟩, .int .i64 0, .int .u64 0, .string ⟨#[]⟩, .slice none 0 0]).lt)
    have HX6 := Lib.hid (HX.out.below HW6.out HX.out.lt)
    clear hb6 hr hl6
    go_wp2_with fail
    refine hK.out _ _ ?sr8_12_4 (fun hS => ?_)
    case sr8_12_4 => (exact HX6.out)
    clear hK K
    (try simp only [Act.put, List.setIfInBounds_toArray, List.set_cons_zero, List.set_cons_succ])
    refine wpAnyH_take (i := 5) (oi := ?o8_5_13) (v := ?v8_5_13) ?i8_5_13 (by kernel_rfl) (by kernel_rfl) (by kernel_rfl) (fun _ _ _ h => h) (Or.inl ⟨?g8_5_13, ?y8_5_13⟩) hS ?_
    case i8_5_13 => simp only [List.getElem?_toArray, List.getElem?_cons_succ, List.getElem?_cons_zero]; rfl
    case g8_5_13 => rfl
    case y8_5_13 => (intro w hSw; (go_simp <;> with_reducible rfl))
    (try simp only [Act.put, List.setIfInBounds_toArray, List.set_cons_zero, List.set_cons_succ])
    refine wpAnyH_take (i := 6) (oi := ?o8_6_14) (v := ?v8_6_14) ?i8_6_14 (by kernel_rfl) (by kernel_rfl) (by kernel_rfl) (fun _ _ _ h => h) (Or.inl ⟨?g8_6_14, ?y8_6_14⟩) hS ?_
    case i8_6_14 => simp only [List.getElem?_toArray, List.getElem?_cons_succ, List.getElem?_cons_zero]; rfl
    case g8_6_14 => rfl
    case y8_6_14 => (intro w hSw; (go_simp <;> with_reducible rfl))
    (try simp only [Act.put, List.setIfInBounds_toArray, List.set_cons_zero, List.set_cons_succ])
    refine wpAnyH_take (i := 7) (oi := ?o8_7_15) (v := ?v8_7_15) ?i8_7_15 (by kernel_rfl) (by kernel_rfl) (by kernel_rfl) (fun _ _ _ h => h) (Or.inl ⟨?g8_7_15, ?y8_7_15⟩) hS ?_
    case i8_7_15 => simp only [List.getElem?_toArray, List.getElem?_cons_succ, List.getElem?_cons_zero]; rfl
    case g8_7_15 => rfl
    case y8_7_15 => (intro w hSw; (go_simp <;> with_reducible rfl))
    (try simp only [Act.put, List.setIfInBounds_toArray, List.set_cons_zero, List.set_cons_succ])
    refine wpAnyH_ready (rs := [9]) (by kernel_rfl) (by simp) ?_
    refine (AllReadyH.cons (o := ?or8_16_9) ?ir8_16_9 (fun K hK => ?str8_16_9) AllReadyH.nil)
    case ir8_16_9 => simp only [List.getElem?_toArray, List.getElem?_cons_succ, List.getElem?_cons_zero]; rfl
    rw [if_pos (by rfl)]
    have fz0 : (w6).frozen? ⟨w4.heap.size, 0, none⟩ = false := HP6.out.frozen 0
    have fq0 := (HP6.out.cell 0).trans rfl
    have fz1 : (w6).frozen? ⟨w4.heap.size, 1, none⟩ = false := HP6.out.frozen 1
    have fq1 := (HP6.out.cell 1).trans rfl
    have fz2 : (w6).frozen? ⟨w4.heap.size, 2, none⟩ = false := HP6.out.frozen 2
    have fq2 := (HP6.out.cell 2).trans rfl
    have fz3 : (w6).frozen? ⟨w4.heap.size, 3, none⟩ = false := HP6.out.frozen 3
    have fq3 := (HP6.out.cell 3).trans rfl
    have fz4 : (w6).frozen? ⟨w4.heap.size, 4, none⟩ = false := HP6.out.frozen 4
    have fq4 := (HP6.out.cell 4).trans rfl
    have fz5 : (w6).frozen? ⟨w4.heap.size, 5, none⟩ = false := HP6.out.frozen 5
    have fq5 := (HP6.out.cell 5).trans rfl
    go_simp
    refine hK.out _ _ ?sr8_16_9 (fun hS => ?_)
    case sr8_16_9 => (exact (set6_other (w := w6) (b := w4.heap.size) (by have := HX.out.lt; omega)).trans HX6.out)
    clear hK K
    (try simp only [Act.put, List.setIfInBounds_toArray, List.set_cons_zero, List.set_cons_succ])
    refine wpAnyH_take (i := 10) (oi := ?o8_10_17) (v := ?v8_10_17) ?i8_10_17 (by kernel_rfl) (by kernel_rfl) (by kernel_rfl) (fun _ _ _ h => h) (Or.inl ⟨?g8_10_17, ?y8_10_17⟩) hS ?_
    case i8_10_17 => simp only [List.getElem?_toArray, List.getElem?_cons_succ, List.getElem?_cons_zero]; rfl
    case g8_10_17 => rfl
    case y8_10_17 => (intro w hSw; (go_simp <;> with_reducible rfl))
    (try simp only [Act.put, List.setIfInBounds_toArray, List.set_cons_zero, List.set_cons_succ])
    refine wpAnyH_done (by kernel_rfl) ?_ _
    refine NoPanic.normal ?_
  · skip
    -- the box was made ahead of the call
    clear hS
    have hlx : w.heap.size < w4.heap.size := HX.out.lt
    have hle : w.heap.size + 1 < w4.heap.size := HE.out.lt
    have hlz : w.heap.size + 2 < w4.heap.size := HZ.out.lt
    have HX7 : Hid (Blk (set6 w6 w4.heap.size (.string (txt pa.name)) (.string (txt pa.key)) (.int .i64 pa.kind) (.int .u64 (pa.num : Int)) (.string (txt pa.text)) (.slice A6 pf.len c6)) w.heap.size 27 #[.string (txt a.name), .string (txt a.key), .int .i64 a.kind, .int .u64 (a.num : Int), .string (txt a.text), .slice A f.len c]) := Lib.hid ((set6_other (by omega)).trans HX6.out)
    have HE7 : Hid (Blk (set6 w6 w4.heap.size (.string (txt pa.name)) (.string (txt pa.key)) (.int .i64 pa.kind) (.int .u64 (pa.num : Int)) (.string (txt pa.text)) (.slice A6 pf.len c6)) (w.heap.size + 1) 27 #[.string (txt e.name), .string (txt e.key), .int .i64 e.kind, .int .u64 (e.num : Int), .string (txt e.text), .slice E eg.len ec]) := Lib.hid ((set6_other (by omega)).trans (HE.out.below HW6.out HE.out.lt))
    have HZ7 : Hid (Blk (set6 w6 w4.heap.size (.string (txt pa.name)) (.string (txt pa.key)) (.int .i64 pa.kind) (.int .u64 (pa.num : Int)) (.string (txt pa.text)) (.slice A6 pf.len c6)) (w.heap.size + 2) 27 #[.string ⟨#[]⟩, .string ⟨#[]⟩, .int .i64 0, .int .u64 0, .string ⟨#[]⟩, .slice none 0 0]) := Lib.hid ((set6_other (by omega)).trans (HZ.out.below HW6.out HZ.out.lt))
    have HB7 : Hid (Below w.heap.size w (set6 w6 w4.heap.size (.string (txt pa.name)) (.string (txt pa.key)) (.int .i64 pa.kind) (.int .u64 (pa.num : Int)) (.string (txt pa.text)) (.slice A6 pf.len c6))) := Lib.hid (HB6.out.trans (set6_below (by omega)))
    have HP7 : Hid (Blk (set6 w6 w4.heap.size (.string (txt pa.name)) (.string (txt pa.key)) (.int .i64 pa.kind) (.int .u64 (pa.num : Int)) (.string (txt pa.text)) (.slice A6 pf.len c6)) w4.heap.size 27 #[.string (txt pa.name), .string (txt pa.key), .int .i64 pa.kind, .int .u64 (pa.num : Int), .string (txt pa.text), .slice A6 pf.len c6]) := Lib.hid (HP6.out.set6 _ _ _ _ _ _)
    clear hlx hle hlz
    revert HX7 HE7 HZ7 HB7 HP7
    unfold set6
    generalize (((((w6.setCell ⟨w4.heap.size, 0, none⟩ (.string (txt pa.name))).setCell ⟨w4.heap.size, 1, none⟩ (.string (txt pa.key))).setCell ⟨w4.heap.size, 2, none⟩ (.int .i64 pa.kind)).setCell ⟨w4.heap.size, 3, none⟩ (.int .u64 (pa.num : Int))).setCell ⟨w4.heap.size, 4, none⟩ (.string (txt pa.text))).setCell ⟨w4.heap.size, 5, none⟩ (.slice A6 pf.len c6) = w7
    intro HX7 HE7 HZ7 HB7 HP7
    have p0 := (HP7.out.cell 0).trans rfl
    have p1 := (HP7.out.cell 1).trans rfl
    have p2 := (HP7.out.cell 2).trans rfl
    have p3 := (HP7.out.cell 3).trans rfl
    have p4 := (HP7.out.cell 4).trans rfl
    have p5 := (HP7.out.cell 5).trans rfl
    have q0 := (HX7.out.cell 0).trans rfl
    have q1 := (HX7.out.cell 1).trans rfl
    have q2 := (HX7.out.cell 2).trans rfl
    have q3 := (HX7.out.cell 3).trans rfl
    have q4 := (HX7.out.cell 4).trans rfl
    have q5 := (HX7.out.cell 5).trans rfl
    have x0 := (HE7.out.cell 0).trans rfl
    have x1 := (HE7.out.cell 1).trans rfl
    have x2 := (HE7.out.cell 2).trans rfl
    have x3 := (HE7.out.cell 3).trans rfl
    have x4 := (HE7.out.cell 4).trans rfl
    have x5 := (HE7.out.cell 5).trans rfl
    go_wp2_with fail
    refine (HST.out w7 HB7.out).mono ?_
    intro r w8 hr
    obtain ⟨A8, c8, rfl, hl8, hb8⟩ := hr.flat
    have HL8 := Lib.hid hl8
    have HB8 := Lib.hid (HB7.out.trans (hb8.mono HB7.out.size))
    have HZ8 := Lib.hid (HZ7.out.below hb8 HZ7.out.lt)
    have HSZ := Lib.hid HZ7.out.lt
    clear hb8 hr hl8 p0 p1 p2 p3 p4 p5 q0 q1 q2 q3 q4 q5 x0 x1 x2 x3 x4 x5
    have RZ : Hid (Blk (set6 w8 (w.heap.size + 2) (.string (txt ra.name)) (.string (txt ra.key)) (.int .i64 ra.kind) (.int .u64 (ra.num : Int)) (.string (txt ra.text)) (.slice A8 rf.len c8)) (w.heap.size + 2) 27 #[.string (txt ra.name), .string (txt ra.key), .int .i64 ra.kind, .int .u64 (ra.num : Int), .string (txt ra.text), .slice A8 rf.len c8]) := Lib.hid (HZ8.out.set6 _ _ _ _ _ _)
    have HBZ : Hid (Below w.heap.size w (set6 w8 (w.heap.size + 2) (.string (txt ra.name)) (.string (txt ra.key)) (.int .i64 ra.kind) (.int .u64 (ra.num : Int)) (.string (txt ra.text)) (.slice A8 rf.len c8))) := Lib.hid (HB8.out.trans (set6_below (by omega)))
    have HLZ : Hid (LieP d w.heap.size (set6 w8 (w.heap.size + 2) (.string (txt ra.name)) (.string (txt ra.key)) (.int .i64 ra.kind) (.int .u64 (ra.num : Int)) (.string (txt ra.text)) (.slice A8 rf.len c8)) (ndC ra (.slice A8 rf.len c8)) (ra, rf)) := Lib.hid ((HL8.out.set6 (by have := HD.out; omega) HSZ.out _ _ _ _ _ _).after HB7.out.size)
    have fz0 : (w8).frozen? ⟨w.heap.size + 2, 0, none⟩ = false := HZ8.out.frozen 0
    have fq0 := (HZ8.out.cell 0).trans rfl
    have fz1 : (w8).frozen? ⟨w.heap.size + 2, 1, none⟩ = false := HZ8.out.frozen 1
    have fq1 := (HZ8.out.cell 1).trans rfl
    have fz2 : (w8).frozen? ⟨w.heap.size + 2, 2, none⟩ = false := HZ8.out.frozen 2
    have fq2 := (HZ8.out.cell 2).trans rfl
    have fz3 : (w8).frozen? ⟨w.heap.size + 2, 3, none⟩ = false := HZ8.out.frozen 3
    have fq3 := (HZ8.out.cell 3).trans rfl
    have fz4 : (w8).frozen? ⟨w.heap.size + 2, 4, none⟩ = false := HZ8.out.frozen 4
    have fq4 := (HZ8.out.cell 4).trans rfl
    have fz5 : (w8).frozen? ⟨w.heap.size + 2, 5, none⟩ = false := HZ8.out.frozen 5
    have fq5 := (HZ8.out.cell 5).trans rfl
    go_wp2
    refine bodyPost_ret (res_ct9 rfl _ _ (w.heap.size + 2) 27 _ (0, 0) _ rfl RZ.out Try.underlying27 rfl (by kernel_rfl)) rfl ?_
    exact ⟨_, rfl, HLZ.out, HBZ.out⟩
  · skip
    -- the box was made behind the call
    clear hS
    have HX7 := Lib.hid (HX6.out.alloc (.cells #[.string (txt pa.name), .string (txt pa.key), .int .i64 pa.kind, .int .u64 (pa.num : Int), .string (txt pa.text), .slice A6 pf.len c6] 27))
    have HE7 := Lib.hid ((HE.out.below HW6.out HE.out.lt).alloc (.cells #[.string (txt pa.name), .string (txt pa.key), .int .i64 pa.kind, .int .u64 (pa.num : Int), .string (txt pa.text), .slice A6 pf.len c6] 27))
    have HZ7 := Lib.hid ((HZ.out.below HW6.out HZ.out.lt).alloc (.cells #[.string (txt pa.name), .string (txt pa.key), .int .i64 pa.kind, .int .u64 (pa.num : Int), .string (txt pa.text), .slice A6 pf.len c6] 27))
    have HB7 := Lib.hid (HB6.out.alloc HB6.out.size (.cells #[.string (txt pa.name), .string (txt pa.key), .int .i64 pa.kind, .int .u64 (pa.num : Int), .string (txt pa.text), .slice A6 pf.len c6] 27))
    have HP7 := Lib.hid (Blk.new w6 27 #[.string (txt pa.name), .string (txt pa.key), .int .i64 pa.kind, .int .u64 (pa.num : Int), .string (txt pa.text), .slice A6 pf.len c6])
    revert HX7 HE7 HZ7 HB7 HP7
    generalize w6.alloc (.cells #[.string (txt pa.name), .string (txt pa.key), .int .i64 pa.kind, .int .u64 (pa.num : Int), .string (txt pa.text), .slice A6 pf.len c6] 27) = w7
    generalize w6.heap.size = pb
    intro HX7 HE7 HZ7 HB7 HP7
    have p0 := (HP7.out.cell 0).trans rfl
    have p1 := (HP7.out.cell 1).trans rfl
    have p2 := (HP7.out.cell 2).trans rfl
    have p3 := (HP7.out.cell 3).trans rfl
    have p4 := (HP7.out.cell 4).trans rfl
    have p5 := (HP7.out.cell 5).trans rfl
    have q0 := (HX7.out.cell 0).trans rfl
    have q1 := (HX7.out.cell 1).trans rfl
    have q2 := (HX7.out.cell 2).trans rfl
    have q3 := (HX7.out.cell 3).trans rfl
    have q4 := (HX7.out.cell 4).trans rfl
    have q5 := (HX7.out.cell 5).trans rfl
    have x0 := (HE7.out.cell 0).trans rfl
    have x1 := (HE7.out.cell 1).trans rfl
    have x2 := (HE7.out.cell 2).trans rfl
    have x3 := (HE7.out.cell 3).trans rfl
    have x4 := (HE7.out.cell 4).trans rfl
    have x5 := (HE7.out.cell 5).trans rfl
    go_wp2_with fail
    refine (HST.out w7 HB7.out).mono ?_
    intro r w8 hr
    obtain ⟨A8, c8, rfl, hl8, hb8⟩ := hr.flat
    have HL8 := Lib.hid hl8
    have HB8 := Lib.hid (HB7.out.trans (hb8.mono HB7.out.size))
    have HZ8 := Lib.hid (HZ7.out.below hb8 HZ7.out.lt)
    have HSZ := Lib.hid HZ7.out.lt
    clear hb8 hr hl8 p0 p1 p2 p3 p4 p5 q0 q1 q2 q3 q4 q5 x0 x1 x2 x3 x4 x5
    have RZ : Hid (Blk (set6 w8 (w.heap.size + 2) (.string (txt ra.name)) (.string (txt ra.key)) (.int .i64 ra.kind) (.int .u64 (ra.num : Int)) (.string (txt ra.text)) (.slice A8 rf.len c8)) (w.heap.size + 2) 27 #[.string (txt ra.name), .string (txt ra.key), .int .i64 ra.kind, .int .u64 (ra.num : Int), .string (txt ra.text), .slice A8 rf.len c8]) := Lib.hid (HZ8.out.set6 _ _ _ _ _ _)
    have HBZ : Hid (Below w.heap.size w (set6 w8 (w.heap.size + 2) (.string (txt ra.name)) (.string (txt ra.key)) (.int .i64 ra.kind) (.int .u64 (ra.num : Int)) (.string (txt ra.text)) (.slice A8 rf.len c8))) := Lib.hid (HB8.out.trans (set6_below (by omega)))
    have HLZ : Hid (LieP d w.heap.size (set6 w8 (w.heap.size + 2) (.string (txt ra.name)) (.string (txt ra.key)) (.int .i64 ra.kind) (.int .u64 (ra.num : Int)) (.string (txt ra.text)) (.slice A8 rf.len c8)) (ndC ra (.slice A8 rf.len c8)) (ra, rf)) := Lib.hid ((HL8.out.set6 (by have := HD.out; omega) HSZ.out _ _ _ _ _ _).after HB7.out.size)
    have fz0 : (w8).frozen? ⟨w.heap.size + 2, 0, none⟩ = false := HZ8.out.frozen 0
    have fq0 := (HZ8.out.cell 0).trans rfl
    have fz1 : (w8).frozen? ⟨w.heap.size + 2, 1, none⟩ = false := HZ8.out.frozen 1
    have fq1 := (HZ8.out.cell 1).trans rfl
    have fz2 : (w8).frozen? ⟨w.heap.size + 2, 2, none⟩ = false := HZ8.out.frozen 2
    have fq2 := (HZ8.out.cell 2).trans rfl
    have fz3 : (w8).frozen? ⟨w.heap.size + 2, 3, none⟩ = false := HZ8.out.frozen 3
    have fq3 := (HZ8.out.cell 3).trans rfl
    have fz4 : (w8).frozen? ⟨w.heap.size + 2, 4, none⟩ = false := HZ8.out.frozen 4
    have fq4 := (HZ8.out.cell 4).trans rfl
    have fz5 : (w8).frozen? ⟨w.heap.size + 2, 5, none⟩ = false := HZ8.out.frozen 5
    have fq5 := (HZ8.out.cell 5).trans rfl
    go_wp2
    refine bodyPost_ret (res_ct9 rfl _ _ (w.heap.size + 2) 27 _ (0, 0) _ rfl RZ.out Try.underlying27 rfl (by kernel_rfl)) rfl ?_
    exact ⟨_, rfl, HLZ.out, HBZ.out⟩
end Go.Proofs.Ytgipnemcmiohlaa

