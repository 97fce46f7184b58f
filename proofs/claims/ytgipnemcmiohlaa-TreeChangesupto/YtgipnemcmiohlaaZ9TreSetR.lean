/- What the laws of package tree want of TreSetR. -/
import Derived.Test.YtgipnemcmiohlaaZ9TreWithR
namespace Go.Proofs.Ytgipnemcmiohlaa
open Go.RowKit
set_option linter.unusedSimpArgs false
set_option linter.unusedVariables false
theorem set_boxes (a e : NdD) (f eg : NdF) (A E : Option Addr) (c ec : Nat) (w : World) (hx : LieN w (ndC a (.slice A f.len c)) (a, f)) :
    Blk (((w.alloc (.cells #[.string (txt a.name), .string (txt a.key), .int .i64 a.kind, .int .u64 (a.num : Int), .string (txt a.text), .slice A f.len c] 27)).alloc (.cells #[.string (txt e.name), .string (txt e.key), .int .i64 e.kind, .int .u64 (e.num : Int), .string (txt e.text), .slice E eg.len ec] 27)).alloc (.cells #[.string ⟨#[]⟩, .string ⟨#[]⟩, .int .i64 0, .int .u64 0, .string ⟨#[]⟩, .slice none 0 0] 27)) w.heap.size 27 #[.string (txt a.name), .string (txt a.key), .int .i64 a.kind, .int .u64 (a.num : Int), .string (txt a.text), .slice A f.len c] ∧ Blk (((w.alloc (.cells #[.string (txt a.name), .string (txt a.key), .int .i64 a.kind, .int .u64 (a.num : Int), .string (txt a.text), .slice A f.len c] 27)).alloc (.cells #[.string (txt e.name), .string (txt e.key), .int .i64 e.kind, .int .u64 (e.num : Int), .string (txt e.text), .slice E eg.len ec] 27)).alloc (.cells #[.string ⟨#[]⟩, .string ⟨#[]⟩, .int .i64 0, .int .u64 0, .string ⟨#[]⟩, .slice none 0 0] 27)) (w.heap.size + 1) 27 #[.string (txt e.name), .string (txt e.key), .int .i64 e.kind, .int .u64 (e.num : Int), .string (txt e.text), .slice E eg.len ec] ∧ Blk (((w.alloc (.cells #[.string (txt a.name), .string (txt a.key), .int .i64 a.kind, .int .u64 (a.num : Int), .string (txt a.text), .slice A f.len c] 27)).alloc (.cells #[.string (txt e.name), .string (txt e.key), .int .i64 e.kind, .int .u64 (e.num : Int), .string (txt e.text), .slice E eg.len ec] 27)).alloc (.cells #[.string ⟨#[]⟩, .string ⟨#[]⟩, .int .i64 0, .int .u64 0, .string ⟨#[]⟩, .slice none 0 0] 27)) (w.heap.size + 2) 27 #[.string ⟨#[]⟩, .string ⟨#[]⟩, .int .i64 0, .int .u64 0, .string ⟨#[]⟩, .slice none 0 0] ∧ Below w.heap.size w (((w.alloc (.cells #[.string (txt a.name), .string (txt a.key), .int .i64 a.kind, .int .u64 (a.num : Int), .string (txt a.text), .slice A f.len c] 27)).alloc (.cells #[.string (txt e.name), .string (txt e.key), .int .i64 e.kind, .int .u64 (e.num : Int), .string (txt e.text), .slice E eg.len ec] 27)).alloc (.cells #[.string ⟨#[]⟩, .string ⟨#[]⟩, .int .i64 0, .int .u64 0, .string ⟨#[]⟩, .slice none 0 0] 27)) ∧ LieN (((w.alloc (.cells #[.string (txt a.name), .string (txt a.key), .int .i64 a.kind, .int .u64 (a.num : Int), .string (txt a.text), .slice A f.len c] 27)).alloc (.cells #[.string (txt e.name), .string (txt e.key), .int .i64 e.kind, .int .u64 (e.num : Int), .string (txt e.text), .slice E eg.len ec] 27)).alloc (.cells #[.string ⟨#[]⟩, .string ⟨#[]⟩, .int .i64 0, .int .u64 0, .string ⟨#[]⟩, .slice none 0 0] 27)).drew (ndC a (.slice A f.len c)) (a, f) := by
  have h1 : Blk ((w.alloc (.cells #[.string (txt a.name), .string (txt a.key), .int .i64 a.kind, .int .u64 (a.num : Int), .string (txt a.text), .slice A f.len c] 27)).alloc (.cells #[.string (txt e.name), .string (txt e.key), .int .i64 e.kind, .int .u64 (e.num : Int), .string (txt e.text), .slice E eg.len ec] 27)) (w.heap.size + 1) 27 #[.string (txt e.name), .string (txt e.key), .int .i64 e.kind, .int .u64 (e.num : Int), .string (txt e.text), .slice E eg.len ec] := by
    have h := Blk.new (w.alloc (.cells #[.string (txt a.name), .string (txt a.key), .int .i64 a.kind, .int .u64 (a.num : Int), .string (txt a.text), .slice A f.len c] 27)) 27 #[.string (txt e.name), .string (txt e.key), .int .i64 e.kind, .int .u64 (e.num : Int), .string (txt e.text), .slice E eg.len ec]
    rw [show (w.alloc (.cells #[.string (txt a.name), .string (txt a.key), .int .i64 a.kind, .int .u64 (a.num : Int), .string (txt a.text), .slice A f.len c] 27)).heap.size = w.heap.size + 1 by simp] at h
    exact h
  have h2 : Blk (((w.alloc (.cells #[.string (txt a.name), .string (txt a.key), .int .i64 a.kind, .int .u64 (a.num : Int), .string (txt a.text), .slice A f.len c] 27)).alloc (.cells #[.string (txt e.name), .string (txt e.key), .int .i64 e.kind, .int .u64 (e.num : Int), .string (txt e.text), .slice E eg.len ec] 27)).alloc (.cells #[.string ⟨#[]⟩, .string ⟨#[]⟩, .int .i64 0, .int .u64 0, .string ⟨#[]⟩, .slice none 0 0] 27)) (w.heap.size + 2) 27 #[.string ⟨#[]⟩, .string ⟨#[]⟩, .int .i64 0, .int .u64 0, .string ⟨#[]⟩, .slice none 0 0] := by
    have h := Blk.new ((w.alloc (.cells #[.string (txt a.name), .string (txt a.key), .int .i64 a.kind, .int .u64 (a.num : Int), .string (txt a.text), .slice A f.len c] 27)).alloc (.cells #[.string (txt e.name), .string (txt e.key), .int .i64 e.kind, .int .u64 (e.num : Int), .string (txt e.text), .slice E eg.len ec] 27)) 27 #[.string ⟨#[]⟩, .string ⟨#[]⟩, .int .i64 0, .int .u64 0, .string ⟨#[]⟩, .slice none 0 0]
    rw [show ((w.alloc (.cells #[.string (txt a.name), .string (txt a.key), .int .i64 a.kind, .int .u64 (a.num : Int), .string (txt a.text), .slice A f.len c] 27)).alloc (.cells #[.string (txt e.name), .string (txt e.key), .int .i64 e.kind, .int .u64 (e.num : Int), .string (txt e.text), .slice E eg.len ec] 27)).heap.size = w.heap.size + 2 by simp] at h
    exact h
  have hB : Below w.heap.size w (((w.alloc (.cells #[.string (txt a.name), .string (txt a.key), .int .i64 a.kind, .int .u64 (a.num : Int), .string (txt a.text), .slice A f.len c] 27)).alloc (.cells #[.string (txt e.name), .string (txt e.key), .int .i64 e.kind, .int .u64 (e.num : Int), .string (txt e.text), .slice E eg.len ec] 27)).alloc (.cells #[.string ⟨#[]⟩, .string ⟨#[]⟩, .int .i64 0, .int .u64 0, .string ⟨#[]⟩, .slice none 0 0] 27)) := (((Below.refl _ _).alloc (Nat.le_refl _) _).alloc (by simp) _).alloc (by simp; omega) _
  exact ⟨((Blk.new _ _ _).alloc _).alloc _, h1.alloc _, h2, hB, LieB.below hx hB.drew⟩
set_option maxRecDepth 100000 in
set_option maxHeartbeats 4000000 in
theorem rset_deep (d : Nat) (a e : NdD) (f eg : NdF) (A E : Option Addr) (c ec : Nat) (s t : Stp) (l : List Stp) (g o N m i : Nat) (a1 : NdD) (q : NdF) (za : NdD) (zf Rf : NdF) (w : World) (hd : d ≤ w.heap.size) (hx : LieB d w (ndC a (.slice A f.len c)) (a, f)) (he : LieB d w (ndC e (.slice E eg.len ec)) (e, eg)) (hl : f.len ≤ 1000000)
    (hv : WayV w.heap.size w (.slice (some ⟨g, o, none⟩) N m) (s :: t :: l)) (hf : findN s f = some i) (hy : f.get? i = some (a1, q)) (hR : withF f i 1 (oneF (za, zf)) = Rf)
    (hI : ∀ (cs ds : List Value) (v : Value) (W : World), d ≤ W.heap.size → LieB d W cs (a1, q) → LieB d W ds (e, eg) → WayV W.heap.size W v (t :: l) → Calls Try.prog 38 #[.agg cs.toArray, v, .agg ds.toArray] W (PTreP1 d (za, zf) W)) :
    Calls Try.prog 38 #[.agg #[.string (txt a.name), .string (txt a.key), .int .i64 a.kind, .int .u64 (a.num : Int), .string (txt a.text), .slice A f.len c], .slice (some ⟨g, o, none⟩) N m, .agg #[.string (txt e.name), .string (txt e.key), .int .i64 e.kind, .int .u64 (e.num : Int), .string (txt e.text), .slice E eg.len ec]] w (PTreP1 d (a, Rf) w) := by
  obtain ⟨h1, hbx, h2, h3, h4⟩ := set_boxes a e f eg A E c ec w (hx.keep (fun _ _ => rfl) hd)
  obtain ⟨g', o', eg', hNl, hNm, hg, hs1, hs2⟩ := hv.at (j := 0) (s := s) rfl
  injection eg' with eg'
  injection eg' with eg1 eg2 eg3
  subst eg1 eg2
  have hs : Stp0 w g o s := ⟨by simpa using hs1, by simpa using hs2⟩
  have hN : 0 < N := by rw [hNl]; simp
  have i1 : (0 : Int) < (N : Int) := by omega
  have i2 : (1 : Int) ≤ (N : Int) := by omega
  have i3 : (N : Int) ≤ (m : Int) := by omega
  have HF : Hid (Calls Try.prog 35 #[.agg #[.string (txt a.name), .string (txt a.key), .int .i64 a.kind, .int .u64 (a.num : Int), .string (txt a.text), .slice A f.len c], .agg #[.string (txt s.1), .string (txt s.2)]] (((w.alloc (.cells #[.string (txt a.name), .string (txt a.key), .int .i64 a.kind, .int .u64 (a.num : Int), .string (txt a.text), .slice A f.len c] 27)).alloc (.cells #[.string (txt e.name), .string (txt e.key), .int .i64 e.kind, .int .u64 (e.num : Int), .string (txt e.text), .slice E eg.len ec] 27)).alloc (.cells #[.string ⟨#[]⟩, .string ⟨#[]⟩, .int .i64 0, .int .u64 0, .string ⟨#[]⟩, .slice none 0 0] 27)).drew (Ans9 (.int .i64 (i : Int)) (((w.alloc (.cells #[.string (txt a.name), .string (txt a.key), .int .i64 a.kind, .int .u64 (a.num : Int), .string (txt a.text), .slice A f.len c] 27)).alloc (.cells #[.string (txt e.name), .string (txt e.key), .int .i64 e.kind, .int .u64 (e.num : Int), .string (txt e.text), .slice E eg.len ec] 27)).alloc (.cells #[.string ⟨#[]⟩, .string ⟨#[]⟩, .int .i64 0, .int .u64 0, .string ⟨#[]⟩, .slice none 0 0] 27)).drew)) := Lib.hid (by
    have h := rfindn_any s (a, f) _ (((w.alloc (.cells #[.string (txt a.name), .string (txt a.key), .int .i64 a.kind, .int .u64 (a.num : Int), .string (txt a.text), .slice A f.len c] 27)).alloc (.cells #[.string (txt e.name), .string (txt e.key), .int .i64 e.kind, .int .u64 (e.num : Int), .string (txt e.text), .slice E eg.len ec] 27)).alloc (.cells #[.string ⟨#[]⟩, .string ⟨#[]⟩, .int .i64 0, .int .u64 0, .string ⟨#[]⟩, .slice none 0 0] 27)).drew h4 hl
    rw [show findIx s f = (i : Int) by unfold findIx; rw [hf]] at h
    exact h)
  have hk := LieB.row hx
  have hi := Fr.get_lt hy
  obtain ⟨b, p, A1, c1, rfl, -, -, hbl, hrow, hcl⟩ := hk.at hy
  have hN2 : N = (t :: l).length + 1 := hNl
  have hN3 : 1 < N := by rw [hN2]; simp
  have i4 : (1 : Int) < (N : Int) := by omega
  have hm1 : ¬ m = 1 := by omega
  have j1 : (0 : Int) ≤ (i : Int) := by omega
  have j2 : (i : Int) < (f.len : Int) := by omega
  have HX := Lib.hid h1
  have HE := Lib.hid hbx
  have HZ := Lib.hid h2
  have HB := Lib.hid h3
  have HSt := Lib.hid (hs.below hg h3.drew)
  have HGL := Lib.hid hg
  have HBL := Lib.hid (Nat.lt_of_lt_of_le hbl hd)
  have HD := Lib.hid hd
  have HI := Lib.hid hI
  have HV := Lib.hid hv
  have HC := Lib.hid hcl
  have HR := Lib.hid hrow
  have HK := Lib.hid hk
  have HLE := Lib.hid he
  have HRF := Lib.hid hR
  have HLN := Lib.hid (And.intro hl hi)
  clear h1 h2 h3 h4 hbx hx hl hs hf hg hk hbl hrow hcl hI hv hs1 hs2 hNl hNm hy hi hd he hR hN2
  go_enter Try.func38, Try.ntmps38
  go_wp2_with fail
  refine wp_region_noPanic ?_
  refine wp_region_held_drew (S := fun _ => True) (by kernel_rfl) trivial (fun hS => ?_)
  refine held_more (S' := fun w' => Blk w' w.heap.size 27 #[.string (txt a.name), .string (txt a.key), .int .i64 a.kind, .int .u64 (a.num : Int), .string (txt a.text), .slice (some ⟨b, p, none⟩) f.len c] ∧ Stp0 w' g o s) (fun _ _ => trivial) _ _ _ _ ?_
  replace hS := And.intro (HX.out.below (Below.refl _ _).drew HX.out.lt) HSt.out
  refine wpAnyH_take (i := 0) (oi := ?o1_0_1) (v := ?v1_0_1) ?i1_0_1 (by kernel_rfl) (by kernel_rfl) (by kernel_rfl) (fun _ _ _ h => h) (Or.inl ⟨?g1_0_1, ?y1_0_1⟩) hS ?_
  case i1_0_1 => simp only [List.getElem?_toArray, List.getElem?_cons_succ, List.getElem?_cons_zero]; rfl
  case g1_0_1 => rfl
  case y1_0_1 => (intro w hSw; have q0 := (hSw.1.cell 0).trans rfl; have q1 := (hSw.1.cell 1).trans rfl; have q2 := (hSw.1.cell 2).trans rfl; have q3 := (hSw.1.cell 3).trans rfl; have q4 := (hSw.1.cell 4).trans rfl; have q5 := (hSw.1.cell 5).trans rfl; (go_simp <;> with_reducible rfl))
  (try simp only [Act.put, List.setIfInBounds_toArray, List.set_cons_zero, List.set_cons_succ])
  refine wpAnyH_take (i := 1) (oi := ?o1_1_2) (v := ?v1_1_2) ?i1_1_2 (by kernel_rfl) (by kernel_rfl) (by kernel_rfl) (fun _ _ _ h => h) (Or.inl ⟨?g1_1_2, ?y1_1_2⟩) hS ?_
  case i1_1_2 => simp only [List.getElem?_toArray, List.getElem?_cons_succ, List.getElem?_cons_zero]; rfl
  case g1_1_2 => rfl
  case y1_1_2 => (intro w hSw; (go_simp <;> with_reducible rfl))
  (try simp only [Act.put, List.setIfInBounds_toArray, List.set_cons_zero, List.set_cons_succ])
  refine wpAnyH_take (i := 2) (oi := ?o1_2_3) (v := ?v1_2_3) ?i1_2_3 (by kernel_rfl) (by kernel_rfl) (by kernel_rfl) (fun _ _ _ h => h) (Or.inl ⟨?g1_2_3, ?y1_2_3⟩) hS ?_
  case i1_2_3 => simp only [List.getElem?_toArray, List.getElem?_cons_succ, List.getElem?_cons_zero]; rfl
  case g1_2_3 => rfl
  case y1_2_3 => (intro w hSw; (go_simp <;> with_reducible rfl))
  (try simp only [Act.put, List.setIfInBounds_toArray, List.set_cons_zero, List.set_cons_succ])
  refine wpAnyH_take (i := 3) (oi := ?o1_3_4) (v := ?v1_3_4) ?i1_3_4 (by kernel_rfl) (by kernel_rfl) (by kernel_rfl) (fun _ _ _ h => h) (Or.inl ⟨?g1_3_4, ?y1_3_4⟩) hS ?_
  case i1_3_4 => simp only [List.getElem?_toArray, List.getElem?_cons_succ, List.getElem?_cons_zero]; rfl
  case g1_3_4 => rfl
  case y1_3_4 => (intro w hSw; have q0 := hSw.2.1; have q1 := hSw.2.2; (go_simp <;> with_reducible rfl))
  (try simp only [Act.put, List.setIfInBounds_toArray, List.set_cons_zero, List.set_cons_succ])
  refine wpAnyH_ready (rs := [4]) (by kernel_rfl) (by simp) ?_
  refine (AllReadyH.cons (o := ?or1_5_4) ?ir1_5_4 (fun K hK => ?str1_5_4) AllReadyH.nil)
  case ir1_5_4 => simp only [List.getElem?_toArray, List.getElem?_cons_succ, List.getElem?_cons_zero]; rfl
  rw [if_pos (by rfl)]
  go_simp
  refine HF.out.mono ?_
  rintro r w3 ⟨rfl, hb3⟩
  have HB3 := Lib.hid (HB.out.drew.trans (hb3.mono HB.out.drew.size))
  have HZ3 := Lib.hid ((HZ.out.below (Below.refl _ _).drew HZ.out.lt).below hb3 HZ.out.lt)
  have HE3 := Lib.hid ((HE.out.below (Below.refl _ _).drew HE.out.lt).below hb3 HE.out.lt)
  have HX3 := Lib.hid ((HX.out.below (Below.refl _ _).drew HX.out.lt).below hb3 HX.out.lt)
  have HW3 := Lib.hid hb3
  clear hb3
  go_wp2_with fail
  refine hK.out _ _ ?sr1_5_4 (fun hS => ?_)
  case sr1_5_4 => (exact ⟨HX3.out, HSt.out.below (Nat.lt_of_lt_of_le HGL.out HB.out.drew.size) HW3.out⟩)
  clear hK K
  (try simp only [Act.put, List.setIfInBounds_toArray, List.set_cons_zero, List.set_cons_succ])
  refine wpAnyH_take (i := 5) (oi := ?o1_5_6) (v := ?v1_5_6) ?i1_5_6 (by kernel_rfl) (by kernel_rfl) (by kernel_rfl) (fun _ _ _ h => h) (Or.inl ⟨?g1_5_6, ?y1_5_6⟩) hS ?_
  case i1_5_6 => simp only [List.getElem?_toArray, List.getElem?_cons_succ, List.getElem?_cons_zero]; rfl
  case g1_5_6 => rfl
  case y1_5_6 => (intro w hSw; (go_simp <;> with_reducible rfl))
  (try simp only [Act.put, List.setIfInBounds_toArray, List.set_cons_zero, List.set_cons_succ])
  refine wpAnyH_done (by kernel_rfl) ?_ _
  refine NoPanic.normal ?_
  clear hS
  go_wp2_with fail
  have HX4 := Lib.hid (HX3.out.below (Below.refl _ _).drew HX3.out.lt)
  have HE4 := Lib.hid (HE3.out.below (Below.refl _ _).drew HE3.out.lt)
  have HZ4 := Lib.hid (HZ3.out.below (Below.refl _ _).drew HZ3.out.lt)
  have HC4 : Hid (∀ j u, (ndC a1 (.slice A1 q.len c1))[j]? = some u → w3.drew.cell? ⟨b, p + i * 6 + j, none⟩ = some u) := Lib.hid (fun j u hu => (HB3.out.drew.cell (p := ⟨b, p + i * 6 + j, none⟩) HBL.out).trans (HC.out j u hu))
  have HI1 : Hid (Calls Try.prog 38 #[.agg #[.string (txt a1.name), .string (txt a1.key), .int .i64 a1.kind, .int .u64 (a1.num : Int), .string (txt a1.text), .slice A1 q.len c1], .slice (some ⟨g, o + 2, none⟩) (N - 1) (m - 1), .agg #[.string (txt e.name), .string (txt e.key), .int .i64 e.kind, .int .u64 (e.num : Int), .string (txt e.text), .slice E eg.len ec]] w3.drew (PTreP1 d (za, zf) w3.drew)) := Lib.hid
    (HI.out _ _ _ w3.drew (Nat.le_trans HD.out HB3.out.drew.size) (LieB.make (HR.out.under HB3.out.drew HD.out (Nat.le_refl _))) (HLE.out.under HB3.out.drew HD.out (Nat.le_refl _)) (way_tail1 (HV.out.under HB3.out.drew (Nat.le_refl _) HB3.out.drew.size)))
  refine wp_region_noPanic ?_
  refine wp_region_held_drew (S := fun _ => True) (by kernel_rfl) trivial (fun hS => ?_)
  refine held_more (S' := (fun w' => Blk w' w.heap.size 27 #[.string (txt a.name), .string (txt a.key), .int .i64 a.kind, .int .u64 (a.num : Int), .string (txt a.text), .slice (some ⟨b, p, none⟩) f.len c] ∧ Blk w' (w.heap.size + 1) 27 #[.string (txt e.name), .string (txt e.key), .int .i64 e.kind, .int .u64 (e.num : Int), .string (txt e.text), .slice E eg.len ec] ∧ ∀ j u, (ndC a1 (.slice A1 q.len c1))[j]? = some u → w'.cell? ⟨b, p + i * 6 + j, none⟩ = some u)) (fun _ _ => trivial) _ _ _ _ ?_
  replace hS := And.intro HX4.out (And.intro HE4.out HC4.out)
  refine wpAnyH_take (i := 0) (oi := ?o2_0_1) (v := ?v2_0_1) ?i2_0_1 (by kernel_rfl) (by kernel_rfl) (by kernel_rfl) (fun _ _ _ h => h) (Or.inl ⟨?g2_0_1, ?y2_0_1⟩) hS ?_
  case i2_0_1 => simp only [List.getElem?_toArray, List.getElem?_cons_succ, List.getElem?_cons_zero]; rfl
  case g2_0_1 => rfl
  case y2_0_1 => (intro w hSw; have q0 := (hSw.1.cell 0).trans rfl; have q1 := (hSw.1.cell 1).trans rfl; have q2 := (hSw.1.cell 2).trans rfl; have q3 := (hSw.1.cell 3).trans rfl; have q4 := (hSw.1.cell 4).trans rfl; have q5 := (hSw.1.cell 5).trans rfl; (go_simp <;> with_reducible rfl))
  (try simp only [Act.put, List.setIfInBounds_toArray, List.set_cons_zero, List.set_cons_succ])
  refine wpAnyH_take (i := 1) (oi := ?o2_1_2) (v := ?v2_1_2) ?i2_1_2 (by kernel_rfl) (by kernel_rfl) (by kernel_rfl) (fun _ _ _ h => h) (Or.inl ⟨?g2_1_2, ?y2_1_2⟩) hS ?_
  case i2_1_2 => simp only [List.getElem?_toArray, List.getElem?_cons_succ, List.getElem?_cons_zero]; rfl
  case g2_1_2 => rfl
  case y2_1_2 => (intro w hSw; (go_simp <;> with_reducible rfl))
  (try simp only [Act.put, List.setIfInBounds_toArray, List.set_cons_zero, List.set_cons_succ])
  refine wpAnyH_take (i := 2) (oi := ?o2_2_3) (v := ?v2_2_3) ?i2_2_3 (by kernel_rfl) (by kernel_rfl) (by kernel_rfl) (fun _ _ _ h => h) (Or.inl ⟨?g2_2_3, ?y2_2_3⟩) hS ?_
  case i2_2_3 => simp only [List.getElem?_toArray, List.getElem?_cons_succ, List.getElem?_cons_zero]; rfl
  case g2_2_3 => rfl
  case y2_2_3 => (intro w hSw; (go_simp <;> with_reducible rfl))
  (try simp only [Act.put, List.setIfInBounds_toArray, List.set_cons_zero, List.set_cons_succ])
  refine wpAnyH_take (i := 3) (oi := ?o2_3_4) (v := ?v2_3_4) ?i2_3_4 (by kernel_rfl) (by kernel_rfl) (by kernel_rfl) (fun _ _ _ h => h) (Or.inl ⟨?g2_3_4, ?y2_3_4⟩) hS ?_
  case i2_3_4 => simp only [List.getElem?_toArray, List.getElem?_cons_succ, List.getElem?_cons_zero]; rfl
  case g2_3_4 => rfl
  case y2_3_4 => (intro w hSw; have q5 := (hSw.1.cell 5).trans rfl; (go_simp <;> with_reducible rfl))
  (try simp only [Act.put, List.setIfInBounds_toArray, List.set_cons_zero, List.set_cons_succ])
  refine wpAnyH_take (i := 4) (oi := ?o2_4_5) (v := ?v2_4_5) ?i2_4_5 (by kernel_rfl) (by kernel_rfl) (by kernel_rfl) (fun _ _ _ h => h) (Or.inl ⟨?g2_4_5, ?y2_4_5⟩) hS ?_
  case i2_4_5 => simp only [List.getElem?_toArray, List.getElem?_cons_succ, List.getElem?_cons_zero]; rfl
  case g2_4_5 => rfl
  case y2_4_5 => (intro w hSw; (go_simp <;> with_reducible rfl))
  (try simp only [Act.put, List.setIfInBounds_toArray, List.set_cons_zero, List.set_cons_succ])
  refine wpAnyH_take (i := 5) (oi := ?o2_5_6) (v := ?v2_5_6) ?i2_5_6 (by kernel_rfl) (by kernel_rfl) (by kernel_rfl) (fun _ _ _ h => h) (Or.inl ⟨?g2_5_6, ?y2_5_6⟩) hS ?_
  case i2_5_6 => simp only [List.getElem?_toArray, List.getElem?_cons_succ, List.getElem?_cons_zero]; rfl
  case g2_5_6 => rfl
  case y2_5_6 => (intro w hSw; (go_simp <;> with_reducible rfl))
  (try simp only [Act.put, List.setIfInBounds_toArray, List.set_cons_zero, List.set_cons_succ])
  refine wpAnyH_take (i := 6) (oi := ?o2_6_7) (v := ?v2_6_7) ?i2_6_7 (by kernel_rfl) (by kernel_rfl) (by kernel_rfl) (fun _ _ _ h => h) (Or.inl ⟨?g2_6_7, ?y2_6_7⟩) hS ?_
  case i2_6_7 => simp only [List.getElem?_toArray, List.getElem?_cons_succ, List.getElem?_cons_zero]; rfl
  case g2_6_7 => rfl
  case y2_6_7 => (intro w hSw; have u0 : w.cell? ⟨b, p + i * 6, none⟩ = _ := hSw.2.2 0 _ rfl; have u1 := hSw.2.2 1 _ rfl; have u2 := hSw.2.2 2 _ rfl; have u3 := hSw.2.2 3 _ rfl; have u4 := hSw.2.2 4 _ rfl; have u5 := hSw.2.2 5 _ rfl; (go_simp <;> with_reducible rfl))
  (try simp only [Act.put, List.setIfInBounds_toArray, List.set_cons_zero, List.set_cons_succ])
  refine wpAnyH_take (i := 7) (oi := ?o2_7_8) (v := ?v2_7_8) ?i2_7_8 (by kernel_rfl) (by kernel_rfl) (by kernel_rfl) (fun _ _ _ h => h) (Or.inl ⟨?g2_7_8, ?y2_7_8⟩) hS ?_
  case i2_7_8 => simp only [List.getElem?_toArray, List.getElem?_cons_succ, List.getElem?_cons_zero]; rfl
  case g2_7_8 => rfl
  case y2_7_8 => (intro w hSw; (go_simp <;> with_reducible rfl))
  (try simp only [Act.put, List.setIfInBounds_toArray, List.set_cons_zero, List.set_cons_succ])
  refine wpAnyH_take (i := 8) (oi := ?o2_8_9) (v := ?v2_8_9) ?i2_8_9 (by kernel_rfl) (by kernel_rfl) (by kernel_rfl) (fun _ _ _ h => h) (Or.inl ⟨?g2_8_9, ?y2_8_9⟩) hS ?_
  case i2_8_9 => simp only [List.getElem?_toArray, List.getElem?_cons_succ, List.getElem?_cons_zero]; rfl
  case g2_8_9 => rfl
  case y2_8_9 => (intro w hSw; (go_simp <;> with_reducible rfl))
  (try simp only [Act.put, List.setIfInBounds_toArray, List.set_cons_zero, List.set_cons_succ])
  refine wpAnyH_take (i := 9) (oi := ?o2_9_10) (v := ?v2_9_10) ?i2_9_10 (by kernel_rfl) (by kernel_rfl) (by kernel_rfl) (fun _ _ _ h => h) (Or.inl ⟨?g2_9_10, ?y2_9_10⟩) hS ?_
  case i2_9_10 => simp only [List.getElem?_toArray, List.getElem?_cons_succ, List.getElem?_cons_zero]; rfl
  case g2_9_10 => rfl
  case y2_9_10 => (intro w hSw; have q0 := (hSw.2.1.cell 0).trans rfl; have q1 := (hSw.2.1.cell 1).trans rfl; have q2 := (hSw.2.1.cell 2).trans rfl; have q3 := (hSw.2.1.cell 3).trans rfl; have q4 := (hSw.2.1.cell 4).trans rfl; have q5 := (hSw.2.1.cell 5).trans rfl; (go_simp <;> with_reducible rfl))
  (try simp only [Act.put, List.setIfInBounds_toArray, List.set_cons_zero, List.set_cons_succ])
  refine wpAnyH_ready (rs := [10]) (by kernel_rfl) (by simp) ?_
  refine (AllReadyH.cons (o := ?or2_11_10) ?ir2_11_10 (fun K hK => ?str2_11_10) AllReadyH.nil)
  case ir2_11_10 => simp only [List.getElem?_toArray, List.getElem?_cons_succ, List.getElem?_cons_zero]; rfl
  rw [if_pos (by rfl)]
  go_simp
  refine HI1.out.mono ?_
  intro r w6 hr
  obtain ⟨A6, c6, rfl, hl6, hb6⟩ := hr.flat
  have HL6 := Lib.hid hl6
  have HB6 := Lib.hid (HB3.out.drew.trans (hb6.mono HB3.out.drew.size))
  have HX6 := Lib.hid (HX4.out.below hb6 HX4.out.lt)
  have HE6 := Lib.hid (HE4.out.below hb6 HE4.out.lt)
  have HZ6 := Lib.hid (HZ4.out.below hb6 HZ4.out.lt)
  have HC6 : Hid (∀ j u, (ndC a1 (.slice A1 q.len c1))[j]? = some u → w6.cell? ⟨b, p + i * 6 + j, none⟩ = some u) := Lib.hid (fun j u hu => (hb6.cell (p := ⟨b, p + i * 6 + j, none⟩) (Nat.lt_of_lt_of_le HBL.out HB3.out.drew.size)).trans (HC4.out j u hu))
  have HW6 := Lib.hid hb6
  clear hb6 hr hl6
  go_wp2_with fail
  refine hK.out _ _ ?sr2_11_10 (fun hS => ?_)
  case sr2_11_10 => (exact ⟨HX6.out, HE6.out, HC6.out⟩)
  clear hK K
  (try simp only [Act.put, List.setIfInBounds_toArray, List.set_cons_zero, List.set_cons_succ])
  refine wpAnyH_ready (rs := [11]) (by kernel_rfl) (by simp) ?_
  refine (AllReadyH.cons (o := ?or2_12_11) ?ir2_12_11 (fun K hK => ?str2_12_11) AllReadyH.nil)
  case ir2_12_11 => simp only [List.getElem?_toArray, List.getElem?_cons_succ, List.getElem?_cons_zero]; rfl
  rw [if_pos (by rfl)]
  go_simp
  refine hK.out _ _ ?sr2_12_11 (fun hS => ?_)
  case sr2_12_11 => (exact ⟨HX6.out.alloc _, HE6.out.alloc _, fun j u hu => (Below.cell (B := w6.heap.size) ((Below.refl w6.heap.size w6).alloc (Nat.le_refl _) (.cells #[.string (txt za.name), .string (txt za.key), .int .i64 za.kind, .int .u64 (za.num : Int), .string (txt za.text), .slice A6 zf.len c6] 27)) (p := ⟨b, p + i * 6 + j, none⟩) (Nat.lt_of_lt_of_le HBL.out HB6.out.size)).trans (HC6.out j u hu)⟩)
  clear hK K
  (try simp only [Act.put, List.setIfInBounds_toArray, List.set_cons_zero, List.set_cons_succ])
  have hal : Below w6.heap.size w6 (w6.alloc (.cells #[.string (txt za.name), .string (txt za.key), .int .i64 za.kind, .int .u64 (za.num : Int), .string (txt za.text), .slice A6 zf.len c6] 27)) := (Below.refl _ _).alloc (Nat.le_refl _) _
  have HWC : Hid (Calls Try.prog 49 #[.agg #[.string (txt a.name), .string (txt a.key), .int .i64 a.kind, .int .u64 (a.num : Int), .string (txt a.text), .slice (some ⟨b, p, none⟩) f.len c], .int .i64 (i : Int), .int .i64 1, .slice (some ⟨w6.heap.size, 0, none⟩) 1 1] (w6.alloc (.cells #[.string (txt za.name), .string (txt za.key), .int .i64 za.kind, .int .u64 (za.num : Int), .string (txt za.text), .slice A6 zf.len c6] 27)) (WithP d (w.heap.size + 3) a Rf (w6.alloc (.cells #[.string (txt za.name), .string (txt za.key), .int .i64 za.kind, .int .u64 (za.num : Int), .string (txt za.text), .slice A6 zf.len c6] 27)))) := Lib.hid (by
    have hz3 : w.heap.size + 2 < w3.heap.size := HZ3.out.lt
    have hz6 : w3.heap.size ≤ w6.heap.size := HW6.out.size
    have hzs : (w6.alloc (.cells #[.string (txt za.name), .string (txt za.key), .int .i64 za.kind, .int .u64 (za.num : Int), .string (txt za.text), .slice A6 zf.len c6] 27)).heap.size = w6.heap.size + 1 := by simp
    have hdd := HD.out
    rw [← HRF.out]
    exact rwith_any d (w.heap.size + 3) a f (oneF (za, zf)) (some ⟨b, p, none⟩) f.len c i 1 (some ⟨w6.heap.size, 0, none⟩) 1 1 (w6.alloc (.cells #[.string (txt za.name), .string (txt za.key), .int .i64 za.kind, .int .u64 (za.num : Int), .string (txt za.text), .slice A6 zf.len c6] 27)) (by omega) (by omega)
      (FrV.mono stay_nd (HK.out.under (HB6.out.trans (hal.mono HB6.out.size)) HD.out (Nat.le_refl _)) (fun g hg => .inl hg) (fun _ h => h))
      (row_one (FrN.kept stay_nd HL6.out (fun g hg => Below.heap_alloc w6 _ g (by rcases hg with h | h <;> omega)) (fun g hg => by rcases hg with h | h; exact .inl h; exact .inr ⟨by have : w3.drew.heap.size = w3.heap.size := rfl; omega, by omega⟩) (fun _ h => h.elim) (fun _ h => h)) (.inr ⟨by omega, by omega⟩) (Blk.new w6 27 #[.string (txt za.name), .string (txt za.key), .int .i64 za.kind, .int .u64 (za.num : Int), .string (txt za.text), .slice A6 zf.len c6]))
      (by have := HLN.out; omega) (by have := HLN.out; omega) (by omega))
  have HALL := Lib.hid hal
  clear hal
  refine wpAnyH_ready (rs := [12]) (by kernel_rfl) (by simp) ?_
  refine (AllReadyH.cons (o := ?or2_13_12) ?ir2_13_12 (fun K hK => ?str2_13_12) AllReadyH.nil)
  case ir2_13_12 => simp only [List.getElem?_toArray, List.getElem?_cons_succ, List.getElem?_cons_zero]; rfl
  rw [if_pos (by rfl)]
  go_simp
  refine HWC.out.mono ?_
  rintro r w7 ⟨A7, c7, rfl, hv7, hb7⟩
  have HV7 := Lib.hid hv7
  have HB7 := Lib.hid ((HB6.out.trans (HALL.out.mono HB6.out.size)).trans (hb7.mono (by have h1 := HB6.out.size; simp; omega)))
  have HX7 := Lib.hid ((HX6.out.alloc (.cells #[.string (txt za.name), .string (txt za.key), .int .i64 za.kind, .int .u64 (za.num : Int), .string (txt za.text), .slice A6 zf.len c6] 27)).below hb7 (HX6.out.alloc (.cells #[.string (txt za.name), .string (txt za.key), .int .i64 za.kind, .int .u64 (za.num : Int), .string (txt za.text), .slice A6 zf.len c6] 27)).lt)
  have HE7 := Lib.hid ((HE6.out.alloc (.cells #[.string (txt za.name), .string (txt za.key), .int .i64 za.kind, .int .u64 (za.num : Int), .string (txt za.text), .slice A6 zf.len c6] 27)).below hb7 (HE6.out.alloc (.cells #[.string (txt za.name), .string (txt za.key), .int .i64 za.kind, .int .u64 (za.num : Int), .string (txt za.text), .slice A6 zf.len c6] 27)).lt)
  have HZ7 := Lib.hid ((HZ6.out.alloc (.cells #[.string (txt za.name), .string (txt za.key), .int .i64 za.kind, .int .u64 (za.num : Int), .string (txt za.text), .slice A6 zf.len c6] 27)).below hb7 (HZ6.out.alloc (.cells #[.string (txt za.name), .string (txt za.key), .int .i64 za.kind, .int .u64 (za.num : Int), .string (txt za.text), .slice A6 zf.len c6] 27)).lt)
  have HC7 : Hid (∀ j u, (ndC a1 (.slice A1 q.len c1))[j]? = some u → w7.cell? ⟨b, p + i * 6 + j, none⟩ = some u) := Lib.hid (fun j u hu => (HB7.out.cell (p := ⟨b, p + i * 6 + j, none⟩) HBL.out).trans (HC.out j u hu))
  clear hv7 hb7
  go_wp2_with fail
  refine hK.out _ _ ?sr2_13_12 (fun hS => ?_)
  case sr2_13_12 => (exact ⟨HX7.out, HE7.out, HC7.out⟩)
  clear hK K
  (try simp only [Act.put, List.setIfInBounds_toArray, List.set_cons_zero, List.set_cons_succ])
  refine wpAnyH_ready (rs := [13]) (by kernel_rfl) (by simp) ?_
  refine (AllReadyH.cons (o := ?or2_14_13) ?ir2_14_13 (fun K hK => ?str2_14_13) AllReadyH.nil)
  case ir2_14_13 => simp only [List.getElem?_toArray, List.getElem?_cons_succ, List.getElem?_cons_zero]; rfl
  rw [if_pos (by rfl)]
  have fz0 : (w7).frozen? ⟨w.heap.size + 2, 0, none⟩ = false := HZ7.out.frozen 0
  have fq0 := (HZ7.out.cell 0).trans rfl
  have fz1 : (w7).frozen? ⟨w.heap.size + 2, 1, none⟩ = false := HZ7.out.frozen 1
  have fq1 := (HZ7.out.cell 1).trans rfl
  have fz2 : (w7).frozen? ⟨w.heap.size + 2, 2, none⟩ = false := HZ7.out.frozen 2
  have fq2 := (HZ7.out.cell 2).trans rfl
  have fz3 : (w7).frozen? ⟨w.heap.size + 2, 3, none⟩ = false := HZ7.out.frozen 3
  have fq3 := (HZ7.out.cell 3).trans rfl
  have fz4 : (w7).frozen? ⟨w.heap.size + 2, 4, none⟩ = false := HZ7.out.frozen 4
  have fq4 := (HZ7.out.cell 4).trans rfl
  have fz5 : (w7).frozen? ⟨w.heap.size + 2, 5, none⟩ = false := HZ7.out.frozen 5
  have fq5 := (HZ7.out.cell 5).trans rfl
  go_simp
  refine hK.out _ _ ?sr2_14_13 (fun hS => ?_)
  case sr2_14_13 => (exact ⟨(set6_other (w := w7) (b := w.heap.size + 2) (by omega)).trans HX7.out, (set6_other (w := w7) (b := w.heap.size + 2) (by omega)).trans HE7.out, fun j u hu => (World.cell?_of_block (set6_other (w := w7) (b := w.heap.size + 2) (by have := HBL.out; show b ≠ _; omega))).trans (HC7.out j u hu)⟩)
  clear hK K
  (try simp only [Act.put, List.setIfInBounds_toArray, List.set_cons_zero, List.set_cons_succ])
  refine wpAnyH_done (by kernel_rfl) ?_ _
  refine NoPanic.normal ?_
  clear hS
  -- what the result's box holds
  have RZ : Hid (Blk (set6 w7 (w.heap.size + 2) (.string (txt a.name)) (.string (txt a.key)) (.int .i64 a.kind) (.int .u64 (a.num : Int)) (.string (txt a.text)) (.slice A7 Rf.len c7)) (w.heap.size + 2) 27 #[.string (txt a.name), .string (txt a.key), .int .i64 a.kind, .int .u64 (a.num : Int), .string (txt a.text), .slice A7 Rf.len c7]) := Lib.hid (HZ7.out.set6 _ _ _ _ _ _)
  have HBZ : Hid (Below w.heap.size w (set6 w7 (w.heap.size + 2) (.string (txt a.name)) (.string (txt a.key)) (.int .i64 a.kind) (.int .u64 (a.num : Int)) (.string (txt a.text)) (.slice A7 Rf.len c7))) := Lib.hid (HB7.out.trans (set6_below (by omega)))
  have HLZ : Hid (LieP d w.heap.size (set6 w7 (w.heap.size + 2) (.string (txt a.name)) (.string (txt a.key)) (.int .i64 a.kind) (.int .u64 (a.num : Int)) (.string (txt a.text)) (.slice A7 Rf.len c7)) (ndC a (.slice A7 Rf.len c7)) (a, Rf)) := Lib.hid (LieP.after (B := (w.heap.size + 2) + 1) ((LieP.make (b := d) (B := (w.heap.size + 2) + 1) HV7.out).set6 (by have := HD.out; omega) (by omega) _ _ _ _ _ _) (by omega))
  go_wp2
  refine bodyPost_ret (results_cell_row rfl _ _ (w.heap.size + 2) 27 _ (0, 0) _ rfl RZ.out Try.underlying27 rfl (by kernel_rfl)) rfl ?_
  exact ⟨_, rfl, HLZ.out, HBZ.out⟩
set_option maxRecDepth 100000 in
set_option maxHeartbeats 4000000 in
theorem rset_rep (d : Nat) (a e : NdD) (f eg : NdF) (A E : Option Addr) (c ec : Nat) (s : Stp) (g o N m i : Nat) (Rf : NdF) (w : World) (hd : d ≤ w.heap.size) (hx : LieB d w (ndC a (.slice A f.len c)) (a, f)) (he : LieB d w (ndC e (.slice E eg.len ec)) (e, eg)) (hl : f.len ≤ 1000000)
    (hv : WayV w.heap.size w (.slice (some ⟨g, o, none⟩) N m) [s]) (hf : findN s f = some i) (hi : i < f.len) (hR : withF f i 1 (oneF (e, eg)) = Rf) :
    Calls Try.prog 38 #[.agg #[.string (txt a.name), .string (txt a.key), .int .i64 a.kind, .int .u64 (a.num : Int), .string (txt a.text), .slice A f.len c], .slice (some ⟨g, o, none⟩) N m, .agg #[.string (txt e.name), .string (txt e.key), .int .i64 e.kind, .int .u64 (e.num : Int), .string (txt e.text), .slice E eg.len ec]] w (PTreP1 d (a, Rf) w) := by
  obtain ⟨h1, hbx, h2, h3, h4⟩ := set_boxes a e f eg A E c ec w (hx.keep (fun _ _ => rfl) hd)
  obtain ⟨g', o', eg', hNl, hNm, hg, hs1, hs2⟩ := hv.at (j := 0) (s := s) rfl
  injection eg' with eg'
  injection eg' with eg1 eg2 eg3
  subst eg1 eg2
  have hs : Stp0 w g o s := ⟨by simpa using hs1, by simpa using hs2⟩
  have hN : 0 < N := by rw [hNl]; simp
  have i1 : (0 : Int) < (N : Int) := by omega
  have i2 : (1 : Int) ≤ (N : Int) := by omega
  have i3 : (N : Int) ≤ (m : Int) := by omega
  have HF : Hid (Calls Try.prog 35 #[.agg #[.string (txt a.name), .string (txt a.key), .int .i64 a.kind, .int .u64 (a.num : Int), .string (txt a.text), .slice A f.len c], .agg #[.string (txt s.1), .string (txt s.2)]] (((w.alloc (.cells #[.string (txt a.name), .string (txt a.key), .int .i64 a.kind, .int .u64 (a.num : Int), .string (txt a.text), .slice A f.len c] 27)).alloc (.cells #[.string (txt e.name), .string (txt e.key), .int .i64 e.kind, .int .u64 (e.num : Int), .string (txt e.text), .slice E eg.len ec] 27)).alloc (.cells #[.string ⟨#[]⟩, .string ⟨#[]⟩, .int .i64 0, .int .u64 0, .string ⟨#[]⟩, .slice none 0 0] 27)).drew (Ans9 (.int .i64 (i : Int)) (((w.alloc (.cells #[.string (txt a.name), .string (txt a.key), .int .i64 a.kind, .int .u64 (a.num : Int), .string (txt a.text), .slice A f.len c] 27)).alloc (.cells #[.string (txt e.name), .string (txt e.key), .int .i64 e.kind, .int .u64 (e.num : Int), .string (txt e.text), .slice E eg.len ec] 27)).alloc (.cells #[.string ⟨#[]⟩, .string ⟨#[]⟩, .int .i64 0, .int .u64 0, .string ⟨#[]⟩, .slice none 0 0] 27)).drew)) := Lib.hid (by
    have h := rfindn_any s (a, f) _ (((w.alloc (.cells #[.string (txt a.name), .string (txt a.key), .int .i64 a.kind, .int .u64 (a.num : Int), .string (txt a.text), .slice A f.len c] 27)).alloc (.cells #[.string (txt e.name), .string (txt e.key), .int .i64 e.kind, .int .u64 (e.num : Int), .string (txt e.text), .slice E eg.len ec] 27)).alloc (.cells #[.string ⟨#[]⟩, .string ⟨#[]⟩, .int .i64 0, .int .u64 0, .string ⟨#[]⟩, .slice none 0 0] 27)).drew h4 hl
    rw [show findIx s f = (i : Int) by unfold findIx; rw [hf]] at h
    exact h)
  have hk := LieB.row hx
  have hN2 : N = 1 := hNl
  have i4 : ¬ (1 : Int) < (N : Int) := by omega
  have j1 : (0 : Int) ≤ (i : Int) := by omega
  have HX := Lib.hid h1
  have HE := Lib.hid hbx
  have HZ := Lib.hid h2
  have HB := Lib.hid h3
  have HSt := Lib.hid (hs.below hg h3.drew)
  have HGL := Lib.hid hg
  have HD := Lib.hid hd
  have HK := Lib.hid hk
  have HLE := Lib.hid he
  have HRF := Lib.hid hR
  have HLN := Lib.hid (And.intro hl (show i + 1 ≤ f.len by omega))
  clear h1 h2 h3 h4 hbx hx hl hs hf hg hk hv hs1 hs2 hNl hNm hi hd he hR
  subst hN2
  go_enter Try.func38, Try.ntmps38
  go_wp2_with fail
  refine wp_region_noPanic ?_
  refine wp_region_held_drew (S := fun _ => True) (by kernel_rfl) trivial (fun hS => ?_)
  refine held_more (S' := fun w' => Blk w' w.heap.size 27 #[.string (txt a.name), .string (txt a.key), .int .i64 a.kind, .int .u64 (a.num : Int), .string (txt a.text), .slice A f.len c] ∧ Stp0 w' g o s) (fun _ _ => trivial) _ _ _ _ ?_
  replace hS := And.intro (HX.out.below (Below.refl _ _).drew HX.out.lt) HSt.out
  refine wpAnyH_take (i := 0) (oi := ?o3_0_1) (v := ?v3_0_1) ?i3_0_1 (by kernel_rfl) (by kernel_rfl) (by kernel_rfl) (fun _ _ _ h => h) (Or.inl ⟨?g3_0_1, ?y3_0_1⟩) hS ?_
  case i3_0_1 => simp only [List.getElem?_toArray, List.getElem?_cons_succ, List.getElem?_cons_zero]; rfl
  case g3_0_1 => rfl
  case y3_0_1 => (intro w hSw; have q0 := (hSw.1.cell 0).trans rfl; have q1 := (hSw.1.cell 1).trans rfl; have q2 := (hSw.1.cell 2).trans rfl; have q3 := (hSw.1.cell 3).trans rfl; have q4 := (hSw.1.cell 4).trans rfl; have q5 := (hSw.1.cell 5).trans rfl; (go_simp <;> with_reducible rfl))
  (try simp only [Act.put, List.setIfInBounds_toArray, List.set_cons_zero, List.set_cons_succ])
  refine wpAnyH_take (i := 1) (oi := ?o3_1_2) (v := ?v3_1_2) ?i3_1_2 (by kernel_rfl) (by kernel_rfl) (by kernel_rfl) (fun _ _ _ h => h) (Or.inl ⟨?g3_1_2, ?y3_1_2⟩) hS ?_
  case i3_1_2 => simp only [List.getElem?_toArray, List.getElem?_cons_succ, List.getElem?_cons_zero]; rfl
  case g3_1_2 => rfl
  case y3_1_2 => (intro w hSw; (go_simp <;> with_reducible rfl))
  (try simp only [Act.put, List.setIfInBounds_toArray, List.set_cons_zero, List.set_cons_succ])
  refine wpAnyH_take (i := 2) (oi := ?o3_2_3) (v := ?v3_2_3) ?i3_2_3 (by kernel_rfl) (by kernel_rfl) (by kernel_rfl) (fun _ _ _ h => h) (Or.inl ⟨?g3_2_3, ?y3_2_3⟩) hS ?_
  case i3_2_3 => simp only [List.getElem?_toArray, List.getElem?_cons_succ, List.getElem?_cons_zero]; rfl
  case g3_2_3 => rfl
  case y3_2_3 => (intro w hSw; (go_simp <;> with_reducible rfl))
  (try simp only [Act.put, List.setIfInBounds_toArray, List.set_cons_zero, List.set_cons_succ])
  refine wpAnyH_take (i := 3) (oi := ?o3_3_4) (v := ?v3_3_4) ?i3_3_4 (by kernel_rfl) (by kernel_rfl) (by kernel_rfl) (fun _ _ _ h => h) (Or.inl ⟨?g3_3_4, ?y3_3_4⟩) hS ?_
  case i3_3_4 => simp only [List.getElem?_toArray, List.getElem?_cons_succ, List.getElem?_cons_zero]; rfl
  case g3_3_4 => rfl
  case y3_3_4 => (intro w hSw; have q0 := hSw.2.1; have q1 := hSw.2.2; (go_simp <;> with_reducible rfl))
  (try simp only [Act.put, List.setIfInBounds_toArray, List.set_cons_zero, List.set_cons_succ])
  refine wpAnyH_ready (rs := [4]) (by kernel_rfl) (by simp) ?_
  refine (AllReadyH.cons (o := ?or3_5_4) ?ir3_5_4 (fun K hK => ?str3_5_4) AllReadyH.nil)
  case ir3_5_4 => simp only [List.getElem?_toArray, List.getElem?_cons_succ, List.getElem?_cons_zero]; rfl
  rw [if_pos (by rfl)]
  go_simp
  refine HF.out.mono ?_
  rintro r w3 ⟨rfl, hb3⟩
  have HB3 := Lib.hid (HB.out.drew.trans (hb3.mono HB.out.drew.size))
  have HZ3 := Lib.hid ((HZ.out.below (Below.refl _ _).drew HZ.out.lt).below hb3 HZ.out.lt)
  have HE3 := Lib.hid ((HE.out.below (Below.refl _ _).drew HE.out.lt).below hb3 HE.out.lt)
  have HX3 := Lib.hid ((HX.out.below (Below.refl _ _).drew HX.out.lt).below hb3 HX.out.lt)
  have HW3 := Lib.hid hb3
  clear hb3
  go_wp2_with fail
  refine hK.out _ _ ?sr3_5_4 (fun hS => ?_)
  case sr3_5_4 => (exact ⟨HX3.out, HSt.out.below (Nat.lt_of_lt_of_le HGL.out HB.out.drew.size) HW3.out⟩)
  clear hK K
  (try simp only [Act.put, List.setIfInBounds_toArray, List.set_cons_zero, List.set_cons_succ])
  refine wpAnyH_take (i := 5) (oi := ?o3_5_6) (v := ?v3_5_6) ?i3_5_6 (by kernel_rfl) (by kernel_rfl) (by kernel_rfl) (fun _ _ _ h => h) (Or.inl ⟨?g3_5_6, ?y3_5_6⟩) hS ?_
  case i3_5_6 => simp only [List.getElem?_toArray, List.getElem?_cons_succ, List.getElem?_cons_zero]; rfl
  case g3_5_6 => rfl
  case y3_5_6 => (intro w hSw; (go_simp <;> with_reducible rfl))
  (try simp only [Act.put, List.setIfInBounds_toArray, List.set_cons_zero, List.set_cons_succ])
  refine wpAnyH_done (by kernel_rfl) ?_ _
  refine NoPanic.normal ?_
  clear hS
  -- With at the end, in the world w3, of which HX3, HE3, HZ3, HB3 are told
  have HWC : Hid (Calls Try.prog 49 #[.agg #[.string (txt a.name), .string (txt a.key), .int .i64 a.kind, .int .u64 (a.num : Int), .string (txt a.text), .slice A f.len c], .int .i64 (i : Int), .int .i64 1, .slice (some ⟨w3.heap.size, 0, none⟩) 1 1] (w3.alloc (.cells #[.string (txt e.name), .string (txt e.key), .int .i64 e.kind, .int .u64 (e.num : Int), .string (txt e.text), .slice E eg.len ec] 27)) (WithP d (w.heap.size + 3) a Rf (w3.alloc (.cells #[.string (txt e.name), .string (txt e.key), .int .i64 e.kind, .int .u64 (e.num : Int), .string (txt e.text), .slice E eg.len ec] 27)))) := Lib.hid (by
    have hz3 : w.heap.size + 2 < w3.heap.size := HZ3.out.lt
    have hzs : (w3.alloc (.cells #[.string (txt e.name), .string (txt e.key), .int .i64 e.kind, .int .u64 (e.num : Int), .string (txt e.text), .slice E eg.len ec] 27)).heap.size = w3.heap.size + 1 := by simp
    have hdd := HD.out
    have hal : Below w3.heap.size w3 (w3.alloc (.cells #[.string (txt e.name), .string (txt e.key), .int .i64 e.kind, .int .u64 (e.num : Int), .string (txt e.text), .slice E eg.len ec] 27)) := (Below.refl _ _).alloc (Nat.le_refl _) _
    rw [← HRF.out]
    exact rwith_any d (w.heap.size + 3) a f (oneF (e, eg)) A f.len c i 1 (some ⟨w3.heap.size, 0, none⟩) 1 1 (w3.alloc (.cells #[.string (txt e.name), .string (txt e.key), .int .i64 e.kind, .int .u64 (e.num : Int), .string (txt e.text), .slice E eg.len ec] 27)) (by omega) (by omega)
      (FrV.mono stay_nd (HK.out.under (HB3.out.trans (hal.mono HB3.out.size)) HD.out (Nat.le_refl _)) (fun g hg => .inl hg) (fun _ h => h))
      (row_one (FrN.mono stay_nd (HLE.out.under (HB3.out.trans (hal.mono HB3.out.size)) HD.out (Nat.le_refl _)) (fun g hg => .inl hg) (fun _ h => h)) (.inr ⟨by omega, by omega⟩) (Blk.new w3 27 #[.string (txt e.name), .string (txt e.key), .int .i64 e.kind, .int .u64 (e.num : Int), .string (txt e.text), .slice E eg.len ec]))
      (by have := HLN.out; omega) (by have := HLN.out; omega) (by omega))
  have q0 := (HX3.out.cell 0).trans rfl
  have q1 := (HX3.out.cell 1).trans rfl
  have q2 := (HX3.out.cell 2).trans rfl
  have q3 := (HX3.out.cell 3).trans rfl
  have q4 := (HX3.out.cell 4).trans rfl
  have q5 := (HX3.out.cell 5).trans rfl
  have x0 := (HE3.out.cell 0).trans rfl
  have x1 := (HE3.out.cell 1).trans rfl
  have x2 := (HE3.out.cell 2).trans rfl
  have x3 := (HE3.out.cell 3).trans rfl
  have x4 := (HE3.out.cell 4).trans rfl
  have x5 := (HE3.out.cell 5).trans rfl
  go_wp2_with fail
  refine HWC.out.mono ?_
  rintro r w7 ⟨A7, c7, rfl, hv7, hb7⟩
  have HV7 := Lib.hid hv7
  have HB7 := Lib.hid ((HB3.out.trans (((Below.refl w3.heap.size w3).alloc (Nat.le_refl _) (.cells #[.string (txt e.name), .string (txt e.key), .int .i64 e.kind, .int .u64 (e.num : Int), .string (txt e.text), .slice E eg.len ec] 27)).mono HB3.out.size)).trans (hb7.mono (by have h1 := HB3.out.size; simp; omega)))
  have HZ7 := Lib.hid ((HZ3.out.alloc (.cells #[.string (txt e.name), .string (txt e.key), .int .i64 e.kind, .int .u64 (e.num : Int), .string (txt e.text), .slice E eg.len ec] 27)).below hb7 (HZ3.out.alloc (.cells #[.string (txt e.name), .string (txt e.key), .int .i64 e.kind, .int .u64 (e.num : Int), .string (txt e.text), .slice E eg.len ec] 27)).lt)
  clear hv7 hb7 q0 q1 q2 q3 q4 q5 x0 x1 x2 x3 x4 x5
  have fz0 : (w7).frozen? ⟨w.heap.size + 2, 0, none⟩ = false := HZ7.out.frozen 0
  have fq0 := (HZ7.out.cell 0).trans rfl
  have fz1 : (w7).frozen? ⟨w.heap.size + 2, 1, none⟩ = false := HZ7.out.frozen 1
  have fq1 := (HZ7.out.cell 1).trans rfl
  have fz2 : (w7).frozen? ⟨w.heap.size + 2, 2, none⟩ = false := HZ7.out.frozen 2
  have fq2 := (HZ7.out.cell 2).trans rfl
  have fz3 : (w7).frozen? ⟨w.heap.size + 2, 3, none⟩ = false := HZ7.out.frozen 3
  have fq3 := (HZ7.out.cell 3).trans rfl
  have fz4 : (w7).frozen? ⟨w.heap.size + 2, 4, none⟩ = false := HZ7.out.frozen 4
  have fq4 := (HZ7.out.cell 4).trans rfl
  have fz5 : (w7).frozen? ⟨w.heap.size + 2, 5, none⟩ = false := HZ7.out.frozen 5
  have fq5 := (HZ7.out.cell 5).trans rfl
  -- what the result's box holds
  have RZ : Hid (Blk (set6 w7 (w.heap.size + 2) (.string (txt a.name)) (.string (txt a.key)) (.int .i64 a.kind) (.int .u64 (a.num : Int)) (.string (txt a.text)) (.slice A7 Rf.len c7)) (w.heap.size + 2) 27 #[.string (txt a.name), .string (txt a.key), .int .i64 a.kind, .int .u64 (a.num : Int), .string (txt a.text), .slice A7 Rf.len c7]) := Lib.hid (HZ7.out.set6 _ _ _ _ _ _)
  have HBZ : Hid (Below w.heap.size w (set6 w7 (w.heap.size + 2) (.string (txt a.name)) (.string (txt a.key)) (.int .i64 a.kind) (.int .u64 (a.num : Int)) (.string (txt a.text)) (.slice A7 Rf.len c7))) := Lib.hid (HB7.out.trans (set6_below (by omega)))
  have HLZ : Hid (LieP d w.heap.size (set6 w7 (w.heap.size + 2) (.string (txt a.name)) (.string (txt a.key)) (.int .i64 a.kind) (.int .u64 (a.num : Int)) (.string (txt a.text)) (.slice A7 Rf.len c7)) (ndC a (.slice A7 Rf.len c7)) (a, Rf)) := Lib.hid (LieP.after (B := (w.heap.size + 2) + 1) ((LieP.make (b := d) (B := (w.heap.size + 2) + 1) HV7.out).set6 (by have := HD.out; omega) (by omega) _ _ _ _ _ _) (by omega))
  go_wp2
  refine bodyPost_ret (results_cell_row rfl _ _ (w.heap.size + 2) 27 _ (0, 0) _ rfl RZ.out Try.underlying27 rfl (by kernel_rfl)) rfl ?_
  exact ⟨_, rfl, HLZ.out, HBZ.out⟩
set_option maxRecDepth 100000 in
set_option maxHeartbeats 4000000 in
theorem rset_ins (d : Nat) (a e : NdD) (f eg : NdF) (A E : Option Addr) (c ec : Nat) (s : Stp) (g o N m : Nat) (Rf : NdF) (w : World) (hd : d ≤ w.heap.size) (hx : LieB d w (ndC a (.slice A f.len c)) (a, f)) (he : LieB d w (ndC e (.slice E eg.len ec)) (e, eg)) (hl : f.len ≤ 1000000)
    (hv : WayV w.heap.size w (.slice (some ⟨g, o, none⟩) N m) [s]) (hf : findN s f = none) (hR : withF f (placeF e f) 0 (oneF (e, eg)) = Rf) :
    Calls Try.prog 38 #[.agg #[.string (txt a.name), .string (txt a.key), .int .i64 a.kind, .int .u64 (a.num : Int), .string (txt a.text), .slice A f.len c], .slice (some ⟨g, o, none⟩) N m, .agg #[.string (txt e.name), .string (txt e.key), .int .i64 e.kind, .int .u64 (e.num : Int), .string (txt e.text), .slice E eg.len ec]] w (PTreP1 d (a, Rf) w) := by
  obtain ⟨h1, hbx, h2, h3, h4⟩ := set_boxes a e f eg A E c ec w (hx.keep (fun _ _ => rfl) hd)
  obtain ⟨g', o', eg', hNl, hNm, hg, hs1, hs2⟩ := hv.at (j := 0) (s := s) rfl
  injection eg' with eg'
  injection eg' with eg1 eg2 eg3
  subst eg1 eg2
  have hs : Stp0 w g o s := ⟨by simpa using hs1, by simpa using hs2⟩
  have hN : 0 < N := by rw [hNl]; simp
  have i1 : (0 : Int) < (N : Int) := by omega
  have i2 : (1 : Int) ≤ (N : Int) := by omega
  have i3 : (N : Int) ≤ (m : Int) := by omega
  have HF : Hid (Calls Try.prog 35 #[.agg #[.string (txt a.name), .string (txt a.key), .int .i64 a.kind, .int .u64 (a.num : Int), .string (txt a.text), .slice A f.len c], .agg #[.string (txt s.1), .string (txt s.2)]] (((w.alloc (.cells #[.string (txt a.name), .string (txt a.key), .int .i64 a.kind, .int .u64 (a.num : Int), .string (txt a.text), .slice A f.len c] 27)).alloc (.cells #[.string (txt e.name), .string (txt e.key), .int .i64 e.kind, .int .u64 (e.num : Int), .string (txt e.text), .slice E eg.len ec] 27)).alloc (.cells #[.string ⟨#[]⟩, .string ⟨#[]⟩, .int .i64 0, .int .u64 0, .string ⟨#[]⟩, .slice none 0 0] 27)).drew (Ans9 (.int .i64 (-1)) (((w.alloc (.cells #[.string (txt a.name), .string (txt a.key), .int .i64 a.kind, .int .u64 (a.num : Int), .string (txt a.text), .slice A f.len c] 27)).alloc (.cells #[.string (txt e.name), .string (txt e.key), .int .i64 e.kind, .int .u64 (e.num : Int), .string (txt e.text), .slice E eg.len ec] 27)).alloc (.cells #[.string ⟨#[]⟩, .string ⟨#[]⟩, .int .i64 0, .int .u64 0, .string ⟨#[]⟩, .slice none 0 0] 27)).drew)) := Lib.hid (by
    have h := rfindn_any s (a, f) _ (((w.alloc (.cells #[.string (txt a.name), .string (txt a.key), .int .i64 a.kind, .int .u64 (a.num : Int), .string (txt a.text), .slice A f.len c] 27)).alloc (.cells #[.string (txt e.name), .string (txt e.key), .int .i64 e.kind, .int .u64 (e.num : Int), .string (txt e.text), .slice E eg.len ec] 27)).alloc (.cells #[.string ⟨#[]⟩, .string ⟨#[]⟩, .int .i64 0, .int .u64 0, .string ⟨#[]⟩, .slice none 0 0] 27)).drew h4 hl
    rw [show findIx s f = (-1) by unfold findIx; rw [hf]] at h
    exact h)
  have hk := LieB.row hx
  have hN2 : N = 1 := hNl
  have i4 : ¬ (1 : Int) < (N : Int) := by omega
  have HX := Lib.hid h1
  have HE := Lib.hid hbx
  have HZ := Lib.hid h2
  have HB := Lib.hid h3
  have HSt := Lib.hid (hs.below hg h3.drew)
  have HGL := Lib.hid hg
  have HD := Lib.hid hd
  have HK := Lib.hid hk
  have HLE := Lib.hid he
  have HR0 := Lib.hid hR
  have HLN0 := Lib.hid hl
  have i5 : (f.len : Int) ≤ 1000000 := by omega
  clear h1 h2 h3 h4 hbx hx hl hs hf hg hk hv hs1 hs2 hNl hNm hd he hR
  subst hN2
  go_enter Try.func38, Try.ntmps38
  go_wp2_with fail
  refine wp_region_noPanic ?_
  refine wp_region_held_drew (S := fun _ => True) (by kernel_rfl) trivial (fun hS => ?_)
  refine held_more (S' := fun w' => Blk w' w.heap.size 27 #[.string (txt a.name), .string (txt a.key), .int .i64 a.kind, .int .u64 (a.num : Int), .string (txt a.text), .slice A f.len c] ∧ Stp0 w' g o s) (fun _ _ => trivial) _ _ _ _ ?_
  replace hS := And.intro (HX.out.below (Below.refl _ _).drew HX.out.lt) HSt.out
  refine wpAnyH_take (i := 0) (oi := ?o4_0_1) (v := ?v4_0_1) ?i4_0_1 (by kernel_rfl) (by kernel_rfl) (by kernel_rfl) (fun _ _ _ h => h) (Or.inl ⟨?g4_0_1, ?y4_0_1⟩) hS ?_
  case i4_0_1 => simp only [List.getElem?_toArray, List.getElem?_cons_succ, List.getElem?_cons_zero]; rfl
  case g4_0_1 => rfl
  case y4_0_1 => (intro w hSw; have q0 := (hSw.1.cell 0).trans rfl; have q1 := (hSw.1.cell 1).trans rfl; have q2 := (hSw.1.cell 2).trans rfl; have q3 := (hSw.1.cell 3).trans rfl; have q4 := (hSw.1.cell 4).trans rfl; have q5 := (hSw.1.cell 5).trans rfl; (go_simp <;> with_reducible rfl))
  (try simp only [Act.put, List.setIfInBounds_toArray, List.set_cons_zero, List.set_cons_succ])
  refine wpAnyH_take (i := 1) (oi := ?o4_1_2) (v := ?v4_1_2) ?i4_1_2 (by kernel_rfl) (by kernel_rfl) (by kernel_rfl) (fun _ _ _ h => h) (Or.inl ⟨?g4_1_2, ?y4_1_2⟩) hS ?_
  case i4_1_2 => simp only [List.getElem?_toArray, List.getElem?_cons_succ, List.getElem?_cons_zero]; rfl
  case g4_1_2 => rfl
  case y4_1_2 => (intro w hSw; (go_simp <;> with_reducible rfl))
  (try simp only [Act.put, List.setIfInBounds_toArray, List.set_cons_zero, List.set_cons_succ])
  refine wpAnyH_take (i := 2) (oi := ?o4_2_3) (v := ?v4_2_3) ?i4_2_3 (by kernel_rfl) (by kernel_rfl) (by kernel_rfl) (fun _ _ _ h => h) (Or.inl ⟨?g4_2_3, ?y4_2_3⟩) hS ?_
  case i4_2_3 => simp only [List.getElem?_toArray, List.getElem?_cons_succ, List.getElem?_cons_zero]; rfl
  case g4_2_3 => rfl
  case y4_2_3 => (intro w hSw; (go_simp <;> with_reducible rfl))
  (try simp only [Act.put, List.setIfInBounds_toArray, List.set_cons_zero, List.set_cons_succ])
  refine wpAnyH_take (i := 3) (oi := ?o4_3_4) (v := ?v4_3_4) ?i4_3_4 (by kernel_rfl) (by kernel_rfl) (by kernel_rfl) (fun _ _ _ h => h) (Or.inl ⟨?g4_3_4, ?y4_3_4⟩) hS ?_
  case i4_3_4 => simp only [List.getElem?_toArray, List.getElem?_cons_succ, List.getElem?_cons_zero]; rfl
  case g4_3_4 => rfl
  case y4_3_4 => (intro w hSw; have q0 := hSw.2.1; have q1 := hSw.2.2; (go_simp <;> with_reducible rfl))
  (try simp only [Act.put, List.setIfInBounds_toArray, List.set_cons_zero, List.set_cons_succ])
  refine wpAnyH_ready (rs := [4]) (by kernel_rfl) (by simp) ?_
  refine (AllReadyH.cons (o := ?or4_5_4) ?ir4_5_4 (fun K hK => ?str4_5_4) AllReadyH.nil)
  case ir4_5_4 => simp only [List.getElem?_toArray, List.getElem?_cons_succ, List.getElem?_cons_zero]; rfl
  rw [if_pos (by rfl)]
  go_simp
  refine HF.out.mono ?_
  rintro r w3 ⟨rfl, hb3⟩
  have HB3 := Lib.hid (HB.out.drew.trans (hb3.mono HB.out.drew.size))
  have HZ3 := Lib.hid ((HZ.out.below (Below.refl _ _).drew HZ.out.lt).below hb3 HZ.out.lt)
  have HE3 := Lib.hid ((HE.out.below (Below.refl _ _).drew HE.out.lt).below hb3 HE.out.lt)
  have HX3 := Lib.hid ((HX.out.below (Below.refl _ _).drew HX.out.lt).below hb3 HX.out.lt)
  have HW3 := Lib.hid hb3
  clear hb3
  go_wp2_with fail
  refine hK.out _ _ ?sr4_5_4 (fun hS => ?_)
  case sr4_5_4 => (exact ⟨HX3.out, HSt.out.below (Nat.lt_of_lt_of_le HGL.out HB.out.drew.size) HW3.out⟩)
  clear hK K
  (try simp only [Act.put, List.setIfInBounds_toArray, List.set_cons_zero, List.set_cons_succ])
  refine wpAnyH_take (i := 5) (oi := ?o4_5_6) (v := ?v4_5_6) ?i4_5_6 (by kernel_rfl) (by kernel_rfl) (by kernel_rfl) (fun _ _ _ h => h) (Or.inl ⟨?g4_5_6, ?y4_5_6⟩) hS ?_
  case i4_5_6 => simp only [List.getElem?_toArray, List.getElem?_cons_succ, List.getElem?_cons_zero]; rfl
  case g4_5_6 => rfl
  case y4_5_6 => (intro w hSw; (go_simp <;> with_reducible rfl))
  (try simp only [Act.put, List.setIfInBounds_toArray, List.set_cons_zero, List.set_cons_succ])
  refine wpAnyH_done (by kernel_rfl) ?_ _
  refine NoPanic.normal ?_
  clear hS
  go_wp2
  go_loopw [8] (fun i8 wr => ∃ j : Nat, j ≤ f.len ∧ i8 = .int .i64 (j : Int) ∧ Hid (∀ n, n < j → ∀ y, f.get? n = some y → lessX y.1 e = true) ∧ Blk wr w.heap.size 27 #[.string (txt a.name), .string (txt a.key), .int .i64 a.kind, .int .u64 (a.num : Int), .string (txt a.text), .slice A f.len c] ∧ Blk wr (w.heap.size + 1) 27 #[.string (txt e.name), .string (txt e.key), .int .i64 e.kind, .int .u64 (e.num : Int), .string (txt e.text), .slice E eg.len ec] ∧ Blk wr (w.heap.size + 2) 27 #[.string ⟨#[]⟩, .string ⟨#[]⟩, .int .i64 0, .int .u64 0, .string ⟨#[]⟩, .slice none 0 0] ∧ Below w.heap.size w wr) (fun i8 _ => f.len - (intOf i8).toNat)
  case atStart => exact ⟨0, Nat.zero_le _, rfl, Lib.hid (fun n h => by omega), HX3.out, HE3.out, HZ3.out, HB3.out⟩
  case round =>
    obtain ⟨j, hj, rfl, HL, hX, hE, hZ, hB⟩ := hrel
    have HBr := Lib.hid hB
    have HXr := Lib.hid hX
    have HEr := Lib.hid hE
    have HZr := Lib.hid hZ
    by_cases hlt : j < f.len
    · obtain ⟨a1, q, hg⟩ := Fr.get_some hlt
      obtain ⟨b, p, A1, c1, rfl, -, -, hbl, hrow, hcl⟩ := HK.out.at hg
      obtain ⟨lb, hlb⟩ : ∃ z, z = lessX a1 e := ⟨_, rfl⟩
      have hbl := Nat.lt_of_lt_of_le hbl HD.out
      have i1 : (0 : Int) ≤ (j : Int) := by omega
      have i2 : (j : Int) < (f.len : Int) := by omega
      have HLc : Hid (Calls Try.prog 19 #[.agg #[.string (txt a1.name), .string (txt a1.key), .int .i64 a1.kind, .int .u64 (a1.num : Int), .string (txt a1.text), .slice A1 q.len c1], .agg #[.string (txt e.name), .string (txt e.key), .int .i64 e.kind, .int .u64 (e.num : Int), .string (txt e.text), .slice E eg.len ec]] wr.drew (Ans9 (.bool lb) wr.drew)) := Lib.hid (by
        rw [hlb]
        exact rless_any (a1, q) (e, eg) _ _ wr.drew (LieB.make (hrow.under hB.drew HD.out (Nat.le_trans HD.out hB.size))) (HLE.out.under hB.drew HD.out (Nat.le_trans HD.out hB.size)))
      have HQ1 := Lib.hid (And.intro (hX.below (Below.refl _ _).drew hX.lt) (And.intro (hE.below (Below.refl _ _).drew hE.lt) (fun i u hu => (hB.drew.cell (p := ⟨b, p + j * 6 + i, none⟩) hbl).trans (hcl i u hu))))
      have HBd := Lib.hid hB.drew
      have HZd := Lib.hid (hZ.below (Below.refl _ _).drew hZ.lt)
      have HG := Lib.hid hg
      have HLB := Lib.hid hlb
      have HBL := Lib.hid hbl
      have HC := Lib.hid hcl
      clear hX hE hZ hB hg hrow hcl hlb hbl
      have p5 : wr.cell? ⟨w.heap.size, 5, none⟩ = some (.slice (some ⟨b, p, none⟩) f.len c) := (HXr.out.cell 5).trans rfl
      go_wp2_with fail
      clear p5
      refine wp_region_noPanic ?_
      refine wp_region_held_drew (S := fun _ => True) (by kernel_rfl) trivial (fun hS => ?_)
      refine held_more (S' := (fun w' => Blk w' w.heap.size 27 #[.string (txt a.name), .string (txt a.key), .int .i64 a.kind, .int .u64 (a.num : Int), .string (txt a.text), .slice (some ⟨b, p, none⟩) f.len c] ∧ Blk w' (w.heap.size + 1) 27 #[.string (txt e.name), .string (txt e.key), .int .i64 e.kind, .int .u64 (e.num : Int), .string (txt e.text), .slice E eg.len ec] ∧ ∀ i u, (ndC a1 (.slice A1 q.len c1))[i]? = some u → w'.cell? ⟨b, p + j * 6 + i, none⟩ = some u)) (fun _ _ => trivial) _ _ _ _ ?_
      replace hS := HQ1.out
      refine wpAnyH_take (i := 0) (oi := ?o5_0_1) (v := ?v5_0_1) ?i5_0_1 (by kernel_rfl) (by kernel_rfl) (by kernel_rfl) (fun _ _ _ h => h) (Or.inl ⟨?g5_0_1, ?y5_0_1⟩) hS ?_
      case i5_0_1 => simp only [List.getElem?_toArray, List.getElem?_cons_succ, List.getElem?_cons_zero]; rfl
      case g5_0_1 => rfl
      case y5_0_1 => (intro w hSw; (go_simp <;> with_reducible rfl))
      (try simp only [Act.put, List.setIfInBounds_toArray, List.set_cons_zero, List.set_cons_succ])
      refine wpAnyH_take (i := 1) (oi := ?o5_1_2) (v := ?v5_1_2) ?i5_1_2 (by kernel_rfl) (by kernel_rfl) (by kernel_rfl) (fun _ _ _ h => h) (Or.inl ⟨?g5_1_2, ?y5_1_2⟩) hS ?_
      case i5_1_2 => simp only [List.getElem?_toArray, List.getElem?_cons_succ, List.getElem?_cons_zero]; rfl
      case g5_1_2 => rfl
      case y5_1_2 => (intro w hSw; (go_simp <;> with_reducible rfl))
      (try simp only [Act.put, List.setIfInBounds_toArray, List.set_cons_zero, List.set_cons_succ])
      refine wpAnyH_take (i := 2) (oi := ?o5_2_3) (v := ?v5_2_3) ?i5_2_3 (by kernel_rfl) (by kernel_rfl) (by kernel_rfl) (fun _ _ _ h => h) (Or.inl ⟨?g5_2_3, ?y5_2_3⟩) hS ?_
      case i5_2_3 => simp only [List.getElem?_toArray, List.getElem?_cons_succ, List.getElem?_cons_zero]; rfl
      case g5_2_3 => rfl
      case y5_2_3 => (intro w hSw; have q5 := (hSw.1.cell 5).trans rfl; (go_simp <;> with_reducible rfl))
      (try simp only [Act.put, List.setIfInBounds_toArray, List.set_cons_zero, List.set_cons_succ])
      refine wpAnyH_take (i := 3) (oi := ?o5_3_4) (v := ?v5_3_4) ?i5_3_4 (by kernel_rfl) (by kernel_rfl) (by kernel_rfl) (fun _ _ _ h => h) (Or.inl ⟨?g5_3_4, ?y5_3_4⟩) hS ?_
      case i5_3_4 => simp only [List.getElem?_toArray, List.getElem?_cons_succ, List.getElem?_cons_zero]; rfl
      case g5_3_4 => rfl
      case y5_3_4 => (intro w hSw; (go_simp <;> with_reducible rfl))
      (try simp only [Act.put, List.setIfInBounds_toArray, List.set_cons_zero, List.set_cons_succ])
      refine wpAnyH_take (i := 4) (oi := ?o5_4_5) (v := ?v5_4_5) ?i5_4_5 (by kernel_rfl) (by kernel_rfl) (by kernel_rfl) (fun _ _ _ h => h) (Or.inl ⟨?g5_4_5, ?y5_4_5⟩) hS ?_
      case i5_4_5 => simp only [List.getElem?_toArray, List.getElem?_cons_succ, List.getElem?_cons_zero]; rfl
      case g5_4_5 => rfl
      case y5_4_5 => (intro w hSw; (go_simp <;> with_reducible rfl))
      (try simp only [Act.put, List.setIfInBounds_toArray, List.set_cons_zero, List.set_cons_succ])
      refine wpAnyH_take (i := 5) (oi := ?o5_5_6) (v := ?v5_5_6) ?i5_5_6 (by kernel_rfl) (by kernel_rfl) (by kernel_rfl) (fun _ _ _ h => h) (Or.inl ⟨?g5_5_6, ?y5_5_6⟩) hS ?_
      case i5_5_6 => simp only [List.getElem?_toArray, List.getElem?_cons_succ, List.getElem?_cons_zero]; rfl
      case g5_5_6 => rfl
      case y5_5_6 => (intro w hSw; (go_simp <;> with_reducible rfl))
      (try simp only [Act.put, List.setIfInBounds_toArray, List.set_cons_zero, List.set_cons_succ])
      refine wpAnyH_take (i := 6) (oi := ?o5_6_7) (v := ?v5_6_7) ?i5_6_7 (by kernel_rfl) (by kernel_rfl) (by kernel_rfl) (fun _ _ _ h => h) (Or.inl ⟨?g5_6_7, ?y5_6_7⟩) hS ?_
      case i5_6_7 => simp only [List.getElem?_toArray, List.getElem?_cons_succ, List.getElem?_cons_zero]; rfl
      case g5_6_7 => rfl
      case y5_6_7 => (intro w hSw; (go_simp <;> with_reducible rfl))
      (try simp only [Act.put, List.setIfInBounds_toArray, List.set_cons_zero, List.set_cons_succ])
      refine wpAnyH_take (i := 7) (oi := ?o5_7_8) (v := ?v5_7_8) ?i5_7_8 (by kernel_rfl) (by kernel_rfl) (by kernel_rfl) (fun _ _ _ h => h) (Or.inl ⟨?g5_7_8, ?y5_7_8⟩) hS ?_
      case i5_7_8 => simp only [List.getElem?_toArray, List.getElem?_cons_succ, List.getElem?_cons_zero]; rfl
      case g5_7_8 => rfl
      case y5_7_8 => (intro w hSw; have q5 := (hSw.1.cell 5).trans rfl; (go_simp <;> with_reducible rfl))
      (try simp only [Act.put, List.setIfInBounds_toArray, List.set_cons_zero, List.set_cons_succ])
      refine wpAnyH_take (i := 8) (oi := ?o5_8_9) (v := ?v5_8_9) ?i5_8_9 (by kernel_rfl) (by kernel_rfl) (by kernel_rfl) (fun _ _ _ h => h) (Or.inl ⟨?g5_8_9, ?y5_8_9⟩) hS ?_
      case i5_8_9 => simp only [List.getElem?_toArray, List.getElem?_cons_succ, List.getElem?_cons_zero]; rfl
      case g5_8_9 => rfl
      case y5_8_9 => (intro w hSw; (go_simp <;> with_reducible rfl))
      (try simp only [Act.put, List.setIfInBounds_toArray, List.set_cons_zero, List.set_cons_succ])
      refine wpAnyH_take (i := 9) (oi := ?o5_9_10) (v := ?v5_9_10) ?i5_9_10 (by kernel_rfl) (by kernel_rfl) (by kernel_rfl) (fun _ _ _ h => h) (Or.inl ⟨?g5_9_10, ?y5_9_10⟩) hS ?_
      case i5_9_10 => simp only [List.getElem?_toArray, List.getElem?_cons_succ, List.getElem?_cons_zero]; rfl
      case g5_9_10 => rfl
      case y5_9_10 => (intro w hSw; (go_simp <;> with_reducible rfl))
      (try simp only [Act.put, List.setIfInBounds_toArray, List.set_cons_zero, List.set_cons_succ])
      refine wpAnyH_take (i := 10) (oi := ?o5_10_11) (v := ?v5_10_11) ?i5_10_11 (by kernel_rfl) (by kernel_rfl) (by kernel_rfl) (fun _ _ _ h => h) (Or.inl ⟨?g5_10_11, ?y5_10_11⟩) hS ?_
      case i5_10_11 => simp only [List.getElem?_toArray, List.getElem?_cons_succ, List.getElem?_cons_zero]; rfl
      case g5_10_11 => rfl
      case y5_10_11 => (intro w hSw; have u0 : w.cell? ⟨b, p + j * 6, none⟩ = _ := hSw.2.2 0 _ rfl; have u1 := hSw.2.2 1 _ rfl; have u2 := hSw.2.2 2 _ rfl; have u3 := hSw.2.2 3 _ rfl; have u4 := hSw.2.2 4 _ rfl; have u5 := hSw.2.2 5 _ rfl; (go_simp <;> with_reducible rfl))
      (try simp only [Act.put, List.setIfInBounds_toArray, List.set_cons_zero, List.set_cons_succ])
      refine wpAnyH_take (i := 11) (oi := ?o5_11_12) (v := ?v5_11_12) ?i5_11_12 (by kernel_rfl) (by kernel_rfl) (by kernel_rfl) (fun _ _ _ h => h) (Or.inl ⟨?g5_11_12, ?y5_11_12⟩) hS ?_
      case i5_11_12 => simp only [List.getElem?_toArray, List.getElem?_cons_succ, List.getElem?_cons_zero]; rfl
      case g5_11_12 => rfl
      case y5_11_12 => (intro w hSw; have q0 := (hSw.2.1.cell 0).trans rfl; have q1 := (hSw.2.1.cell 1).trans rfl; have q2 := (hSw.2.1.cell 2).trans rfl; have q3 := (hSw.2.1.cell 3).trans rfl; have q4 := (hSw.2.1.cell 4).trans rfl; have q5 := (hSw.2.1.cell 5).trans rfl; (go_simp <;> with_reducible rfl))
      (try simp only [Act.put, List.setIfInBounds_toArray, List.set_cons_zero, List.set_cons_succ])
      refine wpAnyH_ready (rs := [12]) (by kernel_rfl) (by simp) ?_
      refine (AllReadyH.cons (o := ?or5_13_12) ?ir5_13_12 (fun K hK => ?str5_13_12) AllReadyH.nil)
      case ir5_13_12 => simp only [List.getElem?_toArray, List.getElem?_cons_succ, List.getElem?_cons_zero]; rfl
      rw [if_pos (by rfl)]
      go_simp
      refine HLc.out.mono ?_
      rintro r w6 ⟨rfl, hb6⟩
      have HX6 := Lib.hid (HQ1.out.1.below hb6 HQ1.out.1.lt)
      have HE6 := Lib.hid (HQ1.out.2.1.below hb6 HQ1.out.2.1.lt)
      have HZ6 := Lib.hid (HZd.out.below hb6 HZd.out.lt)
      have HB6 := Lib.hid (HBd.out.trans (hb6.mono HBd.out.size))
      clear hb6
      go_wp2_with fail
      refine hK.out _ _ ?sr5_13_12 (fun hS => ?_)
      case sr5_13_12 => (exact ⟨HX6.out, HE6.out, fun i u hu => (HB6.out.cell (p := ⟨b, p + j * 6 + i, none⟩) HBL.out).trans (HC.out i u hu)⟩)
      clear hK K
      (try simp only [Act.put, List.setIfInBounds_toArray, List.set_cons_zero, List.set_cons_succ])
      refine wpAnyH_take (i := 13) (oi := ?o5_13_14) (v := ?v5_13_14) ?i5_13_14 (by kernel_rfl) (by kernel_rfl) (by kernel_rfl) (fun _ _ _ h => h) (Or.inl ⟨?g5_13_14, ?y5_13_14⟩) hS ?_
      case i5_13_14 => simp only [List.getElem?_toArray, List.getElem?_cons_succ, List.getElem?_cons_zero]; rfl
      case g5_13_14 => rfl
      case y5_13_14 => (intro w hSw; (go_simp <;> with_reducible rfl))
      (try simp only [Act.put, List.setIfInBounds_toArray, List.set_cons_zero, List.set_cons_succ])
      refine wpAnyH_done (by kernel_rfl) ?_ _
      refine NoPanic.normal ?_
      clear hS
      cases lb with
      | true =>
        have HL2 : Hid (∀ n, n < j + 1 → ∀ y, f.get? n = some y → lessX y.1 e = true) := Lib.hid (fun n hn y hy => by
          by_cases e' : n = j
          · subst e'; rw [HG.out] at hy; injection hy with hy; subst hy; exact HLB.out.symm
          · exact HL.out n (by omega) y hy)
        go_wp2
        go_roundw
        case rel => exact ⟨j + 1, by omega, by go_num, HL2, HX6.out, HE6.out, HZ6.out, HB6.out⟩
        case measure => simp [intOf]; omega
      | false =>
        have hpl : placeF e f = j := place_at HL.out (by omega) (fun y hy => by rw [HG.out] at hy; injection hy with hy; subst hy; exact HLB.out.symm)
        have HRF : Hid (withF f j 0 (oneF (e, eg)) = Rf) := Lib.hid (by rw [← hpl]; exact HR0.out)
        have HLN := Lib.hid (And.intro HLN0.out (show j + 0 ≤ f.len by omega))
        clear hpl
        -- With at the end, in the world w6, of which HX6, HE6, HZ6, HB6 are told
        have HWC : Hid (Calls Try.prog 49 #[.agg #[.string (txt a.name), .string (txt a.key), .int .i64 a.kind, .int .u64 (a.num : Int), .string (txt a.text), .slice (some ⟨b, p, none⟩) f.len c], .int .i64 (j : Int), .int .i64 0, .slice (some ⟨w6.heap.size, 0, none⟩) 1 1] (w6.alloc (.cells #[.string (txt e.name), .string (txt e.key), .int .i64 e.kind, .int .u64 (e.num : Int), .string (txt e.text), .slice E eg.len ec] 27)) (WithP d (w.heap.size + 3) a Rf (w6.alloc (.cells #[.string (txt e.name), .string (txt e.key), .int .i64 e.kind, .int .u64 (e.num : Int), .string (txt e.text), .slice E eg.len ec] 27)))) := Lib.hid (by
          have hz3 : w.heap.size + 2 < w6.heap.size := HZ6.out.lt
          have hzs : (w6.alloc (.cells #[.string (txt e.name), .string (txt e.key), .int .i64 e.kind, .int .u64 (e.num : Int), .string (txt e.text), .slice E eg.len ec] 27)).heap.size = w6.heap.size + 1 := by simp
          have hdd := HD.out
          have hal : Below w6.heap.size w6 (w6.alloc (.cells #[.string (txt e.name), .string (txt e.key), .int .i64 e.kind, .int .u64 (e.num : Int), .string (txt e.text), .slice E eg.len ec] 27)) := (Below.refl _ _).alloc (Nat.le_refl _) _
          rw [← HRF.out]
          exact rwith_any d (w.heap.size + 3) a f (oneF (e, eg)) (some ⟨b, p, none⟩) f.len c j 0 (some ⟨w6.heap.size, 0, none⟩) 1 1 (w6.alloc (.cells #[.string (txt e.name), .string (txt e.key), .int .i64 e.kind, .int .u64 (e.num : Int), .string (txt e.text), .slice E eg.len ec] 27)) (by omega) (by omega)
            (FrV.mono stay_nd (HK.out.under (HB6.out.trans (hal.mono HB6.out.size)) HD.out (Nat.le_refl _)) (fun g hg => .inl hg) (fun _ h => h))
            (row_one (FrN.mono stay_nd (HLE.out.under (HB6.out.trans (hal.mono HB6.out.size)) HD.out (Nat.le_refl _)) (fun g hg => .inl hg) (fun _ h => h)) (.inr ⟨by omega, by omega⟩) (Blk.new w6 27 #[.string (txt e.name), .string (txt e.key), .int .i64 e.kind, .int .u64 (e.num : Int), .string (txt e.text), .slice E eg.len ec]))
            (by have := HLN.out; omega) (by have := HLN.out; omega) (by omega))
        have q0 := (HX6.out.cell 0).trans rfl
        have q1 := (HX6.out.cell 1).trans rfl
        have q2 := (HX6.out.cell 2).trans rfl
        have q3 := (HX6.out.cell 3).trans rfl
        have q4 := (HX6.out.cell 4).trans rfl
        have q5 := (HX6.out.cell 5).trans rfl
        have x0 := (HE6.out.cell 0).trans rfl
        have x1 := (HE6.out.cell 1).trans rfl
        have x2 := (HE6.out.cell 2).trans rfl
        have x3 := (HE6.out.cell 3).trans rfl
        have x4 := (HE6.out.cell 4).trans rfl
        have x5 := (HE6.out.cell 5).trans rfl
        go_wp2_with fail
        refine HWC.out.mono ?_
        rintro r w7 ⟨A7, c7, rfl, hv7, hb7⟩
        have HV7 := Lib.hid hv7
        have HB7 := Lib.hid ((HB6.out.trans (((Below.refl w6.heap.size w6).alloc (Nat.le_refl _) (.cells #[.string (txt e.name), .string (txt e.key), .int .i64 e.kind, .int .u64 (e.num : Int), .string (txt e.text), .slice E eg.len ec] 27)).mono HB6.out.size)).trans (hb7.mono (by have h1 := HB6.out.size; simp; omega)))
        have HZ7 := Lib.hid ((HZ6.out.alloc (.cells #[.string (txt e.name), .string (txt e.key), .int .i64 e.kind, .int .u64 (e.num : Int), .string (txt e.text), .slice E eg.len ec] 27)).below hb7 (HZ6.out.alloc (.cells #[.string (txt e.name), .string (txt e.key), .int .i64 e.kind, .int .u64 (e.num : Int), .string (txt e.text), .slice E eg.len ec] 27)).lt)
        clear hv7 hb7 q0 q1 q2 q3 q4 q5 x0 x1 x2 x3 x4 x5
        have fz0 : (w7).frozen? ⟨w.heap.size + 2, 0, none⟩ = false := HZ7.out.frozen 0
        have fq0 := (HZ7.out.cell 0).trans rfl
        have fz1 : (w7).frozen? ⟨w.heap.size + 2, 1, none⟩ = false := HZ7.out.frozen 1
        have fq1 := (HZ7.out.cell 1).trans rfl
        have fz2 : (w7).frozen? ⟨w.heap.size + 2, 2, none⟩ = false := HZ7.out.frozen 2
        have fq2 := (HZ7.out.cell 2).trans rfl
        have fz3 : (w7).frozen? ⟨w.heap.size + 2, 3, none⟩ = false := HZ7.out.frozen 3
        have fq3 := (HZ7.out.cell 3).trans rfl
        have fz4 : (w7).frozen? ⟨w.heap.size + 2, 4, none⟩ = false := HZ7.out.frozen 4
        have fq4 := (HZ7.out.cell 4).trans rfl
        have fz5 : (w7).frozen? ⟨w.heap.size + 2, 5, none⟩ = false := HZ7.out.frozen 5
        have fq5 := (HZ7.out.cell 5).trans rfl
        -- what the result's box holds
        have RZ : Hid (Blk (set6 w7 (w.heap.size + 2) (.string (txt a.name)) (.string (txt a.key)) (.int .i64 a.kind) (.int .u64 (a.num : Int)) (.string (txt a.text)) (.slice A7 Rf.len c7)) (w.heap.size + 2) 27 #[.string (txt a.name), .string (txt a.key), .int .i64 a.kind, .int .u64 (a.num : Int), .string (txt a.text), .slice A7 Rf.len c7]) := Lib.hid (HZ7.out.set6 _ _ _ _ _ _)
        have HBZ : Hid (Below w.heap.size w (set6 w7 (w.heap.size + 2) (.string (txt a.name)) (.string (txt a.key)) (.int .i64 a.kind) (.int .u64 (a.num : Int)) (.string (txt a.text)) (.slice A7 Rf.len c7))) := Lib.hid (HB7.out.trans (set6_below (by omega)))
        have HLZ : Hid (LieP d w.heap.size (set6 w7 (w.heap.size + 2) (.string (txt a.name)) (.string (txt a.key)) (.int .i64 a.kind) (.int .u64 (a.num : Int)) (.string (txt a.text)) (.slice A7 Rf.len c7)) (ndC a (.slice A7 Rf.len c7)) (a, Rf)) := Lib.hid (LieP.after (B := (w.heap.size + 2) + 1) ((LieP.make (b := d) (B := (w.heap.size + 2) + 1) HV7.out).set6 (by have := HD.out; omega) (by omega) _ _ _ _ _ _) (by omega))
        go_wp2
        refine bodyPost_ret (results_cell_row rfl _ _ (w.heap.size + 2) 27 _ (0, 0) _ rfl RZ.out Try.underlying27 rfl (by kernel_rfl)) rfl ?_
        exact ⟨_, rfl, HLZ.out, HBZ.out⟩
    · have hje : j = f.len := by omega
      have hpl : placeF e f = j := place_at HL.out (by omega) (fun y hy => by have := Fr.get_lt hy; omega)
      have HRF : Hid (withF f j 0 (oneF (e, eg)) = Rf) := Lib.hid (by rw [← hpl]; exact HR0.out)
      have HLN := Lib.hid (And.intro HLN0.out (show j + 0 ≤ f.len by omega))
      have i2 : ¬ (j : Int) < (f.len : Int) := by omega
      have HXd := Lib.hid (hX.below (Below.refl _ _).drew hX.lt)
      have HEd := Lib.hid (hE.below (Below.refl _ _).drew hE.lt)
      have HZd := Lib.hid (hZ.below (Below.refl _ _).drew hZ.lt)
      have HBd := Lib.hid hB.drew
      have p5 : wr.cell? ⟨w.heap.size, 5, none⟩ = some (.slice A f.len c) := (hX.cell 5).trans rfl
      clear hX hE hZ hB hpl hje
      go_wp2_with fail
      go_region
      clear p5
      revert HXd HEd HZd HBd
      generalize wr.drew = w6
      intro HXd HEd HZd HBd
      -- With at the end, in the world w6, of which HXd, HEd, HZd, HBd are told
      have HWC : Hid (Calls Try.prog 49 #[.agg #[.string (txt a.name), .string (txt a.key), .int .i64 a.kind, .int .u64 (a.num : Int), .string (txt a.text), .slice A f.len c], .int .i64 (j : Int), .int .i64 0, .slice (some ⟨w6.heap.size, 0, none⟩) 1 1] (w6.alloc (.cells #[.string (txt e.name), .string (txt e.key), .int .i64 e.kind, .int .u64 (e.num : Int), .string (txt e.text), .slice E eg.len ec] 27)) (WithP d (w.heap.size + 3) a Rf (w6.alloc (.cells #[.string (txt e.name), .string (txt e.key), .int .i64 e.kind, .int .u64 (e.num : Int), .string (txt e.text), .slice E eg.len ec] 27)))) := Lib.hid (by
        have hz3 : w.heap.size + 2 < w6.heap.size := HZd.out.lt
        have hzs : (w6.alloc (.cells #[.string (txt e.name), .string (txt e.key), .int .i64 e.kind, .int .u64 (e.num : Int), .string (txt e.text), .slice E eg.len ec] 27)).heap.size = w6.heap.size + 1 := by simp
        have hdd := HD.out
        have hal : Below w6.heap.size w6 (w6.alloc (.cells #[.string (txt e.name), .string (txt e.key), .int .i64 e.kind, .int .u64 (e.num : Int), .string (txt e.text), .slice E eg.len ec] 27)) := (Below.refl _ _).alloc (Nat.le_refl _) _
        rw [← HRF.out]
        exact rwith_any d (w.heap.size + 3) a f (oneF (e, eg)) A f.len c j 0 (some ⟨w6.heap.size, 0, none⟩) 1 1 (w6.alloc (.cells #[.string (txt e.name), .string (txt e.key), .int .i64 e.kind, .int .u64 (e.num : Int), .string (txt e.text), .slice E eg.len ec] 27)) (by omega) (by omega)
          (FrV.mono stay_nd (HK.out.under (HBd.out.trans (hal.mono HBd.out.size)) HD.out (Nat.le_refl _)) (fun g hg => .inl hg) (fun _ h => h))
          (row_one (FrN.mono stay_nd (HLE.out.under (HBd.out.trans (hal.mono HBd.out.size)) HD.out (Nat.le_refl _)) (fun g hg => .inl hg) (fun _ h => h)) (.inr ⟨by omega, by omega⟩) (Blk.new w6 27 #[.string (txt e.name), .string (txt e.key), .int .i64 e.kind, .int .u64 (e.num : Int), .string (txt e.text), .slice E eg.len ec]))
          (by have := HLN.out; omega) (by have := HLN.out; omega) (by omega))
      have q0 := (HXd.out.cell 0).trans rfl
      have q1 := (HXd.out.cell 1).trans rfl
      have q2 := (HXd.out.cell 2).trans rfl
      have q3 := (HXd.out.cell 3).trans rfl
      have q4 := (HXd.out.cell 4).trans rfl
      have q5 := (HXd.out.cell 5).trans rfl
      have x0 := (HEd.out.cell 0).trans rfl
      have x1 := (HEd.out.cell 1).trans rfl
      have x2 := (HEd.out.cell 2).trans rfl
      have x3 := (HEd.out.cell 3).trans rfl
      have x4 := (HEd.out.cell 4).trans rfl
      have x5 := (HEd.out.cell 5).trans rfl
      go_wp2_with fail
      refine HWC.out.mono ?_
      rintro r w7 ⟨A7, c7, rfl, hv7, hb7⟩
      have HV7 := Lib.hid hv7
      have HB7 := Lib.hid ((HBd.out.trans (((Below.refl w6.heap.size w6).alloc (Nat.le_refl _) (.cells #[.string (txt e.name), .string (txt e.key), .int .i64 e.kind, .int .u64 (e.num : Int), .string (txt e.text), .slice E eg.len ec] 27)).mono HBd.out.size)).trans (hb7.mono (by have h1 := HBd.out.size; simp; omega)))
      have HZ7 := Lib.hid ((HZd.out.alloc (.cells #[.string (txt e.name), .string (txt e.key), .int .i64 e.kind, .int .u64 (e.num : Int), .string (txt e.text), .slice E eg.len ec] 27)).below hb7 (HZd.out.alloc (.cells #[.string (txt e.name), .string (txt e.key), .int .i64 e.kind, .int .u64 (e.num : Int), .string (txt e.text), .slice E eg.len ec] 27)).lt)
      clear hv7 hb7 q0 q1 q2 q3 q4 q5 x0 x1 x2 x3 x4 x5
      have fz0 : (w7).frozen? ⟨w.heap.size + 2, 0, none⟩ = false := HZ7.out.frozen 0
      have fq0 := (HZ7.out.cell 0).trans rfl
      have fz1 : (w7).frozen? ⟨w.heap.size + 2, 1, none⟩ = false := HZ7.out.frozen 1
      have fq1 := (HZ7.out.cell 1).trans rfl
      have fz2 : (w7).frozen? ⟨w.heap.size + 2, 2, none⟩ = false := HZ7.out.frozen 2
      have fq2 := (HZ7.out.cell 2).trans rfl
      have fz3 : (w7).frozen? ⟨w.heap.size + 2, 3, none⟩ = false := HZ7.out.frozen 3
      have fq3 := (HZ7.out.cell 3).trans rfl
      have fz4 : (w7).frozen? ⟨w.heap.size + 2, 4, none⟩ = false := HZ7.out.frozen 4
      have fq4 := (HZ7.out.cell 4).trans rfl
      have fz5 : (w7).frozen? ⟨w.heap.size + 2, 5, none⟩ = false := HZ7.out.frozen 5
      have fq5 := (HZ7.out.cell 5).trans rfl
      -- what the result's box holds
      have RZ : Hid (Blk (set6 w7 (w.heap.size + 2) (.string (txt a.name)) (.string (txt a.key)) (.int .i64 a.kind) (.int .u64 (a.num : Int)) (.string (txt a.text)) (.slice A7 Rf.len c7)) (w.heap.size + 2) 27 #[.string (txt a.name), .string (txt a.key), .int .i64 a.kind, .int .u64 (a.num : Int), .string (txt a.text), .slice A7 Rf.len c7]) := Lib.hid (HZ7.out.set6 _ _ _ _ _ _)
      have HBZ : Hid (Below w.heap.size w (set6 w7 (w.heap.size + 2) (.string (txt a.name)) (.string (txt a.key)) (.int .i64 a.kind) (.int .u64 (a.num : Int)) (.string (txt a.text)) (.slice A7 Rf.len c7))) := Lib.hid (HB7.out.trans (set6_below (by omega)))
      have HLZ : Hid (LieP d w.heap.size (set6 w7 (w.heap.size + 2) (.string (txt a.name)) (.string (txt a.key)) (.int .i64 a.kind) (.int .u64 (a.num : Int)) (.string (txt a.text)) (.slice A7 Rf.len c7)) (ndC a (.slice A7 Rf.len c7)) (a, Rf)) := Lib.hid (LieP.after (B := (w.heap.size + 2) + 1) ((LieP.make (b := d) (B := (w.heap.size + 2) + 1) HV7.out).set6 (by have := HD.out; omega) (by omega) _ _ _ _ _ _) (by omega))
      go_wp2
      refine bodyPost_ret (results_cell_row rfl _ _ (w.heap.size + 2) 27 _ (0, 0) _ rfl RZ.out Try.underlying27 rfl (by kernel_rfl)) rfl ?_
      exact ⟨_, rfl, HLZ.out, HBZ.out⟩
end Go.Proofs.Ytgipnemcmiohlaa

