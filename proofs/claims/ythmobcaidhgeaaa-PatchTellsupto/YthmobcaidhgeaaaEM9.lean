/- PatZse -/
import Derived.Test.YthmobcaidhgeaaaEM8
set_option linter.unusedSimpArgs false
set_option linter.unusedVariables false
set_option maxRecDepth 100000
set_option maxHeartbeats 8000000
namespace Go.Proofs.Ythmobcaidhgeaaa
open Go.RowKit
theorem zset_deep (d : Nat → Prop) (a e : NdD) (f eg : NdF) (A E : Option Addr) (c ec : Nat) (s t : Stp) (l : List Stp) (g o N m i : Nat) (a1 : NdD) (q : NdF) (za : NdD) (zf Rf : NdF) (w : World) (hd : UndZ d w) (hx : LieZ d w (ndC a (.slice A f.len c)) (a, f)) (he : LieZ d w (ndC e (.slice E eg.len ec)) (e, eg)) (hl : f.len ≤ 1000000)
  (hv : WayV w.heap.size w (.slice (some ⟨g, o, none⟩) N m) (s :: t :: l)) (hf : findN s f = some i) (hy : f.get? i = some (a1, q)) (hR : withF f i 1 (oneF (za, zf)) = Rf)
  (hI : ∀ (cs ds : List Value) (v : Value) (W : World), UndZ d W → LieZ d W cs (a1, q) → LieZ d W ds (e, eg) → WayV W.heap.size W v (t :: l) → Calls Try.prog 33 #[.agg cs.toArray, v, .agg ds.toArray] W (PTreZ1 d (za, zf) W)) :
  Calls Try.prog 33 #[.agg (cN a (.slice A f.len c)), .slice (some ⟨g, o, none⟩) N m, .agg (cN e (.slice E eg.len ec))] w (PTreZ1 d (a, Rf) w) := by
 obtain ⟨h1, hbx, h2, h3, h4⟩ := set_boxes a e f eg A E c ec w (hx.lie hd)
 obtain ⟨g', o', eg', hNl, hNm, hg, hs1, hs2⟩ := hv.at (j := 0) (s := s) rfl
 injection eg' with eg'
 injection eg' with eg1 eg2 eg3
 subst eg1 eg2
 have hs : Stp0 w g o s := ⟨by simpa using hs1, by simpa using hs2⟩
 have hN : 0 < N := by rw [hNl]; simp
 have i1 : (0 : Int) < (N : Int) := by omega
 have i2 : (1 : Int) ≤ (N : Int) := by omega
 have i3 : (N : Int) ≤ (m : Int) := by omega
 have HF : Hid (Calls Try.prog 31 #[.agg (cN a (.slice A f.len c)), .agg #[.string (txt s.1), .string (txt s.2)]] (((w.alloc (.cells (cN a (.slice A f.len c)) 27)).alloc (.cells (cN e (.slice E eg.len ec)) 27)).alloc (.cells #[.string ⟨#[]⟩, .string ⟨#[]⟩, .int .i64 0, .int .u64 0, .string ⟨#[]⟩, .slice none 0 0] 27)).drew (Ans9 (.int .i64 (i : Int)) (((w.alloc (.cells (cN a (.slice A f.len c)) 27)).alloc (.cells (cN e (.slice E eg.len ec)) 27)).alloc (.cells #[.string ⟨#[]⟩, .string ⟨#[]⟩, .int .i64 0, .int .u64 0, .string ⟨#[]⟩, .slice none 0 0] 27)).drew)) := hHd (by
  have h := rfindn_any s (a, f) _ (((w.alloc (.cells (cN a (.slice A f.len c)) 27)).alloc (.cells (cN e (.slice E eg.len ec)) 27)).alloc (.cells #[.string ⟨#[]⟩, .string ⟨#[]⟩, .int .i64 0, .int .u64 0, .string ⟨#[]⟩, .slice none 0 0] 27)).drew h4 hl
  rw [show findIx s f = (i : Int) by unfold findIx; rw [hf]] at h
  exact h)
 have hk := LieZ.row hx
 have hi := Fr.get_lt hy
 obtain ⟨b, p, A1, c1, rfl, -, -, hbl, hrow, hcl⟩ := hk.at hy
 have hN2 : N = (t :: l).length + 1 := hNl
 have hN3 : 1 < N := by rw [hN2]; simp
 have i4 : (1 : Int) < (N : Int) := by omega
 have hm1 : ¬ m = 1 := by omega
 have j1 : (0 : Int) ≤ (i : Int) := by omega
 have j2 : (i : Int) < (f.len : Int) := by omega
 have HX := hHd h1
 have HE := hHd hbx
 have HZ := hHd h2
 have HB := hHd h3
 have HSt := hHd (hs.below hg h3.drew)
 have HGL := hHd hg
 have HBL := hHd (hd _ hbl)
 have HD := hHd hd
 have HI := hHd hI
 have HV := hHd hv
 have HC := hHd hcl
 have HR := hHd hrow
 have HK := hHd hk
 have HLE := hHd he
 have HRF := hHd hR
 have HLN := hHd (And.intro hl hi)
 clear h1 h2 h3 h4 hbx hx hl hs hf hg hk hbl hrow hcl hI hv hs1 hs2 hNl hNm hy hi hd he hR hN2
 go_enter Try.func33, Try.ntmps33
 go_wp2_with fail
 refine wp_region_noPanic ?_
 refine wp_region_held_drew (S := fun _ => True) (by kernel_rfl) trivial (fun hS => ?_)
 refine held_more (S' := fun w' => Blk w' w.heap.size 27 (cN a (.slice (some ⟨b, p, none⟩) f.len c)) ∧ Stp0 w' g o s) (fun _ _ => trivial) _ _ _ _ ?_
 replace hS := And.intro (HX.out.below (Below.refl _ _).drew HX.out.lt) HSt.out
 refine tkH 0 hS ?_ (hy := fun w hSw => by obtain ⟨q0, q1, q2, q3, q4, q5⟩ := cl6 hSw.1; (go_simp <;> with_reducible rfl))
 refine tkH 1 hS ?_
 refine tkH 2 hS ?_
 refine tkH 3 hS ?_ (hy := fun w hSw => by have q0 := hSw.2.1; have q1 := hSw.2.2; (go_simp <;> with_reducible rfl))
 refine rdy1 4 fun K hK => ?_
 go_simp
 refine HF.out.mono ?_
 rintro r w3 ⟨rfl, hb3⟩
 have HB3 := hHd (HB.out.drew.trans (hb3.mono HB.out.drew.size))
 have HZ3 := hHd ((HZ.out.below (Below.refl _ _).drew HZ.out.lt).below hb3 HZ.out.lt)
 have HE3 := hHd ((HE.out.below (Below.refl _ _).drew HE.out.lt).below hb3 HE.out.lt)
 have HX3 := hHd ((HX.out.below (Below.refl _ _).drew HX.out.lt).below hb3 HX.out.lt)
 have HW3 := hHd hb3
 clear hb3
 go_wp2_with fail
 refine hK.out _ _ ?sr_0 (fun hS => ?_)
 case sr_0 => (exact ⟨HX3.out, HSt.out.below (Nat.lt_of_lt_of_le HGL.out HB.out.drew.size) HW3.out⟩)
 clear hK K
 (try simp only [Act.put, layS])
 refine tkH 5 hS ?_
 refine wpAnyH_done (by kernel_rfl) ?_ _
 refine NoPanic.normal ?_
 clear hS
 go_wp2_with fail
 have HX4 := hHd (HX3.out.below (Below.refl _ _).drew HX3.out.lt)
 have HE4 := hHd (HE3.out.below (Below.refl _ _).drew HE3.out.lt)
 have HZ4 := hHd (HZ3.out.below (Below.refl _ _).drew HZ3.out.lt)
 have HC4 : Hid (∀ j u, (ndC a1 (.slice A1 q.len c1))[j]? = some u → w3.drew.cell? ⟨b, p + i * 6 + j, none⟩ = some u) := hHd (fun j u hu => (HB3.out.drew.cell (p := ⟨b, p + i * 6 + j, none⟩) HBL.out).trans (HC.out j u hu))
 have HI1 : Hid (Calls Try.prog 33 #[.agg (cN a1 (.slice A1 q.len c1)), .slice (some ⟨g, o + 2, none⟩) (N - 1) (m - 1), .agg (cN e (.slice E eg.len ec))] w3.drew (PTreZ1 d (za, zf) w3.drew)) := hHd
  (HI.out _ _ _ w3.drew (und_le HD.out HB3.out.drew.size) (LieZ.make (HR.out.under HB3.out.drew HD.out)) (HLE.out.under HB3.out.drew HD.out) (way_tail1 (HV.out.under HB3.out.drew (Nat.le_refl _) HB3.out.drew.size)))
 refine wp_region_noPanic ?_
 refine wp_region_held_drew (S := fun _ => True) (by kernel_rfl) trivial (fun hS => ?_)
 refine held_more (S' := (fun w' => Blk w' w.heap.size 27 (cN a (.slice (some ⟨b, p, none⟩) f.len c)) ∧ Blk w' (w.heap.size + 1) 27 (cN e (.slice E eg.len ec)) ∧ ∀ j u, (ndC a1 (.slice A1 q.len c1))[j]? = some u → w'.cell? ⟨b, p + i * 6 + j, none⟩ = some u)) (fun _ _ => trivial) _ _ _ _ ?_
 replace hS := And.intro HX4.out (And.intro HE4.out HC4.out)
 refine tkH 0 hS ?_ (hy := fun w hSw => by obtain ⟨q0, q1, q2, q3, q4, q5⟩ := cl6 hSw.1; (go_simp <;> with_reducible rfl))
 refine tkH 1 hS ?_
 refine tkH 2 hS ?_
 refine tkH 3 hS ?_ (hy := fun w hSw => by have q5 := (hSw.1.cell 5).trans rfl; (go_simp <;> with_reducible rfl))
 refine tkH 4 hS ?_
 refine tkH 5 hS ?_
 refine tkH 6 hS ?_ (hy := fun w hSw => by have u0 : w.cell? ⟨b, p + i * 6, none⟩ = _ := hSw.2.2 0 _ rfl; have u1 := hSw.2.2 1 _ rfl; have u2 := hSw.2.2 2 _ rfl; have u3 := hSw.2.2 3 _ rfl; have u4 := hSw.2.2 4 _ rfl; have u5 := hSw.2.2 5 _ rfl; (go_simp <;> with_reducible rfl))
 refine tkH 7 hS ?_
 refine tkH 8 hS ?_
 refine tkH 9 hS ?_ (hy := fun w hSw => by obtain ⟨q0, q1, q2, q3, q4, q5⟩ := cl6 hSw.2.1; (go_simp <;> with_reducible rfl))
 refine rdy1 10 fun K hK => ?_
 go_simp
 refine HI1.out.mono ?_
 intro r w6 hr
 obtain ⟨A6, c6, rfl, hl6, hb6⟩ := hr.flat
 have HL6 := hHd hl6
 have HB6 := hHd (HB3.out.drew.trans (hb6.mono HB3.out.drew.size))
 have HX6 := hHd (HX4.out.below hb6 HX4.out.lt)
 have HE6 := hHd (HE4.out.below hb6 HE4.out.lt)
 have HZ6 := hHd (HZ4.out.below hb6 HZ4.out.lt)
 have HC6 : Hid (∀ j u, (ndC a1 (.slice A1 q.len c1))[j]? = some u → w6.cell? ⟨b, p + i * 6 + j, none⟩ = some u) := hHd (fun j u hu => (hb6.cell (p := ⟨b, p + i * 6 + j, none⟩) (Nat.lt_of_lt_of_le HBL.out HB3.out.drew.size)).trans (HC4.out j u hu))
 have HW6 := hHd hb6
 clear hb6 hr hl6
 go_wp2_with fail
 refine hK.out _ _ ?sr_1 (fun hS => ?_)
 case sr_1 => (exact ⟨HX6.out, HE6.out, HC6.out⟩)
 clear hK K
 (try simp only [Act.put, layS])
 refine rdy1 11 fun K hK => ?_
 go_simp
 refine hK.out _ _ ?sr_2 (fun hS => ?_)
 case sr_2 => (exact ⟨HX6.out.alloc _, HE6.out.alloc _, fun j u hu => (Below.cell (B := w6.heap.size) ((Below.refl w6.heap.size w6).alloc (Nat.le_refl _) (.cells (cN za (.slice A6 zf.len c6)) 27)) (p := ⟨b, p + i * 6 + j, none⟩) (Nat.lt_of_lt_of_le HBL.out HB6.out.size)).trans (HC6.out j u hu)⟩)
 clear hK K
 (try simp only [Act.put, layS])
 have hal : Below w6.heap.size w6 (w6.alloc (.cells (cN za (.slice A6 zf.len c6)) 27)) := bAl
 have HWC : Hid (Calls Try.prog 43 #[.agg (cN a (.slice (some ⟨b, p, none⟩) f.len c)), .int .i64 (i : Int), .int .i64 1, .slice (some ⟨w6.heap.size, 0, none⟩) 1 1] (w6.alloc (.cells (cN za (.slice A6 zf.len c6)) 27)) (WithZ d (w.heap.size + 3) a Rf (w6.alloc (.cells (cN za (.slice A6 zf.len c6)) 27)))) := hHd (by
  have hz3 : w.heap.size + 2 < w3.heap.size := HZ3.out.lt
  have hz6 : w3.heap.size ≤ w6.heap.size := HW6.out.size
  have hzs : (w6.alloc (.cells (cN za (.slice A6 zf.len c6)) 27)).heap.size = w6.heap.size + 1 := by simp
  have hdd := HD.out
  rw [← HRF.out]
  exact zwith_any d (w.heap.size + 3) a f (oneF (za, zf)) (some ⟨b, p, none⟩) f.len c i 1 (some ⟨w6.heap.size, 0, none⟩) 1 1 (w6.alloc (.cells (cN za (.slice A6 zf.len c6)) 27)) (fun g h9 => by have := hdd g h9; omega) (by omega)
   (FrV.mono stay_nd (HK.out.under (HB6.out.trans (hal.mono HB6.out.size)) HD.out) (fun g hg => .inl hg) (fun _ h => h))
   (row_one (FrN.kept stay_nd HL6.out (fun g hg => Below.heap_alloc w6 _ g (by rcases hg with h | h <;> (first | omega | (have h9 := hdd _ h; omega) | (have h9 := hd _ h; omega) | (have h9 := HDB.out.1 _ h; omega) | (have h9 := HD.out _ h; omega)))) (fun g hg => by rcases hg with h | h; exact .inl h; exact .inr ⟨by have : w3.drew.heap.size = w3.heap.size := rfl; omega, by omega⟩) (fun _ h => h.elim) (fun _ h => h)) (.inr ⟨by omega, by omega⟩) (Blk.new w6 27 (cN za (.slice A6 zf.len c6))))
   (by have := HLN.out; omega) (by have := HLN.out; omega) (by omega))
 have HALL := hHd hal
 clear hal
 refine rdy1 12 fun K hK => ?_
 go_simp
 refine HWC.out.mono ?_
 rintro r w7 ⟨A7, c7, rfl, hv7, hb7⟩
 have HV7 := hHd hv7
 have HB7 := hHd ((HB6.out.trans (HALL.out.mono HB6.out.size)).trans (hb7.mono (by have h1 := HB6.out.size; simp; omega)))
 have HX7 := hHd ((HX6.out.alloc (.cells (cN za (.slice A6 zf.len c6)) 27)).below hb7 (HX6.out.alloc (.cells (cN za (.slice A6 zf.len c6)) 27)).lt)
 have HE7 := hHd ((HE6.out.alloc (.cells (cN za (.slice A6 zf.len c6)) 27)).below hb7 (HE6.out.alloc (.cells (cN za (.slice A6 zf.len c6)) 27)).lt)
 have HZ7 := hHd ((HZ6.out.alloc (.cells (cN za (.slice A6 zf.len c6)) 27)).below hb7 (HZ6.out.alloc (.cells (cN za (.slice A6 zf.len c6)) 27)).lt)
 have HC7 : Hid (∀ j u, (ndC a1 (.slice A1 q.len c1))[j]? = some u → w7.cell? ⟨b, p + i * 6 + j, none⟩ = some u) := hHd (fun j u hu => (HB7.out.cell (p := ⟨b, p + i * 6 + j, none⟩) HBL.out).trans (HC.out j u hu))
 clear hv7 hb7
 go_wp2_with fail
 refine hK.out _ _ ?sr_3 (fun hS => ?_)
 case sr_3 => (exact ⟨HX7.out, HE7.out, HC7.out⟩)
 clear hK K
 (try simp only [Act.put, layS])
 refine rdy1 13 fun K hK => ?_
 have fz0 : (w7).frozen? ⟨w.heap.size + 2, 0, none⟩ = false := HZ7.out.frozen 0
 have fq0 := (HZ7.out.cell 0).trans rfl
 have fz1 : (w7).frozen? ⟨w.heap.size + 2, 1, none⟩ = false := HZ7.out.frozen 1
 have fq1 := (HZ7.out.cell 1).trans rfl
 have fz2 : (w7).frozen? ⟨w.heap.size + 2, 2, none⟩ = false := HZ7.out.frozen 2
 have fq2 := (HZ7.out.cell 2).trans rfl
 have fz3 : (w7).frozen? ⟨w.heap.size + 2, 3, none⟩ = false := HZ7.out.frozen 3
 have fq3 := (HZ7.out.cell 3).trans rfl
 have fz4 : (w7).frozen? ⟨w.heap.size + 2, 4, none⟩ = false := HZ7.out.frozen 4
 have fq4 := (HZ7.out.cell 4).trans rfl
 have fz5 : (w7).frozen? ⟨w.heap.size + 2, 5, none⟩ = false := HZ7.out.frozen 5
 have fq5 := (HZ7.out.cell 5).trans rfl
 go_simp
 refine hK.out _ _ ?sr_4 (fun hS => ?_)
 case sr_4 => (exact ⟨(set6_other (w := w7) (b := w.heap.size + 2) (by omega)).trans HX7.out, (set6_other (w := w7) (b := w.heap.size + 2) (by omega)).trans HE7.out, fun j u hu => (World.cell?_of_block (set6_other (w := w7) (b := w.heap.size + 2) (by have := HBL.out; show b ≠ _; omega))).trans (HC7.out j u hu)⟩)
 clear hK K
 (try simp only [Act.put, layS])
 refine wpAnyH_done (by kernel_rfl) ?_ _
 refine NoPanic.normal ?_
 clear hS
 -- what the result's box holds
 have RZ : Hid (Blk (set6 w7 (w.heap.size + 2) (.string (txt a.name)) (.string (txt a.key)) (.int .i64 a.kind) (.int .u64 (a.num : Int)) (.string (txt a.text)) (.slice A7 Rf.len c7)) (w.heap.size + 2) 27 (cN a (.slice A7 Rf.len c7))) := hHd (HZ7.out.set6 _ _ _ _ _ _)
 have HBZ : Hid (Below w.heap.size w (set6 w7 (w.heap.size + 2) (.string (txt a.name)) (.string (txt a.key)) (.int .i64 a.kind) (.int .u64 (a.num : Int)) (.string (txt a.text)) (.slice A7 Rf.len c7))) := hHd (HB7.out.trans (set6_below (by omega)))
 have HLZ : Hid (LieQ d w.heap.size (set6 w7 (w.heap.size + 2) (.string (txt a.name)) (.string (txt a.key)) (.int .i64 a.kind) (.int .u64 (a.num : Int)) (.string (txt a.text)) (.slice A7 Rf.len c7)) (ndC a (.slice A7 Rf.len c7)) (a, Rf)) := hHd (LieQ.after (B := (w.heap.size + 2) + 1) ((LieQ.make (S := d) (B := (w.heap.size + 2) + 1) HV7.out).set6 (fun h9 => by have := HD.out _ h9; omega) (by omega) _ _ _ _ _ _) (by omega))
 go_wp2
 refine bodyPost_ret (results_cell_row rfl _ _ (w.heap.size + 2) 27 _ (0, 0) _ rfl RZ.out Try.underlying27 rfl (by kernel_rfl)) rfl ?_
 exact ⟨_, rfl, HLZ.out, HBZ.out⟩
theorem zset_rep (d : Nat → Prop) (a e : NdD) (f eg : NdF) (A E : Option Addr) (c ec : Nat) (s : Stp) (g o N m i : Nat) (Rf : NdF) (w : World) (hd : UndZ d w) (hx : LieZ d w (ndC a (.slice A f.len c)) (a, f)) (he : LieZ d w (ndC e (.slice E eg.len ec)) (e, eg)) (hl : f.len ≤ 1000000)
  (hv : WayV w.heap.size w (.slice (some ⟨g, o, none⟩) N m) [s]) (hf : findN s f = some i) (hi : i < f.len) (hR : withF f i 1 (oneF (e, eg)) = Rf) :
  Calls Try.prog 33 #[.agg (cN a (.slice A f.len c)), .slice (some ⟨g, o, none⟩) N m, .agg (cN e (.slice E eg.len ec))] w (PTreZ1 d (a, Rf) w) := by
 obtain ⟨h1, hbx, h2, h3, h4⟩ := set_boxes a e f eg A E c ec w (hx.lie hd)
 obtain ⟨g', o', eg', hNl, hNm, hg, hs1, hs2⟩ := hv.at (j := 0) (s := s) rfl
 injection eg' with eg'
 injection eg' with eg1 eg2 eg3
 subst eg1 eg2
 have hs : Stp0 w g o s := ⟨by simpa using hs1, by simpa using hs2⟩
 have hN : 0 < N := by rw [hNl]; simp
 have i1 : (0 : Int) < (N : Int) := by omega
 have i2 : (1 : Int) ≤ (N : Int) := by omega
 have i3 : (N : Int) ≤ (m : Int) := by omega
 have HF : Hid (Calls Try.prog 31 #[.agg (cN a (.slice A f.len c)), .agg #[.string (txt s.1), .string (txt s.2)]] (((w.alloc (.cells (cN a (.slice A f.len c)) 27)).alloc (.cells (cN e (.slice E eg.len ec)) 27)).alloc (.cells #[.string ⟨#[]⟩, .string ⟨#[]⟩, .int .i64 0, .int .u64 0, .string ⟨#[]⟩, .slice none 0 0] 27)).drew (Ans9 (.int .i64 (i : Int)) (((w.alloc (.cells (cN a (.slice A f.len c)) 27)).alloc (.cells (cN e (.slice E eg.len ec)) 27)).alloc (.cells #[.string ⟨#[]⟩, .string ⟨#[]⟩, .int .i64 0, .int .u64 0, .string ⟨#[]⟩, .slice none 0 0] 27)).drew)) := hHd (by
  have h := rfindn_any s (a, f) _ (((w.alloc (.cells (cN a (.slice A f.len c)) 27)).alloc (.cells (cN e (.slice E eg.len ec)) 27)).alloc (.cells #[.string ⟨#[]⟩, .string ⟨#[]⟩, .int .i64 0, .int .u64 0, .string ⟨#[]⟩, .slice none 0 0] 27)).drew h4 hl
  rw [show findIx s f = (i : Int) by unfold findIx; rw [hf]] at h
  exact h)
 have hk := LieZ.row hx
 have hN2 : N = 1 := hNl
 have i4 : ¬ (1 : Int) < (N : Int) := by omega
 have j1 : (0 : Int) ≤ (i : Int) := by omega
 have HX := hHd h1
 have HE := hHd hbx
 have HZ := hHd h2
 have HB := hHd h3
 have HSt := hHd (hs.below hg h3.drew)
 have HGL := hHd hg
 have HD := hHd hd
 have HK := hHd hk
 have HLE := hHd he
 have HRF := hHd hR
 have HLN := hHd (And.intro hl (show i + 1 ≤ f.len by omega))
 clear h1 h2 h3 h4 hbx hx hl hs hf hg hk hv hs1 hs2 hNl hNm hi hd he hR
 subst hN2
 go_enter Try.func33, Try.ntmps33
 go_wp2_with fail
 refine wp_region_noPanic ?_
 refine wp_region_held_drew (S := fun _ => True) (by kernel_rfl) trivial (fun hS => ?_)
 refine held_more (S' := fun w' => Blk w' w.heap.size 27 (cN a (.slice A f.len c)) ∧ Stp0 w' g o s) (fun _ _ => trivial) _ _ _ _ ?_
 replace hS := And.intro (HX.out.below (Below.refl _ _).drew HX.out.lt) HSt.out
 refine tkH 0 hS ?_ (hy := fun w hSw => by obtain ⟨q0, q1, q2, q3, q4, q5⟩ := cl6 hSw.1; (go_simp <;> with_reducible rfl))
 refine tkH 1 hS ?_
 refine tkH 2 hS ?_
 refine tkH 3 hS ?_ (hy := fun w hSw => by have q0 := hSw.2.1; have q1 := hSw.2.2; (go_simp <;> with_reducible rfl))
 refine rdy1 4 fun K hK => ?_
 go_simp
 refine HF.out.mono ?_
 rintro r w3 ⟨rfl, hb3⟩
 have HB3 := hHd (HB.out.drew.trans (hb3.mono HB.out.drew.size))
 have HZ3 := hHd ((HZ.out.below (Below.refl _ _).drew HZ.out.lt).below hb3 HZ.out.lt)
 have HE3 := hHd ((HE.out.below (Below.refl _ _).drew HE.out.lt).below hb3 HE.out.lt)
 have HX3 := hHd ((HX.out.below (Below.refl _ _).drew HX.out.lt).below hb3 HX.out.lt)
 have HW3 := hHd hb3
 clear hb3
 go_wp2_with fail
 refine hK.out _ _ ?sr_5 (fun hS => ?_)
 case sr_5 => (exact ⟨HX3.out, HSt.out.below (Nat.lt_of_lt_of_le HGL.out HB.out.drew.size) HW3.out⟩)
 clear hK K
 (try simp only [Act.put, layS])
 refine tkH 5 hS ?_
 refine wpAnyH_done (by kernel_rfl) ?_ _
 refine NoPanic.normal ?_
 clear hS
 -- With at the end, in the world w3, of which HX3, HE3, HZ3, HB3 are told
 have HWC : Hid (Calls Try.prog 43 #[.agg (cN a (.slice A f.len c)), .int .i64 (i : Int), .int .i64 1, .slice (some ⟨w3.heap.size, 0, none⟩) 1 1] (w3.alloc (.cells (cN e (.slice E eg.len ec)) 27)) (WithZ d (w.heap.size + 3) a Rf (w3.alloc (.cells (cN e (.slice E eg.len ec)) 27)))) := hHd (by
  have hz3 : w.heap.size + 2 < w3.heap.size := HZ3.out.lt
  have hzs : (w3.alloc (.cells (cN e (.slice E eg.len ec)) 27)).heap.size = w3.heap.size + 1 := by simp
  have hdd := HD.out
  have hal : Below w3.heap.size w3 (w3.alloc (.cells (cN e (.slice E eg.len ec)) 27)) := bAl
  rw [← HRF.out]
  exact zwith_any d (w.heap.size + 3) a f (oneF (e, eg)) A f.len c i 1 (some ⟨w3.heap.size, 0, none⟩) 1 1 (w3.alloc (.cells (cN e (.slice E eg.len ec)) 27)) (fun g h9 => by have := hdd g h9; omega) (by omega)
   (FrV.mono stay_nd (HK.out.under (HB3.out.trans (hal.mono HB3.out.size)) HD.out) (fun g hg => .inl hg) (fun _ h => h))
   (row_one (FrN.mono stay_nd (HLE.out.under (HB3.out.trans (hal.mono HB3.out.size)) HD.out) (fun g hg => .inl hg) (fun _ h => h)) (.inr ⟨by omega, by omega⟩) (Blk.new w3 27 (cN e (.slice E eg.len ec))))
   (by have := HLN.out; omega) (by have := HLN.out; omega) (by omega))
 obtain ⟨q0, q1, q2, q3, q4, q5⟩ := cl6 HX3.out
 obtain ⟨x0, x1, x2, x3, x4, x5⟩ := cl6 HE3.out
 go_wp2_with fail
 refine HWC.out.mono ?_
 rintro r w7 ⟨A7, c7, rfl, hv7, hb7⟩
 have HV7 := hHd hv7
 have HB7 := hHd ((HB3.out.trans (((Below.refl w3.heap.size w3).alloc (Nat.le_refl _) (.cells (cN e (.slice E eg.len ec)) 27)).mono HB3.out.size)).trans (hb7.mono (by have h1 := HB3.out.size; simp; omega)))
 have HZ7 := hHd ((HZ3.out.alloc (.cells (cN e (.slice E eg.len ec)) 27)).below hb7 (HZ3.out.alloc (.cells (cN e (.slice E eg.len ec)) 27)).lt)
 clear hv7 hb7 q0 q1 q2 q3 q4 q5 x0 x1 x2 x3 x4 x5
 have fz0 : (w7).frozen? ⟨w.heap.size + 2, 0, none⟩ = false := HZ7.out.frozen 0
 have fq0 := (HZ7.out.cell 0).trans rfl
 have fz1 : (w7).frozen? ⟨w.heap.size + 2, 1, none⟩ = false := HZ7.out.frozen 1
 have fq1 := (HZ7.out.cell 1).trans rfl
 have fz2 : (w7).frozen? ⟨w.heap.size + 2, 2, none⟩ = false := HZ7.out.frozen 2
 have fq2 := (HZ7.out.cell 2).trans rfl
 have fz3 : (w7).frozen? ⟨w.heap.size + 2, 3, none⟩ = false := HZ7.out.frozen 3
 have fq3 := (HZ7.out.cell 3).trans rfl
 have fz4 : (w7).frozen? ⟨w.heap.size + 2, 4, none⟩ = false := HZ7.out.frozen 4
 have fq4 := (HZ7.out.cell 4).trans rfl
 have fz5 : (w7).frozen? ⟨w.heap.size + 2, 5, none⟩ = false := HZ7.out.frozen 5
 have fq5 := (HZ7.out.cell 5).trans rfl
 -- what the result's box holds
 have RZ : Hid (Blk (set6 w7 (w.heap.size + 2) (.string (txt a.name)) (.string (txt a.key)) (.int .i64 a.kind) (.int .u64 (a.num : Int)) (.string (txt a.text)) (.slice A7 Rf.len c7)) (w.heap.size + 2) 27 (cN a (.slice A7 Rf.len c7))) := hHd (HZ7.out.set6 _ _ _ _ _ _)
 have HBZ : Hid (Below w.heap.size w (set6 w7 (w.heap.size + 2) (.string (txt a.name)) (.string (txt a.key)) (.int .i64 a.kind) (.int .u64 (a.num : Int)) (.string (txt a.text)) (.slice A7 Rf.len c7))) := hHd (HB7.out.trans (set6_below (by omega)))
 have HLZ : Hid (LieQ d w.heap.size (set6 w7 (w.heap.size + 2) (.string (txt a.name)) (.string (txt a.key)) (.int .i64 a.kind) (.int .u64 (a.num : Int)) (.string (txt a.text)) (.slice A7 Rf.len c7)) (ndC a (.slice A7 Rf.len c7)) (a, Rf)) := hHd (LieQ.after (B := (w.heap.size + 2) + 1) ((LieQ.make (S := d) (B := (w.heap.size + 2) + 1) HV7.out).set6 (fun h9 => by have := HD.out _ h9; omega) (by omega) _ _ _ _ _ _) (by omega))
 go_wp2
 refine bodyPost_ret (results_cell_row rfl _ _ (w.heap.size + 2) 27 _ (0, 0) _ rfl RZ.out Try.underlying27 rfl (by kernel_rfl)) rfl ?_
 exact ⟨_, rfl, HLZ.out, HBZ.out⟩
theorem zset_ins (d : Nat → Prop) (a e : NdD) (f eg : NdF) (A E : Option Addr) (c ec : Nat) (s : Stp) (g o N m : Nat) (Rf : NdF) (w : World) (hd : UndZ d w) (hx : LieZ d w (ndC a (.slice A f.len c)) (a, f)) (he : LieZ d w (ndC e (.slice E eg.len ec)) (e, eg)) (hl : f.len ≤ 1000000)
  (hv : WayV w.heap.size w (.slice (some ⟨g, o, none⟩) N m) [s]) (hf : findN s f = none) (hR : withF f (placeF e f) 0 (oneF (e, eg)) = Rf) :
  Calls Try.prog 33 #[.agg (cN a (.slice A f.len c)), .slice (some ⟨g, o, none⟩) N m, .agg (cN e (.slice E eg.len ec))] w (PTreZ1 d (a, Rf) w) := by
 obtain ⟨h1, hbx, h2, h3, h4⟩ := set_boxes a e f eg A E c ec w (hx.lie hd)
 obtain ⟨g', o', eg', hNl, hNm, hg, hs1, hs2⟩ := hv.at (j := 0) (s := s) rfl
 injection eg' with eg'
 injection eg' with eg1 eg2 eg3
 subst eg1 eg2
 have hs : Stp0 w g o s := ⟨by simpa using hs1, by simpa using hs2⟩
 have hN : 0 < N := by rw [hNl]; simp
 have i1 : (0 : Int) < (N : Int) := by omega
 have i2 : (1 : Int) ≤ (N : Int) := by omega
 have i3 : (N : Int) ≤ (m : Int) := by omega
 have HF : Hid (Calls Try.prog 31 #[.agg (cN a (.slice A f.len c)), .agg #[.string (txt s.1), .string (txt s.2)]] (((w.alloc (.cells (cN a (.slice A f.len c)) 27)).alloc (.cells (cN e (.slice E eg.len ec)) 27)).alloc (.cells #[.string ⟨#[]⟩, .string ⟨#[]⟩, .int .i64 0, .int .u64 0, .string ⟨#[]⟩, .slice none 0 0] 27)).drew (Ans9 (.int .i64 (-1)) (((w.alloc (.cells (cN a (.slice A f.len c)) 27)).alloc (.cells (cN e (.slice E eg.len ec)) 27)).alloc (.cells #[.string ⟨#[]⟩, .string ⟨#[]⟩, .int .i64 0, .int .u64 0, .string ⟨#[]⟩, .slice none 0 0] 27)).drew)) := hHd (by
  have h := rfindn_any s (a, f) _ (((w.alloc (.cells (cN a (.slice A f.len c)) 27)).alloc (.cells (cN e (.slice E eg.len ec)) 27)).alloc (.cells #[.string ⟨#[]⟩, .string ⟨#[]⟩, .int .i64 0, .int .u64 0, .string ⟨#[]⟩, .slice none 0 0] 27)).drew h4 hl
  rw [show findIx s f = (-1) by unfold findIx; rw [hf]] at h
  exact h)
 have hk := LieZ.row hx
 have hN2 : N = 1 := hNl
 have i4 : ¬ (1 : Int) < (N : Int) := by omega
 have HX := hHd h1
 have HE := hHd hbx
 have HZ := hHd h2
 have HB := hHd h3
 have HSt := hHd (hs.below hg h3.drew)
 have HGL := hHd hg
 have HD := hHd hd
 have HK := hHd hk
 have HLE := hHd he
 have HR0 := hHd hR
 have HLN0 := hHd hl
 have i5 : (f.len : Int) ≤ 1000000 := by omega
 clear h1 h2 h3 h4 hbx hx hl hs hf hg hk hv hs1 hs2 hNl hNm hd he hR
 subst hN2
 go_enter Try.func33, Try.ntmps33
 go_wp2_with fail
 refine wp_region_noPanic ?_
 refine wp_region_held_drew (S := fun _ => True) (by kernel_rfl) trivial (fun hS => ?_)
 refine held_more (S' := fun w' => Blk w' w.heap.size 27 (cN a (.slice A f.len c)) ∧ Stp0 w' g o s) (fun _ _ => trivial) _ _ _ _ ?_
 replace hS := And.intro (HX.out.below (Below.refl _ _).drew HX.out.lt) HSt.out
 refine tkH 0 hS ?_ (hy := fun w hSw => by obtain ⟨q0, q1, q2, q3, q4, q5⟩ := cl6 hSw.1; (go_simp <;> with_reducible rfl))
 refine tkH 1 hS ?_
 refine tkH 2 hS ?_
 refine tkH 3 hS ?_ (hy := fun w hSw => by have q0 := hSw.2.1; have q1 := hSw.2.2; (go_simp <;> with_reducible rfl))
 refine rdy1 4 fun K hK => ?_
 go_simp
 refine HF.out.mono ?_
 rintro r w3 ⟨rfl, hb3⟩
 have HB3 := hHd (HB.out.drew.trans (hb3.mono HB.out.drew.size))
 have HZ3 := hHd ((HZ.out.below (Below.refl _ _).drew HZ.out.lt).below hb3 HZ.out.lt)
 have HE3 := hHd ((HE.out.below (Below.refl _ _).drew HE.out.lt).below hb3 HE.out.lt)
 have HX3 := hHd ((HX.out.below (Below.refl _ _).drew HX.out.lt).below hb3 HX.out.lt)
 have HW3 := hHd hb3
 clear hb3
 go_wp2_with fail
 refine hK.out _ _ ?sr_6 (fun hS => ?_)
 case sr_6 => (exact ⟨HX3.out, HSt.out.below (Nat.lt_of_lt_of_le HGL.out HB.out.drew.size) HW3.out⟩)
 clear hK K
 (try simp only [Act.put, layS])
 refine tkH 5 hS ?_
 refine wpAnyH_done (by kernel_rfl) ?_ _
 refine NoPanic.normal ?_
 clear hS
 go_wp2
 go_loopw [8] (fun i8 wr => ∃ j : Nat, j ≤ f.len ∧ i8 = .int .i64 (j : Int) ∧ Hid (∀ n, n < j → ∀ y, f.get? n = some y → lessX y.1 e = true) ∧ Blk wr w.heap.size 27 (cN a (.slice A f.len c)) ∧ Blk wr (w.heap.size + 1) 27 (cN e (.slice E eg.len ec)) ∧ Blk wr (w.heap.size + 2) 27 #[.string ⟨#[]⟩, .string ⟨#[]⟩, .int .i64 0, .int .u64 0, .string ⟨#[]⟩, .slice none 0 0] ∧ Below w.heap.size w wr) (fun i8 _ => f.len - (intOf i8).toNat)
 case atStart => exact ⟨0, Nat.zero_le _, rfl, hHd (fun n h => by omega), HX3.out, HE3.out, HZ3.out, HB3.out⟩
 case round =>
  obtain ⟨j, hj, rfl, HL, hX, hE, hZ, hB⟩ := hrel
  have HBr := hHd hB
  have HXr := hHd hX
  have HEr := hHd hE
  have HZr := hHd hZ
  by_cases hlt : j < f.len
  ·obtain ⟨a1, q, hg⟩ := Fr.get_some hlt
   obtain ⟨b, p, A1, c1, rfl, -, -, hbl, hrow, hcl⟩ := HK.out.at hg
   obtain ⟨lb, hlb⟩ : ∃ z, z = lessX a1 e := ⟨_, rfl⟩
   have hbl := HD.out _ hbl
   have i1 : (0 : Int) ≤ (j : Int) := by omega
   have i2 : (j : Int) < (f.len : Int) := by omega
   have HLc : Hid (Calls Try.prog 27 #[.agg (cN a1 (.slice A1 q.len c1)), .agg (cN e (.slice E eg.len ec))] wr.drew (Ans9 (.bool lb) wr.drew)) := hHd (by
    rw [hlb]
    exact rless_any (a1, q) (e, eg) _ _ wr.drew (LieZ.lie (LieZ.make (hrow.under hB.drew HD.out)) (und_le HD.out hB.size)) (LieZ.lie (HLE.out.under hB.drew HD.out) (und_le HD.out hB.size)))
   have HQ1 := hHd (And.intro (hX.below (Below.refl _ _).drew hX.lt) (And.intro (hE.below (Below.refl _ _).drew hE.lt) (fun i u hu => (hB.drew.cell (p := ⟨b, p + j * 6 + i, none⟩) hbl).trans (hcl i u hu))))
   have HBd := hHd hB.drew
   have HZd := hHd (hZ.below (Below.refl _ _).drew hZ.lt)
   have HG := hHd hg
   have HLB := hHd hlb
   have HBL := hHd hbl
   have HC := hHd hcl
   clear hX hE hZ hB hg hrow hcl hlb hbl
   have p5 : wr.cell? ⟨w.heap.size, 5, none⟩ = some (.slice (some ⟨b, p, none⟩) f.len c) := (HXr.out.cell 5).trans rfl
   go_wp2_with fail
   clear p5
   refine wp_region_noPanic ?_
   refine wp_region_held_drew (S := fun _ => True) (by kernel_rfl) trivial (fun hS => ?_)
   refine held_more (S' := (fun w' => Blk w' w.heap.size 27 (cN a (.slice (some ⟨b, p, none⟩) f.len c)) ∧ Blk w' (w.heap.size + 1) 27 (cN e (.slice E eg.len ec)) ∧ ∀ i u, (ndC a1 (.slice A1 q.len c1))[i]? = some u → w'.cell? ⟨b, p + j * 6 + i, none⟩ = some u)) (fun _ _ => trivial) _ _ _ _ ?_
   replace hS := HQ1.out
   refine tkH 0 hS ?_
   refine tkH 1 hS ?_
   refine tkH 2 hS ?_ (hy := fun w hSw => by have q5 := (hSw.1.cell 5).trans rfl; (go_simp <;> with_reducible rfl))
   refine tkH 3 hS ?_
   refine tkH 4 hS ?_
   refine tkH 5 hS ?_
   refine tkH 6 hS ?_
   refine tkH 7 hS ?_ (hy := fun w hSw => by have q5 := (hSw.1.cell 5).trans rfl; (go_simp <;> with_reducible rfl))
   refine tkH 8 hS ?_
   refine tkH 9 hS ?_
   refine tkH 10 hS ?_ (hy := fun w hSw => by have u0 : w.cell? ⟨b, p + j * 6, none⟩ = _ := hSw.2.2 0 _ rfl; have u1 := hSw.2.2 1 _ rfl; have u2 := hSw.2.2 2 _ rfl; have u3 := hSw.2.2 3 _ rfl; have u4 := hSw.2.2 4 _ rfl; have u5 := hSw.2.2 5 _ rfl; (go_simp <;> with_reducible rfl))
   refine tkH 11 hS ?_ (hy := fun w hSw => by obtain ⟨q0, q1, q2, q3, q4, q5⟩ := cl6 hSw.2.1; (go_simp <;> with_reducible rfl))
   refine rdy1 12 fun K hK => ?_
   go_simp
   refine HLc.out.mono ?_
   rintro r w6 ⟨rfl, hb6⟩
   have HX6 := hHd (HQ1.out.1.below hb6 HQ1.out.1.lt)
   have HE6 := hHd (HQ1.out.2.1.below hb6 HQ1.out.2.1.lt)
   have HZ6 := hHd (HZd.out.below hb6 HZd.out.lt)
   have HB6 := hHd (HBd.out.trans (hb6.mono HBd.out.size))
   clear hb6
   go_wp2_with fail
   refine hK.out _ _ ?sr_7 (fun hS => ?_)
   case sr_7 => (exact ⟨HX6.out, HE6.out, fun i u hu => (HB6.out.cell (p := ⟨b, p + j * 6 + i, none⟩) HBL.out).trans (HC.out i u hu)⟩)
   clear hK K
   (try simp only [Act.put, layS])
   refine tkH 13 hS ?_
   refine wpAnyH_done (by kernel_rfl) ?_ _
   refine NoPanic.normal ?_
   clear hS
   cases lb with
   | true =>
    have HL2 : Hid (∀ n, n < j + 1 → ∀ y, f.get? n = some y → lessX y.1 e = true) := hHd (fun n hn y hy => by
     by_cases e' : n = j
     ·subst e'; rw [HG.out] at hy; injection hy with hy; subst hy; exact HLB.out.symm
     ·exact HL.out n (by omega) y hy)
    go_wp2
    go_roundw
    case rel => exact ⟨j + 1, by omega, by go_num, HL2, HX6.out, HE6.out, HZ6.out, HB6.out⟩
    case measure => simp [intOf]; omega
   | false =>
    have hpl : placeF e f = j := place_at HL.out (by omega) (fun y hy => by rw [HG.out] at hy; injection hy with hy; subst hy; exact HLB.out.symm)
    have HRF : Hid (withF f j 0 (oneF (e, eg)) = Rf) := hHd (by rw [← hpl]; exact HR0.out)
    have HLN := hHd (And.intro HLN0.out (show j + 0 ≤ f.len by omega))
    clear hpl
    -- With at the end, in the world w6, of which HX6, HE6, HZ6, HB6 are told
    have HWC : Hid (Calls Try.prog 43 #[.agg (cN a (.slice (some ⟨b, p, none⟩) f.len c)), .int .i64 (j : Int), .int .i64 0, .slice (some ⟨w6.heap.size, 0, none⟩) 1 1] (w6.alloc (.cells (cN e (.slice E eg.len ec)) 27)) (WithZ d (w.heap.size + 3) a Rf (w6.alloc (.cells (cN e (.slice E eg.len ec)) 27)))) := hHd (by
     have hz3 : w.heap.size + 2 < w6.heap.size := HZ6.out.lt
     have hzs : (w6.alloc (.cells (cN e (.slice E eg.len ec)) 27)).heap.size = w6.heap.size + 1 := by simp
     have hdd := HD.out
     have hal : Below w6.heap.size w6 (w6.alloc (.cells (cN e (.slice E eg.len ec)) 27)) := bAl
     rw [← HRF.out]
     exact zwith_any d (w.heap.size + 3) a f (oneF (e, eg)) (some ⟨b, p, none⟩) f.len c j 0 (some ⟨w6.heap.size, 0, none⟩) 1 1 (w6.alloc (.cells (cN e (.slice E eg.len ec)) 27)) (fun g h9 => by have := hdd g h9; omega) (by omega)
      (FrV.mono stay_nd (HK.out.under (HB6.out.trans (hal.mono HB6.out.size)) HD.out) (fun g hg => .inl hg) (fun _ h => h))
      (row_one (FrN.mono stay_nd (HLE.out.under (HB6.out.trans (hal.mono HB6.out.size)) HD.out) (fun g hg => .inl hg) (fun _ h => h)) (.inr ⟨by omega, by omega⟩) (Blk.new w6 27 (cN e (.slice E eg.len ec))))
      (by have := HLN.out; omega) (by have := HLN.out; omega) (by omega))
    obtain ⟨q0, q1, q2, q3, q4, q5⟩ := cl6 HX6.out
    obtain ⟨x0, x1, x2, x3, x4, x5⟩ := cl6 HE6.out
    go_wp2_with fail
    refine HWC.out.mono ?_
    rintro r w7 ⟨A7, c7, rfl, hv7, hb7⟩
    have HV7 := hHd hv7
    have HB7 := hHd ((HB6.out.trans (((Below.refl w6.heap.size w6).alloc (Nat.le_refl _) (.cells (cN e (.slice E eg.len ec)) 27)).mono HB6.out.size)).trans (hb7.mono (by have h1 := HB6.out.size; simp; omega)))
    have HZ7 := hHd ((HZ6.out.alloc (.cells (cN e (.slice E eg.len ec)) 27)).below hb7 (HZ6.out.alloc (.cells (cN e (.slice E eg.len ec)) 27)).lt)
    clear hv7 hb7 q0 q1 q2 q3 q4 q5 x0 x1 x2 x3 x4 x5
    have fz0 : (w7).frozen? ⟨w.heap.size + 2, 0, none⟩ = false := HZ7.out.frozen 0
    have fq0 := (HZ7.out.cell 0).trans rfl
    have fz1 : (w7).frozen? ⟨w.heap.size + 2, 1, none⟩ = false := HZ7.out.frozen 1
    have fq1 := (HZ7.out.cell 1).trans rfl
    have fz2 : (w7).frozen? ⟨w.heap.size + 2, 2, none⟩ = false := HZ7.out.frozen 2
    have fq2 := (HZ7.out.cell 2).trans rfl
    have fz3 : (w7).frozen? ⟨w.heap.size + 2, 3, none⟩ = false := HZ7.out.frozen 3
    have fq3 := (HZ7.out.cell 3).trans rfl
    have fz4 : (w7).frozen? ⟨w.heap.size + 2, 4, none⟩ = false := HZ7.out.frozen 4
    have fq4 := (HZ7.out.cell 4).trans rfl
    have fz5 : (w7).frozen? ⟨w.heap.size + 2, 5, none⟩ = false := HZ7.out.frozen 5
    have fq5 := (HZ7.out.cell 5).trans rfl
    -- what the result's box holds
    have RZ : Hid (Blk (set6 w7 (w.heap.size + 2) (.string (txt a.name)) (.string (txt a.key)) (.int .i64 a.kind) (.int .u64 (a.num : Int)) (.string (txt a.text)) (.slice A7 Rf.len c7)) (w.heap.size + 2) 27 (cN a (.slice A7 Rf.len c7))) := hHd (HZ7.out.set6 _ _ _ _ _ _)
    have HBZ : Hid (Below w.heap.size w (set6 w7 (w.heap.size + 2) (.string (txt a.name)) (.string (txt a.key)) (.int .i64 a.kind) (.int .u64 (a.num : Int)) (.string (txt a.text)) (.slice A7 Rf.len c7))) := hHd (HB7.out.trans (set6_below (by omega)))
    have HLZ : Hid (LieQ d w.heap.size (set6 w7 (w.heap.size + 2) (.string (txt a.name)) (.string (txt a.key)) (.int .i64 a.kind) (.int .u64 (a.num : Int)) (.string (txt a.text)) (.slice A7 Rf.len c7)) (ndC a (.slice A7 Rf.len c7)) (a, Rf)) := hHd (LieQ.after (B := (w.heap.size + 2) + 1) ((LieQ.make (S := d) (B := (w.heap.size + 2) + 1) HV7.out).set6 (fun h9 => by have := HD.out _ h9; omega) (by omega) _ _ _ _ _ _) (by omega))
    go_wp2
    refine bodyPost_ret (results_cell_row rfl _ _ (w.heap.size + 2) 27 _ (0, 0) _ rfl RZ.out Try.underlying27 rfl (by kernel_rfl)) rfl ?_
    exact ⟨_, rfl, HLZ.out, HBZ.out⟩
  ·have hje : j = f.len := by omega
   have hpl : placeF e f = j := place_at HL.out (by omega) (fun y hy => by have := Fr.get_lt hy; omega)
   have HRF : Hid (withF f j 0 (oneF (e, eg)) = Rf) := hHd (by rw [← hpl]; exact HR0.out)
   have HLN := hHd (And.intro HLN0.out (show j + 0 ≤ f.len by omega))
   have i2 : ¬ (j : Int) < (f.len : Int) := by omega
   have HXd := hHd (hX.below (Below.refl _ _).drew hX.lt)
   have HEd := hHd (hE.below (Below.refl _ _).drew hE.lt)
   have HZd := hHd (hZ.below (Below.refl _ _).drew hZ.lt)
   have HBd := hHd hB.drew
   have p5 : wr.cell? ⟨w.heap.size, 5, none⟩ = some (.slice A f.len c) := (hX.cell 5).trans rfl
   clear hX hE hZ hB hpl hje
   go_wp2_with fail
   go_region
   clear p5
   revert HXd HEd HZd HBd
   generalize wr.drew = w6
   intro HXd HEd HZd HBd
   -- With at the end, in the world w6, of which HXd, HEd, HZd, HBd are told
   have HWC : Hid (Calls Try.prog 43 #[.agg (cN a (.slice A f.len c)), .int .i64 (j : Int), .int .i64 0, .slice (some ⟨w6.heap.size, 0, none⟩) 1 1] (w6.alloc (.cells (cN e (.slice E eg.len ec)) 27)) (WithZ d (w.heap.size + 3) a Rf (w6.alloc (.cells (cN e (.slice E eg.len ec)) 27)))) := hHd (by
    have hz3 : w.heap.size + 2 < w6.heap.size := HZd.out.lt
    have hzs : (w6.alloc (.cells (cN e (.slice E eg.len ec)) 27)).heap.size = w6.heap.size + 1 := by simp
    have hdd := HD.out
    have hal : Below w6.heap.size w6 (w6.alloc (.cells (cN e (.slice E eg.len ec)) 27)) := bAl
    rw [← HRF.out]
    exact zwith_any d (w.heap.size + 3) a f (oneF (e, eg)) A f.len c j 0 (some ⟨w6.heap.size, 0, none⟩) 1 1 (w6.alloc (.cells (cN e (.slice E eg.len ec)) 27)) (fun g h9 => by have := hdd g h9; omega) (by omega)
     (FrV.mono stay_nd (HK.out.under (HBd.out.trans (hal.mono HBd.out.size)) HD.out) (fun g hg => .inl hg) (fun _ h => h))
     (row_one (FrN.mono stay_nd (HLE.out.under (HBd.out.trans (hal.mono HBd.out.size)) HD.out) (fun g hg => .inl hg) (fun _ h => h)) (.inr ⟨by omega, by omega⟩) (Blk.new w6 27 (cN e (.slice E eg.len ec))))
     (by have := HLN.out; omega) (by have := HLN.out; omega) (by omega))
   obtain ⟨q0, q1, q2, q3, q4, q5⟩ := cl6 HXd.out
   obtain ⟨x0, x1, x2, x3, x4, x5⟩ := cl6 HEd.out
   go_wp2_with fail
   refine HWC.out.mono ?_
   rintro r w7 ⟨A7, c7, rfl, hv7, hb7⟩
   have HV7 := hHd hv7
   have HB7 := hHd ((HBd.out.trans (((Below.refl w6.heap.size w6).alloc (Nat.le_refl _) (.cells (cN e (.slice E eg.len ec)) 27)).mono HBd.out.size)).trans (hb7.mono (by have h1 := HBd.out.size; simp; omega)))
   have HZ7 := hHd ((HZd.out.alloc (.cells (cN e (.slice E eg.len ec)) 27)).below hb7 (HZd.out.alloc (.cells (cN e (.slice E eg.len ec)) 27)).lt)
   clear hv7 hb7 q0 q1 q2 q3 q4 q5 x0 x1 x2 x3 x4 x5
   have fz0 : (w7).frozen? ⟨w.heap.size + 2, 0, none⟩ = false := HZ7.out.frozen 0
   have fq0 := (HZ7.out.cell 0).trans rfl
   have fz1 : (w7).frozen? ⟨w.heap.size + 2, 1, none⟩ = false := HZ7.out.frozen 1
   have fq1 := (HZ7.out.cell 1).trans rfl
   have fz2 : (w7).frozen? ⟨w.heap.size + 2, 2, none⟩ = false := HZ7.out.frozen 2
   have fq2 := (HZ7.out.cell 2).trans rfl
   have fz3 : (w7).frozen? ⟨w.heap.size + 2, 3, none⟩ = false := HZ7.out.frozen 3
   have fq3 := (HZ7.out.cell 3).trans rfl
   have fz4 : (w7).frozen? ⟨w.heap.size + 2, 4, none⟩ = false := HZ7.out.frozen 4
   have fq4 := (HZ7.out.cell 4).trans rfl
   have fz5 : (w7).frozen? ⟨w.heap.size + 2, 5, none⟩ = false := HZ7.out.frozen 5
   have fq5 := (HZ7.out.cell 5).trans rfl
   -- what the result's box holds
   have RZ : Hid (Blk (set6 w7 (w.heap.size + 2) (.string (txt a.name)) (.string (txt a.key)) (.int .i64 a.kind) (.int .u64 (a.num : Int)) (.string (txt a.text)) (.slice A7 Rf.len c7)) (w.heap.size + 2) 27 (cN a (.slice A7 Rf.len c7))) := hHd (HZ7.out.set6 _ _ _ _ _ _)
   have HBZ : Hid (Below w.heap.size w (set6 w7 (w.heap.size + 2) (.string (txt a.name)) (.string (txt a.key)) (.int .i64 a.kind) (.int .u64 (a.num : Int)) (.string (txt a.text)) (.slice A7 Rf.len c7))) := hHd (HB7.out.trans (set6_below (by omega)))
   have HLZ : Hid (LieQ d w.heap.size (set6 w7 (w.heap.size + 2) (.string (txt a.name)) (.string (txt a.key)) (.int .i64 a.kind) (.int .u64 (a.num : Int)) (.string (txt a.text)) (.slice A7 Rf.len c7)) (ndC a (.slice A7 Rf.len c7)) (a, Rf)) := hHd (LieQ.after (B := (w.heap.size + 2) + 1) ((LieQ.make (S := d) (B := (w.heap.size + 2) + 1) HV7.out).set6 (fun h9 => by have := HD.out _ h9; omega) (by omega) _ _ _ _ _ _) (by omega))
   go_wp2
   refine bodyPost_ret (results_cell_row rfl _ _ (w.heap.size + 2) 27 _ (0, 0) _ rfl RZ.out Try.underlying27 rfl (by kernel_rfl)) rfl ?_
   exact ⟨_, rfl, HLZ.out, HBZ.out⟩
end Go.Proofs.Ythmobcaidhgeaaa
