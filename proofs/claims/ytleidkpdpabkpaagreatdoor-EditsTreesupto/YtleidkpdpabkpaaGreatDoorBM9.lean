/- TreGetR TreWithR EdtRefI VadNum VadOk -/
import Derived.Test.YtleidkpdpabkpaaGreatDoorBM8
set_option linter.unusedSimpArgs false
set_option linter.unusedVariables false
set_option maxRecDepth 100000
set_option maxHeartbeats 8000000
namespace Go.Proofs.YtleidkpdpabkpaaGreatDoor
open Go.RowKit
theorem rget_nil (x : Nd) (cs : List Value) (B : Option Addr) (m b : Nat) (w : World) (hb : b ≤ w.heap.size) (hx : LieB b w cs x) :
  Calls Tryz.prog 113 #[.agg cs.toArray, .slice B 0 m] w (PTreP b x (.bool true) w) := by
 obtain ⟨A, c, rfl, hk⟩ := hx.shape
 obtain ⟨a, f⟩ := x
 have hb2 : Blk ((w.alloc (.cells (cN a (.slice A f.len c)) 42)).alloc (.cells (cN a (.slice A f.len c)) 42)) (w.heap.size + 1) 42 (cN a (.slice A f.len c)) := by
  have h := Blk.new (w.alloc (.cells (cN a (.slice A f.len c)) 42)) 42 (cN a (.slice A f.len c))
  rw [show (w.alloc (.cells (cN a (.slice A f.len c)) 42)).heap.size = w.heap.size + 1 by simp] at h
  exact h
 have hB : Below w.heap.size w ((w.alloc (.cells (cN a (.slice A f.len c)) 42)).alloc (.cells (cN a (.slice A f.len c)) 42)) := bAl.alloc (by simp) _
 have HX := hHd ((hx.under hB hb (Nat.le_refl _)).p w.heap.size)
 have HB := hHd hB
 have RE := hHd hb2
 clear hx hk hb2 hB hb
 go_enter Tryz.func113, Tryz.ntmps113
 go_wp2
 refine bodyPost_ret (res_ct9 rfl _ _ (w.heap.size + 1) 42 _ (0, 0) _ rfl RE.out Tryz.underlying42 rfl (by kernel_rfl)) rfl ?_
 exact ⟨_, rfl, HX.out, HB.out⟩
def Stp0 (w : World) (g o : Nat) (s : Stp) : Prop := w.cell? ⟨g, o, none⟩ = some (.string (txt s.1)) ∧ w.cell? ⟨g, o + 1, none⟩ = some (.string (txt s.2))
theorem Stp0.below {w w' : World} {g o B : Nat} {s : Stp} (h : Stp0 w g o s) (hg : g < B) (hb : Below B w w') : Stp0 w' g o s := ⟨(hb.cell (p := ⟨g, o, none⟩) hg).trans h.1, (hb.cell (p := ⟨g, o + 1, none⟩) hg).trans h.2⟩
theorem get_boxes (a : NdD) (f : NdF) (A : Option Addr) (c : Nat) (w : World) (hx : LieN w (ndC a (.slice A f.len c)) (a, f)) :
  Blk ((w.alloc (.cells (cN a (.slice A f.len c)) 42)).alloc (.cells #[.string ⟨#[]⟩, .string ⟨#[]⟩, .int .i64 0, .int .u64 0, .string ⟨#[]⟩, .slice none 0 0] 42)) w.heap.size 42 (cN a (.slice A f.len c)) ∧ Blk ((w.alloc (.cells (cN a (.slice A f.len c)) 42)).alloc (.cells #[.string ⟨#[]⟩, .string ⟨#[]⟩, .int .i64 0, .int .u64 0, .string ⟨#[]⟩, .slice none 0 0] 42)) (w.heap.size + 1) 42 #[.string ⟨#[]⟩, .string ⟨#[]⟩, .int .i64 0, .int .u64 0, .string ⟨#[]⟩, .slice none 0 0] ∧ Below w.heap.size w ((w.alloc (.cells (cN a (.slice A f.len c)) 42)).alloc (.cells #[.string ⟨#[]⟩, .string ⟨#[]⟩, .int .i64 0, .int .u64 0, .string ⟨#[]⟩, .slice none 0 0] 42)) ∧ LieN ((w.alloc (.cells (cN a (.slice A f.len c)) 42)).alloc (.cells #[.string ⟨#[]⟩, .string ⟨#[]⟩, .int .i64 0, .int .u64 0, .string ⟨#[]⟩, .slice none 0 0] 42)).drew (ndC a (.slice A f.len c)) (a, f) := by
 have hb2 : Blk ((w.alloc (.cells (cN a (.slice A f.len c)) 42)).alloc (.cells #[.string ⟨#[]⟩, .string ⟨#[]⟩, .int .i64 0, .int .u64 0, .string ⟨#[]⟩, .slice none 0 0] 42)) (w.heap.size + 1) 42 #[.string ⟨#[]⟩, .string ⟨#[]⟩, .int .i64 0, .int .u64 0, .string ⟨#[]⟩, .slice none 0 0] := by
  have h := Blk.new (w.alloc (.cells (cN a (.slice A f.len c)) 42)) 42 #[.string ⟨#[]⟩, .string ⟨#[]⟩, .int .i64 0, .int .u64 0, .string ⟨#[]⟩, .slice none 0 0]
  rw [show (w.alloc (.cells (cN a (.slice A f.len c)) 42)).heap.size = w.heap.size + 1 by simp] at h
  exact h
 have hB : Below w.heap.size w ((w.alloc (.cells (cN a (.slice A f.len c)) 42)).alloc (.cells #[.string ⟨#[]⟩, .string ⟨#[]⟩, .int .i64 0, .int .u64 0, .string ⟨#[]⟩, .slice none 0 0] 42)) := bAl.alloc (by simp) _
 exact ⟨(Blk.new _ _ _).alloc _, hb2, hB, LieB.below hx hB.drew⟩
theorem rget_none (b : Nat) (a : NdD) (f : NdF) (A : Option Addr) (c : Nat) (s : Stp) (g o N m : Nat) (w : World) (hx : LieN w (ndC a (.slice A f.len c)) (a, f)) (hl : f.len ≤ 1000000) (hs : Stp0 w g o s) (hg : g < w.heap.size) (hN : 0 < N) (hf : findN s f = none) :
  Calls Tryz.prog 113 #[.agg (cN a (.slice A f.len c)), .slice (some ⟨g, o, none⟩) N m] w (PTreP b noN (.bool false) w) := by
 obtain ⟨h1, h2, h3, h4⟩ := get_boxes a f A c w hx
 have e1 : ((N : Int) == 0) = false := by rw [beq_eq_false_iff_ne]; omega
 have e2 : (N == 0) = false := by rw [beq_eq_false_iff_ne]; omega
 have i1 : (0 : Int) < (N : Int) := by omega
 have HF : Hid (Calls Tryz.prog 121 #[.agg (cN a (.slice A f.len c)), .agg #[.string (txt s.1), .string (txt s.2)]] ((w.alloc (.cells (cN a (.slice A f.len c)) 42)).alloc (.cells #[.string ⟨#[]⟩, .string ⟨#[]⟩, .int .i64 0, .int .u64 0, .string ⟨#[]⟩, .slice none 0 0] 42)).drew (Ans9 (.int .i64 (-1)) ((w.alloc (.cells (cN a (.slice A f.len c)) 42)).alloc (.cells #[.string ⟨#[]⟩, .string ⟨#[]⟩, .int .i64 0, .int .u64 0, .string ⟨#[]⟩, .slice none 0 0] 42)).drew)) := hHd (by
  have h := rfindn_any s (a, f) _ ((w.alloc (.cells (cN a (.slice A f.len c)) 42)).alloc (.cells #[.string ⟨#[]⟩, .string ⟨#[]⟩, .int .i64 0, .int .u64 0, .string ⟨#[]⟩, .slice none 0 0] 42)).drew h4 hl
  rw [show findIx s f = -1 by unfold findIx; rw [hf]] at h
  exact h)
 have HX := hHd h1
 have RE := hHd h2
 have HB := hHd h3
 have HSt := hHd (hs.below hg h3.drew)
 have HGL := hHd hg
 clear h1 h2 h3 h4 hx hl hs hf hg
 go_enter Tryz.func113, Tryz.ntmps113
 go_wp2_with fail
 refine wp_region_noPanic ?_
 refine wp_region_held_drew (S := fun _ => True) (by kernel_rfl) trivial (fun hS => ?_)
 refine held_more (S' := fun w' => Blk w' w.heap.size 42 (cN a (.slice A f.len c)) ∧ Stp0 w' g o s) (fun _ _ => trivial) _ _ _ _ ?_
 replace hS := And.intro (HX.out.below (Below.refl _ _).drew HX.out.lt) HSt.out
 refine tkH 0 hS ?_ (hy := fun w hSw => by obtain ⟨q0, q1, q2, q3, q4, q5⟩ := cl6 hSw.1; (go_simp <;> with_reducible rfl))
 refine tkH 1 hS ?_
 refine tkH 2 hS ?_
 refine tkH 3 hS ?_ (hy := fun w hSw => by have q0 := hSw.2.1; have q1 := hSw.2.2; (go_simp <;> with_reducible rfl))
 refine rdy1 4 fun K hK => ?_
 go_simp
 refine HF.out.mono ?_
 rintro r w3 ⟨rfl, hb3⟩
 have HB3 := hHd (HB.out.drew.trans (hb3.mono HB.out.drew.size))
 have RE3 := hHd ((RE.out.below (Below.refl _ _).drew RE.out.lt).below hb3 RE.out.lt)
 have HS3 := hHd (And.intro ((HX.out.below (Below.refl _ _).drew HX.out.lt).below hb3 HX.out.lt) trivial)
 have HW3 := hHd hb3
 clear hb3
 go_wp2_with fail
 refine hK.out _ _ ?sr_0 (fun hS => ?_)
 case sr_0 => (exact ⟨HS3.out.1, HSt.out.below (Nat.lt_of_lt_of_le HGL.out HB.out.drew.size) HW3.out⟩)
 clear hK K
 (try simp only [Act.put, layS])
 refine tkH 5 hS ?_
 refine wpAnyH_done (by kernel_rfl) ?_ _
 refine NoPanic.normal ?_
 clear hS
 have fz0 : (w3).frozen? ⟨w.heap.size + 1, 0, none⟩ = false := RE3.out.frozen 0
 have fq0 := (RE3.out.cell 0).trans rfl
 have fz1 : (w3).frozen? ⟨w.heap.size + 1, 1, none⟩ = false := RE3.out.frozen 1
 have fq1 := (RE3.out.cell 1).trans rfl
 have fz2 : (w3).frozen? ⟨w.heap.size + 1, 2, none⟩ = false := RE3.out.frozen 2
 have fq2 := (RE3.out.cell 2).trans rfl
 have fz3 : (w3).frozen? ⟨w.heap.size + 1, 3, none⟩ = false := RE3.out.frozen 3
 have fq3 := (RE3.out.cell 3).trans rfl
 have fz4 : (w3).frozen? ⟨w.heap.size + 1, 4, none⟩ = false := RE3.out.frozen 4
 have fq4 := (RE3.out.cell 4).trans rfl
 have fz5 : (w3).frozen? ⟨w.heap.size + 1, 5, none⟩ = false := RE3.out.frozen 5
 have fq5 := (RE3.out.cell 5).trans rfl
 have RZ : Hid (Blk (set6 w3 (w.heap.size + 1) (.string ⟨#[]⟩) (.string ⟨#[]⟩) (.int .i64 0) (.int .u64 0) (.string ⟨#[]⟩) (.slice none 0 0)) (w.heap.size + 1) 42 #[.string ⟨#[]⟩, .string ⟨#[]⟩, .int .i64 0, .int .u64 0, .string ⟨#[]⟩, .slice none 0 0]) := hHd (RE3.out.set6 _ _ _ _ _ _)
 have HZ : Hid (Below w.heap.size w (set6 w3 (w.heap.size + 1) (.string ⟨#[]⟩) (.string ⟨#[]⟩) (.int .i64 0) (.int .u64 0) (.string ⟨#[]⟩) (.slice none 0 0))) := hHd (HB3.out.trans (set6_below (by omega)))
 go_wp2
 refine bodyPost_ret (res_ct9 rfl _ _ (w.heap.size + 1) 42 _ (0, 0) _ rfl RZ.out Tryz.underlying42 rfl (by kernel_rfl)) rfl ?_
 exact ⟨_, rfl, (LieB.zero _ _).p _, HZ.out⟩
theorem way_tail1 {b : Nat} {w : World} {g o N m : Nat} {s : Stp} {l : List Stp} (h : WayV b w (.slice (some ⟨g, o, none⟩) N m) (s :: l)) : WayV b w (.slice (some ⟨g, o + 2, none⟩) (N - 1) (m - 1)) l := by
 have h2 := h.tail
 obtain ⟨_, _, _, e, _⟩ := h.at (j := 0) (s := s) rfl
 rw [show N - 1 = l.length by rw [e]; simp]
 exact h2
theorem rget_some_all (d : Nat) (a : NdD) (f : NdF) (A : Option Addr) (c : Nat) (s : Stp) (l : List Stp) (g o N m i : Nat) (a1 : NdD) (q : NdF) (ya : NdD) (yf : NdF) (bb : Bool) (w : World) (hd : d ≤ w.heap.size) (hx : LieB d w (ndC a (.slice A f.len c)) (a, f)) (hl : f.len ≤ 1000000) (hv : WayV w.heap.size w (.slice (some ⟨g, o, none⟩) N m) (s :: l)) (hf : findN s f = some i) (hy : f.get? i = some (a1, q)) (hm : m = 1)
  (hI : ∀ (cs : List Value) (v : Value) (W : World), d ≤ W.heap.size → LieB d W cs (a1, q) → WayV W.heap.size W v l → Calls Tryz.prog 113 #[.agg cs.toArray, v] W (PTreP d (ya, yf) (.bool bb) W)) :
  Calls Tryz.prog 113 #[.agg (cN a (.slice A f.len c)), .slice (some ⟨g, o, none⟩) N m] w (PTreP d (ya, yf) (.bool bb) w) := by
 obtain ⟨h1, h2, h3, h4⟩ := get_boxes a f A c w (hx.keep (fun _ _ => rfl) hd)
 obtain ⟨g', o', eg, hNl, hNm, hg, hs1, hs2⟩ := hv.at (j := 0) (s := s) rfl
 injection eg with eg
 injection eg with eg1 eg2 eg3
 subst eg1 eg2
 have hs : Stp0 w g o s := ⟨by simpa using hs1, by simpa using hs2⟩
 have hN : 0 < N := by rw [hNl]; simp
 have e1 : ((N : Int) == 0) = false := by rw [beq_eq_false_iff_ne]; omega
 have e2 : (N == 0) = false := by rw [beq_eq_false_iff_ne]; omega
 have i1 : (0 : Int) < (N : Int) := by omega
 have i2 : (1 : Int) ≤ (N : Int) := by omega
 have i3 : (N : Int) ≤ (m : Int) := by omega
 have HF : Hid (Calls Tryz.prog 121 #[.agg (cN a (.slice A f.len c)), .agg #[.string (txt s.1), .string (txt s.2)]] ((w.alloc (.cells (cN a (.slice A f.len c)) 42)).alloc (.cells #[.string ⟨#[]⟩, .string ⟨#[]⟩, .int .i64 0, .int .u64 0, .string ⟨#[]⟩, .slice none 0 0] 42)).drew (Ans9 (.int .i64 (i : Int)) ((w.alloc (.cells (cN a (.slice A f.len c)) 42)).alloc (.cells #[.string ⟨#[]⟩, .string ⟨#[]⟩, .int .i64 0, .int .u64 0, .string ⟨#[]⟩, .slice none 0 0] 42)).drew)) := hHd (by
  have h := rfindn_any s (a, f) _ ((w.alloc (.cells (cN a (.slice A f.len c)) 42)).alloc (.cells #[.string ⟨#[]⟩, .string ⟨#[]⟩, .int .i64 0, .int .u64 0, .string ⟨#[]⟩, .slice none 0 0] 42)).drew h4 hl
  rw [show findIx s f = (i : Int) by unfold findIx; rw [hf]] at h
  exact h)
 have hk := LieB.row hx
 have hi := Fr.get_lt hy
 obtain ⟨b, p, A1, c1, rfl, -, -, hbl, hrow, hcl⟩ := hk.at hy
 have j1 : (0 : Int) ≤ (i : Int) := by omega
 have j2 : (i : Int) < (f.len : Int) := by omega
 have HX := hHd h1
 have RE := hHd h2
 have HB := hHd h3
 have HSt := hHd (hs.below hg h3.drew)
 have HGL := hHd (And.intro hg (Nat.lt_of_lt_of_le hbl hd))
 have HD := hHd hd
 have HI := hHd hI
 have HV := hHd hv
 have HC := hHd hcl
 have HR := hHd hrow
 obtain rfl : N = 1 := by omega
 have HL1 : Hid (l = []) := hHd (by have : l.length = 0 := (by simpa using hNl.symm); exact List.eq_nil_of_length_eq_zero this)
 subst hm
 clear h1 h2 h3 h4 hx hl hs hf hg hk hbl hrow hcl hI hv hs1 hs2 hNl hNm hy hi hd
 go_enter Tryz.func113, Tryz.ntmps113
 go_wp2_with fail
 refine wp_region_noPanic ?_
 refine wp_region_held_drew (S := fun _ => True) (by kernel_rfl) trivial (fun hS => ?_)
 refine held_more (S' := fun w' => Blk w' w.heap.size 42 (cN a (.slice (some ⟨b, p, none⟩) f.len c)) ∧ Stp0 w' g o s) (fun _ _ => trivial) _ _ _ _ ?_
 replace hS := And.intro (HX.out.below (Below.refl _ _).drew HX.out.lt) HSt.out
 refine tkH 0 hS ?_ (hy := fun w hSw => by obtain ⟨q0, q1, q2, q3, q4, q5⟩ := cl6 hSw.1; (go_simp <;> with_reducible rfl))
 refine tkH 1 hS ?_
 refine tkH 2 hS ?_
 refine tkH 3 hS ?_ (hy := fun w hSw => by have q0 := hSw.2.1; have q1 := hSw.2.2; (go_simp <;> with_reducible rfl))
 refine rdy1 4 fun K hK => ?_
 go_simp
 refine HF.out.mono ?_
 rintro r w3 ⟨rfl, hb3⟩
 have HB3 := hHd (HB.out.drew.trans (hb3.mono HB.out.drew.size))
 have RE3 := hHd ((RE.out.below (Below.refl _ _).drew RE.out.lt).below hb3 RE.out.lt)
 have HX3 := hHd ((HX.out.below (Below.refl _ _).drew HX.out.lt).below hb3 HX.out.lt)
 have HW3 := hHd hb3
 clear hb3
 go_wp2_with fail
 refine hK.out _ _ ?sr_1 (fun hS => ?_)
 case sr_1 => (exact ⟨HX3.out, HSt.out.below (Nat.lt_of_lt_of_le HGL.out.1 HB.out.drew.size) HW3.out⟩)
 clear hK K
 (try simp only [Act.put, layS])
 refine tkH 5 hS ?_
 refine wpAnyH_done (by kernel_rfl) ?_ _
 refine NoPanic.normal ?_
 clear hS
 go_wp2_with fail
 have HX4 := hHd (HX3.out.below (Below.refl _ _).drew HX3.out.lt)
 have RE4 := hHd (RE3.out.below (Below.refl _ _).drew RE3.out.lt)
 have HC4 : Hid (∀ j u, (ndC a1 (.slice A1 q.len c1))[j]? = some u → w3.drew.cell? ⟨b, p + i * 6 + j, none⟩ = some u) := hHd (fun j u hu => (HB3.out.drew.cell (p := ⟨b, p + i * 6 + j, none⟩) HGL.out.2).trans (HC.out j u hu))
 have HI1 : Hid (Calls Tryz.prog 113 #[.agg (cN a1 (.slice A1 q.len c1)), .slice (some ⟨g, o, none⟩) 0 0] w3.drew (PTreP d (ya, yf) (.bool bb) w3.drew)) := hHd
  (HI.out _ _ w3.drew (Nat.le_trans HD.out HB3.out.drew.size) (LieB.make (HR.out.under HB3.out.drew HD.out (Nat.le_refl _))) (by rw [HL1.out]; exact WayV.nil _ _ _ _))
 refine wp_region_noPanic ?_
 refine wp_region_held_drew (S := fun _ => True) (by kernel_rfl) trivial (fun hS => ?_)
 refine held_more (S' := fun w' => Blk w' w.heap.size 42 (cN a (.slice (some ⟨b, p, none⟩) f.len c)) ∧ ∀ j u, (ndC a1 (.slice A1 q.len c1))[j]? = some u → w'.cell? ⟨b, p + i * 6 + j, none⟩ = some u) (fun _ _ => trivial) _ _ _ _ ?_
 replace hS := And.intro HX4.out HC4.out
 refine tkH 0 hS ?_
 refine tkH 1 hS ?_ (hy := fun w hSw => by have q5 := (hSw.1.cell 5).trans rfl; (go_simp <;> with_reducible rfl))
 refine tkH 2 hS ?_
 refine tkH 3 hS ?_
 refine tkH 4 hS ?_ (hy := fun w hSw => by have u0 : w.cell? ⟨b, p + i * 6, none⟩ = _ := hSw.2 0 _ rfl; have u1 := hSw.2 1 _ rfl; have u2 := hSw.2 2 _ rfl; have u3 := hSw.2 3 _ rfl; have u4 := hSw.2 4 _ rfl; have u5 := hSw.2 5 _ rfl; (go_simp <;> with_reducible rfl))
 refine tkH 5 hS ?_
 refine tkH 6 hS ?_
 refine rdy1 7 fun K hK => ?_
 go_simp
 refine HI1.out.mono ?_
 intro r w6 hr
 obtain ⟨A6, c6, rfl, hl6, hb6⟩ := hr.flat
 have HL6 := hHd hl6
 have HB6 := hHd (HB3.out.drew.trans (hb6.mono HB3.out.drew.size))
 have HX6 := hHd (HX4.out.below hb6 HX4.out.lt)
 have RE6 := hHd (RE4.out.below hb6 RE4.out.lt)
 have HW6 := hHd hb6
 clear hb6 hr hl6
 go_wp2_with fail
 refine hK.out _ _ ?sr_2 (fun hS => ?_)
 case sr_2 => (exact ⟨HX6.out, fun j u hu => (HW6.out.cell (p := ⟨b, p + i * 6 + j, none⟩) (Nat.lt_of_lt_of_le HGL.out.2 HB3.out.drew.size)).trans (HC4.out j u hu)⟩)
 clear hK K
 (try simp only [Act.put, layS])
 refine tkH 8 hS ?_
 refine tkH 9 hS ?_
 refine rdy1 10 fun K hK => ?_
 have fz0 : (w6).frozen? ⟨w.heap.size + 1, 0, none⟩ = false := RE6.out.frozen 0
 have fq0 := (RE6.out.cell 0).trans rfl
 have fz1 : (w6).frozen? ⟨w.heap.size + 1, 1, none⟩ = false := RE6.out.frozen 1
 have fq1 := (RE6.out.cell 1).trans rfl
 have fz2 : (w6).frozen? ⟨w.heap.size + 1, 2, none⟩ = false := RE6.out.frozen 2
 have fq2 := (RE6.out.cell 2).trans rfl
 have fz3 : (w6).frozen? ⟨w.heap.size + 1, 3, none⟩ = false := RE6.out.frozen 3
 have fq3 := (RE6.out.cell 3).trans rfl
 have fz4 : (w6).frozen? ⟨w.heap.size + 1, 4, none⟩ = false := RE6.out.frozen 4
 have fq4 := (RE6.out.cell 4).trans rfl
 have fz5 : (w6).frozen? ⟨w.heap.size + 1, 5, none⟩ = false := RE6.out.frozen 5
 have fq5 := (RE6.out.cell 5).trans rfl
 go_simp
 refine hK.out _ _ ?sr_3 (fun hS => ?_)
 case sr_3 => (exact ⟨(set6_other (w := w6) (b := w.heap.size + 1) (by omega)).trans HX6.out, fun j u hu => (World.cell?_of_block (set6_other (w := w6) (b := w.heap.size + 1) (by have := HGL.out.2; show b ≠ _; omega))).trans ((HW6.out.cell (p := ⟨b, p + i * 6 + j, none⟩) (Nat.lt_of_lt_of_le HGL.out.2 HB3.out.drew.size)).trans (HC4.out j u hu))⟩)
 clear hK K
 (try simp only [Act.put, layS])
 refine tkH 11 hS ?_
 refine wpAnyH_done (by kernel_rfl) ?_ _
 refine NoPanic.normal ?_
 clear hS
 have RZ : Hid (Blk (set6 w6 (w.heap.size + 1) (.string (txt ya.name)) (.string (txt ya.key)) (.int .i64 ya.kind) (.int .u64 (ya.num : Int)) (.string (txt ya.text)) (.slice A6 yf.len c6)) (w.heap.size + 1) 42 (cN ya (.slice A6 yf.len c6))) := hHd (RE6.out.set6 _ _ _ _ _ _)
 have HZ : Hid (Below w.heap.size w (set6 w6 (w.heap.size + 1) (.string (txt ya.name)) (.string (txt ya.key)) (.int .i64 ya.kind) (.int .u64 (ya.num : Int)) (.string (txt ya.text)) (.slice A6 yf.len c6))) := hHd (HB6.out.trans (set6_below (by omega)))
 have HLZ : Hid (LieP d w.heap.size (set6 w6 (w.heap.size + 1) (.string (txt ya.name)) (.string (txt ya.key)) (.int .i64 ya.kind) (.int .u64 (ya.num : Int)) (.string (txt ya.text)) (.slice A6 yf.len c6)) (ndC ya (.slice A6 yf.len c6)) (ya, yf)) := hHd ((HL6.out.set6 (by have := HD.out; omega) (Nat.lt_of_lt_of_le (show w.heap.size + 1 < w3.heap.size from RE3.out.lt) (Nat.le_refl _)) _ _ _ _ _ _).after HB3.out.size)
 go_wp2
 refine bodyPost_ret (res_ct9 rfl _ _ (w.heap.size + 1) 42 _ (0, 0) _ rfl RZ.out Tryz.underlying42 rfl (by kernel_rfl)) rfl ?_
 exact ⟨_, rfl, HLZ.out, HZ.out⟩
theorem rget_some_part (d : Nat) (a : NdD) (f : NdF) (A : Option Addr) (c : Nat) (s : Stp) (l : List Stp) (g o N m i : Nat) (a1 : NdD) (q : NdF) (ya : NdD) (yf : NdF) (bb : Bool) (w : World) (hd : d ≤ w.heap.size) (hx : LieB d w (ndC a (.slice A f.len c)) (a, f)) (hl : f.len ≤ 1000000) (hv : WayV w.heap.size w (.slice (some ⟨g, o, none⟩) N m) (s :: l)) (hf : findN s f = some i) (hy : f.get? i = some (a1, q)) (hm : m ≠ 1)
  (hI : ∀ (cs : List Value) (v : Value) (W : World), d ≤ W.heap.size → LieB d W cs (a1, q) → WayV W.heap.size W v l → Calls Tryz.prog 113 #[.agg cs.toArray, v] W (PTreP d (ya, yf) (.bool bb) W)) :
  Calls Tryz.prog 113 #[.agg (cN a (.slice A f.len c)), .slice (some ⟨g, o, none⟩) N m] w (PTreP d (ya, yf) (.bool bb) w) := by
 obtain ⟨h1, h2, h3, h4⟩ := get_boxes a f A c w (hx.keep (fun _ _ => rfl) hd)
 obtain ⟨g', o', eg, hNl, hNm, hg, hs1, hs2⟩ := hv.at (j := 0) (s := s) rfl
 injection eg with eg
 injection eg with eg1 eg2 eg3
 subst eg1 eg2
 have hs : Stp0 w g o s := ⟨by simpa using hs1, by simpa using hs2⟩
 have hN : 0 < N := by rw [hNl]; simp
 have e1 : ((N : Int) == 0) = false := by rw [beq_eq_false_iff_ne]; omega
 have e2 : (N == 0) = false := by rw [beq_eq_false_iff_ne]; omega
 have i1 : (0 : Int) < (N : Int) := by omega
 have i2 : (1 : Int) ≤ (N : Int) := by omega
 have i3 : (N : Int) ≤ (m : Int) := by omega
 have HF : Hid (Calls Tryz.prog 121 #[.agg (cN a (.slice A f.len c)), .agg #[.string (txt s.1), .string (txt s.2)]] ((w.alloc (.cells (cN a (.slice A f.len c)) 42)).alloc (.cells #[.string ⟨#[]⟩, .string ⟨#[]⟩, .int .i64 0, .int .u64 0, .string ⟨#[]⟩, .slice none 0 0] 42)).drew (Ans9 (.int .i64 (i : Int)) ((w.alloc (.cells (cN a (.slice A f.len c)) 42)).alloc (.cells #[.string ⟨#[]⟩, .string ⟨#[]⟩, .int .i64 0, .int .u64 0, .string ⟨#[]⟩, .slice none 0 0] 42)).drew)) := hHd (by
  have h := rfindn_any s (a, f) _ ((w.alloc (.cells (cN a (.slice A f.len c)) 42)).alloc (.cells #[.string ⟨#[]⟩, .string ⟨#[]⟩, .int .i64 0, .int .u64 0, .string ⟨#[]⟩, .slice none 0 0] 42)).drew h4 hl
  rw [show findIx s f = (i : Int) by unfold findIx; rw [hf]] at h
  exact h)
 have hk := LieB.row hx
 have hi := Fr.get_lt hy
 obtain ⟨b, p, A1, c1, rfl, -, -, hbl, hrow, hcl⟩ := hk.at hy
 have j1 : (0 : Int) ≤ (i : Int) := by omega
 have j2 : (i : Int) < (f.len : Int) := by omega
 have HX := hHd h1
 have RE := hHd h2
 have HB := hHd h3
 have HSt := hHd (hs.below hg h3.drew)
 have HGL := hHd (And.intro hg (Nat.lt_of_lt_of_le hbl hd))
 have HD := hHd hd
 have HI := hHd hI
 have HV := hHd hv
 have HC := hHd hcl
 have HR := hHd hrow
 skip
 clear h1 h2 h3 h4 hx hl hs hf hg hk hbl hrow hcl hI hv hs1 hs2 hNl hNm hy hi hd
 go_enter Tryz.func113, Tryz.ntmps113
 go_wp2_with fail
 refine wp_region_noPanic ?_
 refine wp_region_held_drew (S := fun _ => True) (by kernel_rfl) trivial (fun hS => ?_)
 refine held_more (S' := fun w' => Blk w' w.heap.size 42 (cN a (.slice (some ⟨b, p, none⟩) f.len c)) ∧ Stp0 w' g o s) (fun _ _ => trivial) _ _ _ _ ?_
 replace hS := And.intro (HX.out.below (Below.refl _ _).drew HX.out.lt) HSt.out
 refine tkH 0 hS ?_ (hy := fun w hSw => by obtain ⟨q0, q1, q2, q3, q4, q5⟩ := cl6 hSw.1; (go_simp <;> with_reducible rfl))
 refine tkH 1 hS ?_
 refine tkH 2 hS ?_
 refine tkH 3 hS ?_ (hy := fun w hSw => by have q0 := hSw.2.1; have q1 := hSw.2.2; (go_simp <;> with_reducible rfl))
 refine rdy1 4 fun K hK => ?_
 go_simp
 refine HF.out.mono ?_
 rintro r w3 ⟨rfl, hb3⟩
 have HB3 := hHd (HB.out.drew.trans (hb3.mono HB.out.drew.size))
 have RE3 := hHd ((RE.out.below (Below.refl _ _).drew RE.out.lt).below hb3 RE.out.lt)
 have HX3 := hHd ((HX.out.below (Below.refl _ _).drew HX.out.lt).below hb3 HX.out.lt)
 have HW3 := hHd hb3
 clear hb3
 go_wp2_with fail
 refine hK.out _ _ ?sr_4 (fun hS => ?_)
 case sr_4 => (exact ⟨HX3.out, HSt.out.below (Nat.lt_of_lt_of_le HGL.out.1 HB.out.drew.size) HW3.out⟩)
 clear hK K
 (try simp only [Act.put, layS])
 refine tkH 5 hS ?_
 refine wpAnyH_done (by kernel_rfl) ?_ _
 refine NoPanic.normal ?_
 clear hS
 go_wp2_with fail
 have HX4 := hHd (HX3.out.below (Below.refl _ _).drew HX3.out.lt)
 have RE4 := hHd (RE3.out.below (Below.refl _ _).drew RE3.out.lt)
 have HC4 : Hid (∀ j u, (ndC a1 (.slice A1 q.len c1))[j]? = some u → w3.drew.cell? ⟨b, p + i * 6 + j, none⟩ = some u) := hHd (fun j u hu => (HB3.out.drew.cell (p := ⟨b, p + i * 6 + j, none⟩) HGL.out.2).trans (HC.out j u hu))
 have HI1 : Hid (Calls Tryz.prog 113 #[.agg (cN a1 (.slice A1 q.len c1)), .slice (some ⟨g, o + 2, none⟩) (N - 1) (m - 1)] w3.drew (PTreP d (ya, yf) (.bool bb) w3.drew)) := hHd
  (HI.out _ _ w3.drew (Nat.le_trans HD.out HB3.out.drew.size) (LieB.make (HR.out.under HB3.out.drew HD.out (Nat.le_refl _))) (way_tail1 (HV.out.under HB3.out.drew (Nat.le_refl _) HB3.out.drew.size)))
 refine wp_region_noPanic ?_
 refine wp_region_held_drew (S := fun _ => True) (by kernel_rfl) trivial (fun hS => ?_)
 refine held_more (S' := fun w' => Blk w' w.heap.size 42 (cN a (.slice (some ⟨b, p, none⟩) f.len c)) ∧ ∀ j u, (ndC a1 (.slice A1 q.len c1))[j]? = some u → w'.cell? ⟨b, p + i * 6 + j, none⟩ = some u) (fun _ _ => trivial) _ _ _ _ ?_
 replace hS := And.intro HX4.out HC4.out
 refine tkH 0 hS ?_
 refine tkH 1 hS ?_ (hy := fun w hSw => by have q5 := (hSw.1.cell 5).trans rfl; (go_simp <;> with_reducible rfl))
 refine tkH 2 hS ?_
 refine tkH 3 hS ?_
 refine tkH 4 hS ?_ (hy := fun w hSw => by have u0 : w.cell? ⟨b, p + i * 6, none⟩ = _ := hSw.2 0 _ rfl; have u1 := hSw.2 1 _ rfl; have u2 := hSw.2 2 _ rfl; have u3 := hSw.2 3 _ rfl; have u4 := hSw.2 4 _ rfl; have u5 := hSw.2 5 _ rfl; (go_simp <;> with_reducible rfl))
 refine tkH 5 hS ?_
 refine tkH 6 hS ?_
 refine rdy1 7 fun K hK => ?_
 go_simp
 refine HI1.out.mono ?_
 intro r w6 hr
 obtain ⟨A6, c6, rfl, hl6, hb6⟩ := hr.flat
 have HL6 := hHd hl6
 have HB6 := hHd (HB3.out.drew.trans (hb6.mono HB3.out.drew.size))
 have HX6 := hHd (HX4.out.below hb6 HX4.out.lt)
 have RE6 := hHd (RE4.out.below hb6 RE4.out.lt)
 have HW6 := hHd hb6
 clear hb6 hr hl6
 go_wp2_with fail
 refine hK.out _ _ ?sr_5 (fun hS => ?_)
 case sr_5 => (exact ⟨HX6.out, fun j u hu => (HW6.out.cell (p := ⟨b, p + i * 6 + j, none⟩) (Nat.lt_of_lt_of_le HGL.out.2 HB3.out.drew.size)).trans (HC4.out j u hu)⟩)
 clear hK K
 (try simp only [Act.put, layS])
 refine tkH 8 hS ?_
 refine tkH 9 hS ?_
 refine rdy1 10 fun K hK => ?_
 have fz0 : (w6).frozen? ⟨w.heap.size + 1, 0, none⟩ = false := RE6.out.frozen 0
 have fq0 := (RE6.out.cell 0).trans rfl
 have fz1 : (w6).frozen? ⟨w.heap.size + 1, 1, none⟩ = false := RE6.out.frozen 1
 have fq1 := (RE6.out.cell 1).trans rfl
 have fz2 : (w6).frozen? ⟨w.heap.size + 1, 2, none⟩ = false := RE6.out.frozen 2
 have fq2 := (RE6.out.cell 2).trans rfl
 have fz3 : (w6).frozen? ⟨w.heap.size + 1, 3, none⟩ = false := RE6.out.frozen 3
 have fq3 := (RE6.out.cell 3).trans rfl
 have fz4 : (w6).frozen? ⟨w.heap.size + 1, 4, none⟩ = false := RE6.out.frozen 4
 have fq4 := (RE6.out.cell 4).trans rfl
 have fz5 : (w6).frozen? ⟨w.heap.size + 1, 5, none⟩ = false := RE6.out.frozen 5
 have fq5 := (RE6.out.cell 5).trans rfl
 go_simp
 refine hK.out _ _ ?sr_6 (fun hS => ?_)
 case sr_6 => (exact ⟨(set6_other (w := w6) (b := w.heap.size + 1) (by omega)).trans HX6.out, fun j u hu => (World.cell?_of_block (set6_other (w := w6) (b := w.heap.size + 1) (by have := HGL.out.2; show b ≠ _; omega))).trans ((HW6.out.cell (p := ⟨b, p + i * 6 + j, none⟩) (Nat.lt_of_lt_of_le HGL.out.2 HB3.out.drew.size)).trans (HC4.out j u hu))⟩)
 clear hK K
 (try simp only [Act.put, layS])
 refine tkH 11 hS ?_
 refine wpAnyH_done (by kernel_rfl) ?_ _
 refine NoPanic.normal ?_
 clear hS
 have RZ : Hid (Blk (set6 w6 (w.heap.size + 1) (.string (txt ya.name)) (.string (txt ya.key)) (.int .i64 ya.kind) (.int .u64 (ya.num : Int)) (.string (txt ya.text)) (.slice A6 yf.len c6)) (w.heap.size + 1) 42 (cN ya (.slice A6 yf.len c6))) := hHd (RE6.out.set6 _ _ _ _ _ _)
 have HZ : Hid (Below w.heap.size w (set6 w6 (w.heap.size + 1) (.string (txt ya.name)) (.string (txt ya.key)) (.int .i64 ya.kind) (.int .u64 (ya.num : Int)) (.string (txt ya.text)) (.slice A6 yf.len c6))) := hHd (HB6.out.trans (set6_below (by omega)))
 have HLZ : Hid (LieP d w.heap.size (set6 w6 (w.heap.size + 1) (.string (txt ya.name)) (.string (txt ya.key)) (.int .i64 ya.kind) (.int .u64 (ya.num : Int)) (.string (txt ya.text)) (.slice A6 yf.len c6)) (ndC ya (.slice A6 yf.len c6)) (ya, yf)) := hHd ((HL6.out.set6 (by have := HD.out; omega) (Nat.lt_of_lt_of_le (show w.heap.size + 1 < w3.heap.size from RE3.out.lt) (Nat.le_refl _)) _ _ _ _ _ _).after HB3.out.size)
 go_wp2
 refine bodyPost_ret (res_ct9 rfl _ _ (w.heap.size + 1) 42 _ (0, 0) _ rfl RZ.out Tryz.underlying42 rfl (by kernel_rfl)) rfl ?_
 exact ⟨_, rfl, HLZ.out, HZ.out⟩
theorem rget_any (d : Nat) : ∀ (l : List Stp) (x : Nd) (cs : List Value) (v : Value) (w : World), d ≤ w.heap.size → LieB d w cs x → WayV w.heap.size w v l → Few9 x →
  Calls Tryz.prog 113 #[.agg cs.toArray, v] w (PTreP d (GetX x l).1 (.bool (GetX x l).2) w) := by
 intro l
 induction l with
 | nil =>
  intro x cs v w hd hx hv _
  obtain ⟨A, c, rfl⟩ := hv.shape
  exact rget_nil x cs A c d w hd hx
 | cons s l ih =>
  intro x cs v w hd hx hv hf
  obtain ⟨A, c, rfl, hk⟩ := hx.shape
  obtain ⟨a, f⟩ := x
  obtain ⟨B, m, rfl⟩ := hv.shape
  obtain ⟨g, o, rfl, hN, hNm, hg, hs1, hs2⟩ := hv.at (j := 0) (s := s) rfl
  have hl : f.len ≤ 1000000 := Nat.le_trans (Fr.len_size f) hf
  cases hfi : findN s f with
  | none =>
   rw [GetX_none hfi]
   exact rget_none d a f A c s g o _ m w (hx.keep (fun _ _ => rfl) hd) hl ⟨by simpa using hs1, by simpa using hs2⟩ hg (by simp) hfi
  | some i =>
   obtain ⟨⟨a1, q⟩, hy, _, _⟩ := find_stp hfi
   rw [GetX_some (x := (a, f)) hfi hy]
   have hI : ∀ (cs : List Value) (v : Value) (W : World), d ≤ W.heap.size → LieB d W cs (a1, q) → WayV W.heap.size W v l → Calls Tryz.prog 113 #[.agg cs.toArray, v] W (PTreP d ((GetX (a1, q) l).1.1, (GetX (a1, q) l).1.2) (.bool (GetX (a1, q) l).2) W) :=
    fun cs v W h1 h2 h3 => ih (a1, q) cs v W h1 h2 h3 (by have h4 := Fr.size_get hy; have : f.size ≤ 1000000 := hf; show q.size ≤ 1000000; omega)
   by_cases hm : m = 1
   ·exact rget_some_all d a f A c s l g o _ m i a1 q _ _ _ w hd hx hl hv hfi hy hm hI
   ·exact rget_some_part d a f A c s l g o _ m i a1 q _ _ _ w hd hx hl hv hfi hy hm hI
theorem Tryz.cellsNd : (Tryz.prog.info? 42).map (fun i => (i.zero, i.size, i.bytes)) = some (some (.agg #[.string ⟨#[]⟩, .string ⟨#[]⟩, .int .i64 0, .int .u64 0, .string ⟨#[]⟩, .slice none 0 0]), 6, 88) := by kernel_rfl
section
attribute [local go_sem] Oper.semAt_some
def valN18 (nm ky : List UInt8) : List UInt8 → NdD
 | x :: y :: s => if y = 0 then ⟨nm, ky, (x.toNat : Int), V18 s, []⟩ else ⟨nm, ky, (x.toNat : Int), 0, s⟩
 | _ => ⟨nm, ky, 0, 0, []⟩
theorem kid_val18 (k : Fo) : kid18 V18 k = valN18 (dat18 0 k) (dat18 2 k) (dat18 4 k) := by
 unfold kid18
 rcases dat18 4 k with _ | ⟨x, _ | ⟨y, s⟩⟩ <;> rfl
inductive Veil18k (P : Prop) : Prop
 | mk : P → Veil18k P
theorem Veil18k.out {P : Prop} (h : Veil18k P) : P := by cases h; assumption
theorem blk_atk18 {W : World} {n : Nat} (h : W.heap.size = n) (t : TypeId) (cs : Array Value) : Blk (W.alloc (.cells cs t)) n t cs := by subst h; exact Blk.new _ _ _
theorem drop_len18 (k : Fo) : Fo.drop k.len k = .nil := by
 have h := Fo.len_drop k.len k
 rw [Nat.sub_self] at h
 cases hd : Fo.drop k.len k with
 | nil => rfl
 | cons => rw [hd] at h; simp [Fo.len] at h
theorem grown_set18 (w : World) (b o : Nat) (u : Value) : w.grownBy (w.setCell ⟨b, o, none⟩ u) (some b) :=
 ⟨rfl, rfl, rfl, by simp [World.setCell], fun k _ hne => Below.heap_setCell w ⟨b, o, none⟩ u k (fun e => hne (by rw [e]))⟩
end
abbrev Bad := Nat × List Stp
abbrev vlOf (a : NdD) : Vl := ⟨a.kind, a.num, a.text⟩
def leafB (d : SpD) (a : NdD) (k : NdF) : Bool := decide (a.key = []) && decide (k.len = 0) && rightX d (vlOf a)
def headX (d : SpD) (a : NdD) (k : NdF) (ahead : Nat) : Option Nat :=
 if d.kind = 1 then (if leafB d a k = true then none else some 23)
 else if d.kind = 3 then (if a.kind ≠ 0 ∨ identX a.key = false then some 23 else if d.most ≤ ahead then some 27 else none)
 else (if a.kind ≠ 0 ∨ a.key ≠ [] then some 23 else none)
def lackX : SpF → List Nat → Option Bad
 | .nil, _ => none
 | .cons d _ r, c => if d.must = true ∧ c.headD 0 = 0 then some (25, [(d.name, [])]) else lackX r c.tail
def bump (c : List Nat) (i : Nat) : List Nat := c.set i (c.getD i 0 + 1)
def zeros (s : SpF) : List Nat := List.replicate s.len 0
def scanF : NdF → SpF → List Nat → Option Bad
 | .nil, s, c => lackX s c
 | .cons a k r, s, c => match findX a.name s with
  | none => some (22, [stp a])
  | some i => match s.get? i with
   | none => none
   | some y => match headX y.1 a k (c.getD i 0) with
    | some e => some (e, [stp a])
    | none => match (if y.1.kind = 1 then none else scanF k y.2 (zeros y.2)) with
     | some b => some (b.1, stp a :: b.2)
     | none => scanF r s (bump c i)
def insideX (s : SpF) (f : NdF) : Option Bad := scanF f s (zeros s)
def kidX1 (y : Sp) (a : NdD) (k : NdF) (ahead : Nat) : Option Bad := match headX y.1 a k ahead with
 | some e => some (e, [])
 | none => if y.1.kind = 1 then none else insideX y.2 k
def under (a : NdD) : Option Bad → Option Bad
 | none => none
 | some b => some (b.1, stp a :: b.2)
theorem scan_cons {a : NdD} {k r : NdF} {s : SpF} {c : List Nat} {i : Nat} {y : Sp} (h1 : findX a.name s = some i) (h2 : s.get? i = some y) :
  scanF (.cons a k r) s c = match under a (kidX1 y a k (c.getD i 0)) with | some b => some b | none => scanF r s (bump c i) := by
 have e : scanF (.cons a k r) s c = match headX y.1 a k (c.getD i 0) with
    | some e => some (e, [stp a])
    | none => match (if y.1.kind = 1 then none else scanF k y.2 (zeros y.2)) with
     | some b => some (b.1, stp a :: b.2)
     | none => scanF r s (bump c i) := by
  rw [scanF.eq_def]; simp only [h1, h2]
 rw [e]
 unfold kidX1 insideX
 cases headX y.1 a k (c.getD i 0) with
 | some e => rfl
 | none =>
  simp only
  by_cases hk : y.1.kind = 1
  ·rw [if_pos hk]; rfl
  ·rw [if_neg hk]
   cases scanF k y.2 (zeros y.2) <;> rfl
theorem scan_name {a : NdD} {k r : NdF} {s : SpF} {c : List Nat} (h1 : findX a.name s = none) : scanF (.cons a k r) s c = some (22, [stp a]) := by
 rw [scanF.eq_def]; simp only [h1]
theorem scan_nil (s : SpF) (c : List Nat) : scanF .nil s c = lackX s c := by rw [scanF.eq_def]
theorem sp_get {n : List UInt8} {s : SpF} {i : Nat} (h : findX n s = some i) : ∃ y, s.get? i = some y ∧ y.1.name = n ∧ i < s.len := by
 obtain ⟨x, h1, h2, _⟩ := find_some h
 exact ⟨x, h1, h2, Fr.get_lt h1⟩
theorem bump_len (c : List Nat) (i : Nat) : (bump c i).length = c.length := by simp [bump]
theorem bump_get {c : List Nat} {i : Nat} (j : Nat) (h : i < c.length) : (bump c i).getD j 0 = if j = i then c.getD i 0 + 1 else c.getD j 0 := by
 unfold bump
 rw [List.getD_eq_getElem?_getD, List.getElem?_set]
 by_cases e : j = i
 ·subst e; simp [h]
 ·rw [if_neg (fun h' => e h'.symm), if_neg e, List.getD_eq_getElem?_getD]
def defS : Stp := (nDefault, [])
def clsS : Stp := (nClass, [])
def thereB (all : NdF) (y : Nd) : Bool := (gtF (nClass, y.1.text) all).isSome
def namedB (all : NdF) (o : Option Nd) : Bool := match o with
 | none => true
 | some y => thereB all y
def rulesX (all : NdF) : NdF → Option (List Stp)
 | .nil => none
 | .cons a k r => if a.name = nRule ∧ namedB all (gtF clsS k) = false then some [stp a, clsS] else rulesX all r
def portX (k : NdF) : Option (List Stp) := if namedB k (gtF defS k) = false then some [defS] else rulesX k k
def refsF : NdF → Option Bad
 | .nil => none
 | .cons a k r => if a.name = nPort then (match portX k with | some p => some (26, stp a :: p) | none => refsF r) else refsF r
def badO : Option Bad → Bad
 | none => (0, [])
 | some b => b
def RefsX (x : Nd) : Bad := badO (refsF x.2)
def rootB (x : Nd) : Bool := rgtX x && decide (x.1 = zeroT)
def CheckX (v : Int) (x : Nd) : Bad := if (rootX v).2 ≠ 0 then ((rootX v).2, []) else if rootB x = false then (1, []) else match insideX (rootX v).1.2 x.2 with
 | some b => b
 | none => RefsX x
def MayX (v : Int) (x : Nd) : Bool := decide ((CheckX v x).1 = 0)
theorem head_err {d : SpD} {a : NdD} {k : NdF} {n e : Nat} (h : headX d a k n = some e) : e = 23 ∨ e = 27 := by
 unfold headX at h
 repeat' split at h
 all_goals first | (injection h with h; omega) | cases h
theorem lack_err : ∀ {s : SpF} {c : List Nat} {b : Bad}, lackX s c = some b → b.1 = 25 ∧ b.2.length = 1 := by
 intro s
 induction s with
 | nil => intro c b h; cases h
 | cons d k r _ ih =>
  intro c b h
  unfold lackX at h
  split at h
  ·injection h with h; subst h; exact ⟨rfl, rfl⟩
  ·exact ih h
theorem scan_err : ∀ {f : NdF} {s : SpF} {c : List Nat} {b : Bad}, scanF f s c = some b → (b.1 = 22 ∨ b.1 = 23 ∨ b.1 = 25 ∨ b.1 = 27) ∧ b.2.length ≤ f.size + 1 := by
 intro f
 induction f with
 | nil =>
  intro s c b h
  rw [scan_nil] at h
  obtain ⟨h1, h2⟩ := lack_err h
  exact ⟨by omega, by omega⟩
 | cons a k r ihk ihr =>
  intro s c b h
  cases h1 : findX a.name s with
  | none => rw [scan_name h1] at h; injection h with h; subst h; exact ⟨.inl rfl, by simp⟩
  | some i =>
   obtain ⟨y, h2, _, _⟩ := sp_get h1
   rw [scan_cons h1 h2] at h
   cases hk : kidX1 y a k (c.getD i 0) with
   | none =>
    rw [hk] at h
    obtain ⟨g1, g2⟩ := ihr h
    exact ⟨g1, by simp only [Fr.size]; omega⟩
   | some q =>
    rw [hk] at h
    simp only [under] at h
    injection h with h
    subst h
    unfold kidX1 at hk
    cases hh : headX y.1 a k (c.getD i 0) with
    | some e =>
     rw [hh] at hk
     injection hk with hk
     subst hk
     have := head_err hh
     exact ⟨by simp only; omega, by simp⟩
    | none =>
     rw [hh] at hk
     simp only at hk
     split at hk
     ·cases hk
     ·obtain ⟨g1, g2⟩ := ihk hk
      exact ⟨g1, by simp only [Fr.size, List.length_cons]; omega⟩
theorem rules_len : ∀ {f all : NdF} {p : List Stp}, rulesX all f = some p → p.length = 2 := by
 intro f
 induction f with
 | nil => intro all p h; cases h
 | cons a k r _ ih =>
  intro all p h
  unfold rulesX at h
  split at h
  ·injection h with h; subst h; rfl
  ·exact ih h
theorem port_len {k : NdF} {p : List Stp} (h : portX k = some p) : p.length = 1 ∨ p.length = 2 := by
 unfold portX at h
 split at h
 ·injection h with h; subst h; exact .inl rfl
 ·exact .inr (rules_len h)
theorem refs_err : ∀ {f : NdF} {b : Bad}, refsF f = some b → b.1 = 26 ∧ b.2.length ≤ 3 := by
 intro f
 induction f with
 | nil => intro b h; cases h
 | cons a k r _ ih =>
  intro b h
  unfold refsF at h
  split at h
  ·cases hp : portX k with
   | none => rw [hp] at h; exact ih h
   | some p =>
    rw [hp] at h
    injection h with h
    subst h
    have := port_len hp
    exact ⟨rfl, by simp only [List.length_cons]; omega⟩
  ·exact ih h
theorem refs_zero {x : Nd} : (RefsX x).1 = 0 ↔ refsF x.2 = none := by
 unfold RefsX
 cases h : refsF x.2 with
 | none => simp [badO]
 | some b => have := (refs_err h).1; simp [badO]; omega
theorem check_zero {v : Int} {x : Nd} : (CheckX v x).1 = 0 ↔ (rootX v).2 = 0 ∧ rootB x = true ∧ insideX (rootX v).1.2 x.2 = none ∧ refsF x.2 = none := by
 unfold CheckX
 by_cases h1 : (rootX v).2 = 0
 ·rw [if_neg (by simp [h1])]
  cases h2 : rootB x with
  | false => simp
  | true =>
   rw [if_neg (by simp)]
   cases h3 : insideX (rootX v).1.2 x.2 with
   | none => simp [h1, refs_zero]
   | some b => have := (scan_err h3).1; simp [h1]; omega
 ·rw [if_pos h1]; simp [h1]
structure OkD (a : NdD) : Prop where
 name : a.name.length ≤ 1048576
 key : a.key.length ≤ 1048576
 lo : -9223372036854775808 ≤ a.kind
 hi : a.kind ≤ 9223372036854775807
 num : a.num < 18446744073709551616
 text : a.text.length ≤ 1048576
theorem OkD.vl {a : NdD} (h : OkD a) : VlOk (vlOf a) := ⟨h.lo, h.hi, h.num, h.text⟩
def OkF : NdF → Prop
 | .nil => True
 | .cons a k r => OkD a ∧ OkF k ∧ OkF r
abbrev OkN (x : Nd) : Prop := OkD x.1 ∧ OkF x.2
theorem OkF.at {f : NdF} : ∀ {i : Nat} {y : Nd}, OkF f → f.get? i = some y → OkN y := by
 induction f with
 | nil => intro i y _ h; cases h
 | cons a k r _ ih =>
  intro i y hf h
  cases i with
  | zero => injection h with h; subst h; exact ⟨hf.1, hf.2.1⟩
  | succ i => exact ih hf.2.2 h
theorem OkF.of {f : NdF} : (∀ i y, f.get? i = some y → OkN y) → OkF f := by
 induction f with
 | nil => intro _; trivial
 | cons a k r _ ih => intro h; exact ⟨(h 0 _ rfl).1, (h 0 _ rfl).2, ih fun i y hy => h (i + 1) y hy⟩
theorem OkD.zero : OkD zeroT := ⟨by decide, by decide, by decide, by decide, by decide, by decide⟩
end Go.Proofs.YtleidkpdpabkpaaGreatDoor
