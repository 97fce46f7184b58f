/- PatZge -/
import Derived.Test.YthmobcaidhgeaaaEM6
set_option linter.unusedSimpArgs false
set_option linter.unusedVariables false
set_option maxRecDepth 100000
set_option maxHeartbeats 8000000
namespace Go.Proofs.Ythmobcaidhgeaaa
open Go.RowKit
theorem zget_nil (x : Nd) (cs : List Value) (B : Option Addr) (m : Nat) (d : Nat → Prop) (w : World) (hb : UndZ d w) (hx : LieZ d w cs x) :
  Calls Try.prog 22 #[.agg cs.toArray, .slice B 0 m] w (PTreZ d x (.bool true) w) := by
 obtain ⟨A, c, rfl, hk⟩ := hx.shape
 obtain ⟨a, f⟩ := x
 have hb2 : Blk ((w.alloc (.cells (cN a (.slice A f.len c)) 27)).alloc (.cells (cN a (.slice A f.len c)) 27)) (w.heap.size + 1) 27 (cN a (.slice A f.len c)) := by
  have h := Blk.new (w.alloc (.cells (cN a (.slice A f.len c)) 27)) 27 (cN a (.slice A f.len c))
  rw [show (w.alloc (.cells (cN a (.slice A f.len c)) 27)).heap.size = w.heap.size + 1 by simp] at h
  exact h
 have hB : Below w.heap.size w ((w.alloc (.cells (cN a (.slice A f.len c)) 27)).alloc (.cells (cN a (.slice A f.len c)) 27)) := bAl.alloc (by simp) _
 have HX := hHd ((hx.under hB hb).p w.heap.size)
 have HB := hHd hB
 have RE := hHd hb2
 clear hx hk hb2 hB hb
 go_enter Try.func22, Try.ntmps22
 go_wp2
 refine bodyPost_ret (res_ct9 rfl _ _ (w.heap.size + 1) 27 _ (0, 0) _ rfl RE.out Try.underlying27 rfl (by kernel_rfl)) rfl ?_
 exact ⟨_, rfl, HX.out, HB.out⟩
theorem zget_none (d : Nat → Prop) (a : NdD) (f : NdF) (A : Option Addr) (c : Nat) (s : Stp) (g o N m : Nat) (w : World) (hx : LieN w (ndC a (.slice A f.len c)) (a, f)) (hl : f.len ≤ 1000000) (hs : Stp0 w g o s) (hg : g < w.heap.size) (hN : 0 < N) (hf : findN s f = none) :
  Calls Try.prog 22 #[.agg (cN a (.slice A f.len c)), .slice (some ⟨g, o, none⟩) N m] w (PTreZ d noN (.bool false) w) := by
 obtain ⟨h1, h2, h3, h4⟩ := get_boxes a f A c w hx
 have e1 : ((N : Int) == 0) = false := by rw [beq_eq_false_iff_ne]; omega
 have e2 : (N == 0) = false := by rw [beq_eq_false_iff_ne]; omega
 have i1 : (0 : Int) < (N : Int) := by omega
 have HF : Hid (Calls Try.prog 31 #[.agg (cN a (.slice A f.len c)), .agg #[.string (txt s.1), .string (txt s.2)]] ((w.alloc (.cells (cN a (.slice A f.len c)) 27)).alloc (.cells #[.string ⟨#[]⟩, .string ⟨#[]⟩, .int .i64 0, .int .u64 0, .string ⟨#[]⟩, .slice none 0 0] 27)).drew (Ans9 (.int .i64 (-1)) ((w.alloc (.cells (cN a (.slice A f.len c)) 27)).alloc (.cells #[.string ⟨#[]⟩, .string ⟨#[]⟩, .int .i64 0, .int .u64 0, .string ⟨#[]⟩, .slice none 0 0] 27)).drew)) := hHd (by
  have h := rfindn_any s (a, f) _ ((w.alloc (.cells (cN a (.slice A f.len c)) 27)).alloc (.cells #[.string ⟨#[]⟩, .string ⟨#[]⟩, .int .i64 0, .int .u64 0, .string ⟨#[]⟩, .slice none 0 0] 27)).drew h4 hl
  rw [show findIx s f = -1 by unfold findIx; rw [hf]] at h
  exact h)
 have HX := hHd h1
 have RE := hHd h2
 have HB := hHd h3
 have HSt := hHd (hs.below hg h3.drew)
 have HGL := hHd hg
 clear h1 h2 h3 h4 hx hl hs hf hg
 go_enter Try.func22, Try.ntmps22
 go_wp2_with fail
 refine wp_region_noPanic ?_
 refine wp_region_held_drew (S := fun _ => True) (by kernel_rfl) trivial (fun hS => ?_)
 refine held_more (S' := fun w' => Blk w' w.heap.size 27 (cN a (.slice A f.len c)) ∧ Stp0 w' g o s) (fun _ _ => trivial) _ _ _ _ ?_
 replace hS := And.intro (HX.out.below (Below.refl _ _).drew HX.out.lt) HSt.out
 refine tkH 0 hS ?_ (hy := fun w hSw => by obtain ⟨q0, q1, q2, q3, q4, q5⟩ := cl6 hSw.1; (go_simp <;> with_reducible rfl))
 refine tkH 1 hS ?_
 refine tkH 2 hS ?_
 refine tkH 3 hS ?_ (hy := fun w hSw => by have q0 := hSw.2.1; have q1 := hSw.2.2; (go_simp <;> with_reducible rfl))
 refine rdy1 4 fun K hK => ?_
 go_simp
 refine HF.out.mono ?_
 rintro r w3 ⟨rfl, hb3⟩
 have HB3 := hHd (HB.out.drew.trans (hb3.mono HB.out.drew.size))
 have RE3 := hHd ((RE.out.below (Below.refl _ _).drew RE.out.lt).below hb3 RE.out.lt)
 have HS3 := hHd (And.intro ((HX.out.below (Below.refl _ _).drew HX.out.lt).below hb3 HX.out.lt) trivial)
 have HW3 := hHd hb3
 clear hb3
 go_wp2_with fail
 refine hK.out _ _ ?sr_0 (fun hS => ?_)
 case sr_0 => (exact ⟨HS3.out.1, HSt.out.below (Nat.lt_of_lt_of_le HGL.out HB.out.drew.size) HW3.out⟩)
 clear hK K
 (try simp only [Act.put, layS])
 refine tkH 5 hS ?_
 refine wpAnyH_done (by kernel_rfl) ?_ _
 refine NoPanic.normal ?_
 clear hS
 have fz0 : (w3).frozen? ⟨w.heap.size + 1, 0, none⟩ = false := RE3.out.frozen 0
 have fq0 := (RE3.out.cell 0).trans rfl
 have fz1 : (w3).frozen? ⟨w.heap.size + 1, 1, none⟩ = false := RE3.out.frozen 1
 have fq1 := (RE3.out.cell 1).trans rfl
 have fz2 : (w3).frozen? ⟨w.heap.size + 1, 2, none⟩ = false := RE3.out.frozen 2
 have fq2 := (RE3.out.cell 2).trans rfl
 have fz3 : (w3).frozen? ⟨w.heap.size + 1, 3, none⟩ = false := RE3.out.frozen 3
 have fq3 := (RE3.out.cell 3).trans rfl
 have fz4 : (w3).frozen? ⟨w.heap.size + 1, 4, none⟩ = false := RE3.out.frozen 4
 have fq4 := (RE3.out.cell 4).trans rfl
 have fz5 : (w3).frozen? ⟨w.heap.size + 1, 5, none⟩ = false := RE3.out.frozen 5
 have fq5 := (RE3.out.cell 5).trans rfl
 have RZ : Hid (Blk (set6 w3 (w.heap.size + 1) (.string ⟨#[]⟩) (.string ⟨#[]⟩) (.int .i64 0) (.int .u64 0) (.string ⟨#[]⟩) (.slice none 0 0)) (w.heap.size + 1) 27 #[.string ⟨#[]⟩, .string ⟨#[]⟩, .int .i64 0, .int .u64 0, .string ⟨#[]⟩, .slice none 0 0]) := hHd (RE3.out.set6 _ _ _ _ _ _)
 have HZ : Hid (Below w.heap.size w (set6 w3 (w.heap.size + 1) (.string ⟨#[]⟩) (.string ⟨#[]⟩) (.int .i64 0) (.int .u64 0) (.string ⟨#[]⟩) (.slice none 0 0))) := hHd (HB3.out.trans (set6_below (by omega)))
 go_wp2
 refine bodyPost_ret (res_ct9 rfl _ _ (w.heap.size + 1) 27 _ (0, 0) _ rfl RZ.out Try.underlying27 rfl (by kernel_rfl)) rfl ?_
 exact ⟨_, rfl, (LieZ.zero _ _).p _, HZ.out⟩
theorem zget_some_all (d : Nat → Prop) (a : NdD) (f : NdF) (A : Option Addr) (c : Nat) (s : Stp) (l : List Stp) (g o N m i : Nat) (a1 : NdD) (q : NdF) (ya : NdD) (yf : NdF) (bb : Bool) (w : World) (hd : UndZ d w) (hx : LieZ d w (ndC a (.slice A f.len c)) (a, f)) (hl : f.len ≤ 1000000) (hv : WayV w.heap.size w (.slice (some ⟨g, o, none⟩) N m) (s :: l)) (hf : findN s f = some i) (hy : f.get? i = some (a1, q)) (hm : m = 1)
  (hI : ∀ (cs : List Value) (v : Value) (W : World), UndZ d W → LieZ d W cs (a1, q) → WayV W.heap.size W v l → Calls Try.prog 22 #[.agg cs.toArray, v] W (PTreZ d (ya, yf) (.bool bb) W)) :
  Calls Try.prog 22 #[.agg (cN a (.slice A f.len c)), .slice (some ⟨g, o, none⟩) N m] w (PTreZ d (ya, yf) (.bool bb) w) := by
 obtain ⟨h1, h2, h3, h4⟩ := get_boxes a f A c w (hx.lie hd)
 obtain ⟨g', o', eg, hNl, hNm, hg, hs1, hs2⟩ := hv.at (j := 0) (s := s) rfl
 injection eg with eg
 injection eg with eg1 eg2 eg3
 subst eg1 eg2
 have hs : Stp0 w g o s := ⟨by simpa using hs1, by simpa using hs2⟩
 have hN : 0 < N := by rw [hNl]; simp
 have e1 : ((N : Int) == 0) = false := by rw [beq_eq_false_iff_ne]; omega
 have e2 : (N == 0) = false := by rw [beq_eq_false_iff_ne]; omega
 have i1 : (0 : Int) < (N : Int) := by omega
 have i2 : (1 : Int) ≤ (N : Int) := by omega
 have i3 : (N : Int) ≤ (m : Int) := by omega
 have HF : Hid (Calls Try.prog 31 #[.agg (cN a (.slice A f.len c)), .agg #[.string (txt s.1), .string (txt s.2)]] ((w.alloc (.cells (cN a (.slice A f.len c)) 27)).alloc (.cells #[.string ⟨#[]⟩, .string ⟨#[]⟩, .int .i64 0, .int .u64 0, .string ⟨#[]⟩, .slice none 0 0] 27)).drew (Ans9 (.int .i64 (i : Int)) ((w.alloc (.cells (cN a (.slice A f.len c)) 27)).alloc (.cells #[.string ⟨#[]⟩, .string ⟨#[]⟩, .int .i64 0, .int .u64 0, .string ⟨#[]⟩, .slice none 0 0] 27)).drew)) := hHd (by
  have h := rfindn_any s (a, f) _ ((w.alloc (.cells (cN a (.slice A f.len c)) 27)).alloc (.cells #[.string ⟨#[]⟩, .string ⟨#[]⟩, .int .i64 0, .int .u64 0, .string ⟨#[]⟩, .slice none 0 0] 27)).drew h4 hl
  rw [show findIx s f = (i : Int) by unfold findIx; rw [hf]] at h
  exact h)
 have hk := LieZ.row hx
 have hi := Fr.get_lt hy
 obtain ⟨b, p, A1, c1, rfl, -, -, hbl, hrow, hcl⟩ := hk.at hy
 have j1 : (0 : Int) ≤ (i : Int) := by omega
 have j2 : (i : Int) < (f.len : Int) := by omega
 have HX := hHd h1
 have RE := hHd h2
 have HB := hHd h3
 have HSt := hHd (hs.below hg h3.drew)
 have HGL := hHd (And.intro hg (hd _ hbl))
 have HD := hHd hd
 have HI := hHd hI
 have HV := hHd hv
 have HC := hHd hcl
 have HR := hHd hrow
 obtain rfl : N = 1 := by omega
 have HL1 : Hid (l = []) := hHd (by have : l.length = 0 := (by simpa using hNl.symm); exact List.eq_nil_of_length_eq_zero this)
 subst hm
 clear h1 h2 h3 h4 hx hl hs hf hg hk hbl hrow hcl hI hv hs1 hs2 hNl hNm hy hi hd
 go_enter Try.func22, Try.ntmps22
 go_wp2_with fail
 refine wp_region_noPanic ?_
 refine wp_region_held_drew (S := fun _ => True) (by kernel_rfl) trivial (fun hS => ?_)
 refine held_more (S' := fun w' => Blk w' w.heap.size 27 (cN a (.slice (some ⟨b, p, none⟩) f.len c)) ∧ Stp0 w' g o s) (fun _ _ => trivial) _ _ _ _ ?_
 replace hS := And.intro (HX.out.below (Below.refl _ _).drew HX.out.lt) HSt.out
 refine tkH 0 hS ?_ (hy := fun w hSw => by obtain ⟨q0, q1, q2, q3, q4, q5⟩ := cl6 hSw.1; (go_simp <;> with_reducible rfl))
 refine tkH 1 hS ?_
 refine tkH 2 hS ?_
 refine tkH 3 hS ?_ (hy := fun w hSw => by have q0 := hSw.2.1; have q1 := hSw.2.2; (go_simp <;> with_reducible rfl))
 refine rdy1 4 fun K hK => ?_
 go_simp
 refine HF.out.mono ?_
 rintro r w3 ⟨rfl, hb3⟩
 have HB3 := hHd (HB.out.drew.trans (hb3.mono HB.out.drew.size))
 have RE3 := hHd ((RE.out.below (Below.refl _ _).drew RE.out.lt).below hb3 RE.out.lt)
 have HX3 := hHd ((HX.out.below (Below.refl _ _).drew HX.out.lt).below hb3 HX.out.lt)
 have HW3 := hHd hb3
 clear hb3
 go_wp2_with fail
 refine hK.out _ _ ?sr_1 (fun hS => ?_)
 case sr_1 => (exact ⟨HX3.out, HSt.out.below (Nat.lt_of_lt_of_le HGL.out.1 HB.out.drew.size) HW3.out⟩)
 clear hK K
 (try simp only [Act.put, layS])
 refine tkH 5 hS ?_
 refine wpAnyH_done (by kernel_rfl) ?_ _
 refine NoPanic.normal ?_
 clear hS
 go_wp2_with fail
 have HX4 := hHd (HX3.out.below (Below.refl _ _).drew HX3.out.lt)
 have RE4 := hHd (RE3.out.below (Below.refl _ _).drew RE3.out.lt)
 have HC4 : Hid (∀ j u, (ndC a1 (.slice A1 q.len c1))[j]? = some u → w3.drew.cell? ⟨b, p + i * 6 + j, none⟩ = some u) := hHd (fun j u hu => (HB3.out.drew.cell (p := ⟨b, p + i * 6 + j, none⟩) HGL.out.2).trans (HC.out j u hu))
 have HI1 : Hid (Calls Try.prog 22 #[.agg (cN a1 (.slice A1 q.len c1)), .slice (some ⟨g, o, none⟩) 0 0] w3.drew (PTreZ d (ya, yf) (.bool bb) w3.drew)) := hHd
  (HI.out _ _ w3.drew (und_le HD.out HB3.out.drew.size) (LieZ.make (HR.out.under HB3.out.drew HD.out)) (by rw [HL1.out]; exact WayV.nil _ _ _ _))
 refine wp_region_noPanic ?_
 refine wp_region_held_drew (S := fun _ => True) (by kernel_rfl) trivial (fun hS => ?_)
 refine held_more (S' := fun w' => Blk w' w.heap.size 27 (cN a (.slice (some ⟨b, p, none⟩) f.len c)) ∧ ∀ j u, (ndC a1 (.slice A1 q.len c1))[j]? = some u → w'.cell? ⟨b, p + i * 6 + j, none⟩ = some u) (fun _ _ => trivial) _ _ _ _ ?_
 replace hS := And.intro HX4.out HC4.out
 refine tkH 0 hS ?_
 refine tkH 1 hS ?_ (hy := fun w hSw => by have q5 := (hSw.1.cell 5).trans rfl; (go_simp <;> with_reducible rfl))
 refine tkH 2 hS ?_
 refine tkH 3 hS ?_
 refine tkH 4 hS ?_ (hy := fun w hSw => by have u0 : w.cell? ⟨b, p + i * 6, none⟩ = _ := hSw.2 0 _ rfl; have u1 := hSw.2 1 _ rfl; have u2 := hSw.2 2 _ rfl; have u3 := hSw.2 3 _ rfl; have u4 := hSw.2 4 _ rfl; have u5 := hSw.2 5 _ rfl; (go_simp <;> with_reducible rfl))
 refine tkH 5 hS ?_
 refine tkH 6 hS ?_
 refine rdy1 7 fun K hK => ?_
 go_simp
 refine HI1.out.mono ?_
 intro r w6 hr
 obtain ⟨A6, c6, rfl, hl6, hb6⟩ := hr.flat
 have HL6 := hHd hl6
 have HB6 := hHd (HB3.out.drew.trans (hb6.mono HB3.out.drew.size))
 have HX6 := hHd (HX4.out.below hb6 HX4.out.lt)
 have RE6 := hHd (RE4.out.below hb6 RE4.out.lt)
 have HW6 := hHd hb6
 clear hb6 hr hl6
 go_wp2_with fail
 refine hK.out _ _ ?sr_2 (fun hS => ?_)
 case sr_2 => (exact ⟨HX6.out, fun j u hu => (HW6.out.cell (p := ⟨b, p + i * 6 + j, none⟩) (Nat.lt_of_lt_of_le HGL.out.2 HB3.out.drew.size)).trans (HC4.out j u hu)⟩)
 clear hK K
 (try simp only [Act.put, layS])
 refine tkH 8 hS ?_
 refine tkH 9 hS ?_
 refine rdy1 10 fun K hK => ?_
 have fz0 : (w6).frozen? ⟨w.heap.size + 1, 0, none⟩ = false := RE6.out.frozen 0
 have fq0 := (RE6.out.cell 0).trans rfl
 have fz1 : (w6).frozen? ⟨w.heap.size + 1, 1, none⟩ = false := RE6.out.frozen 1
 have fq1 := (RE6.out.cell 1).trans rfl
 have fz2 : (w6).frozen? ⟨w.heap.size + 1, 2, none⟩ = false := RE6.out.frozen 2
 have fq2 := (RE6.out.cell 2).trans rfl
 have fz3 : (w6).frozen? ⟨w.heap.size + 1, 3, none⟩ = false := RE6.out.frozen 3
 have fq3 := (RE6.out.cell 3).trans rfl
 have fz4 : (w6).frozen? ⟨w.heap.size + 1, 4, none⟩ = false := RE6.out.frozen 4
 have fq4 := (RE6.out.cell 4).trans rfl
 have fz5 : (w6).frozen? ⟨w.heap.size + 1, 5, none⟩ = false := RE6.out.frozen 5
 have fq5 := (RE6.out.cell 5).trans rfl
 go_simp
 refine hK.out _ _ ?sr_3 (fun hS => ?_)
 case sr_3 => (exact ⟨(set6_other (w := w6) (b := w.heap.size + 1) (by omega)).trans HX6.out, fun j u hu => (World.cell?_of_block (set6_other (w := w6) (b := w.heap.size + 1) (by have := HGL.out.2; show b ≠ _; omega))).trans ((HW6.out.cell (p := ⟨b, p + i * 6 + j, none⟩) (Nat.lt_of_lt_of_le HGL.out.2 HB3.out.drew.size)).trans (HC4.out j u hu))⟩)
 clear hK K
 (try simp only [Act.put, layS])
 refine tkH 11 hS ?_
 refine wpAnyH_done (by kernel_rfl) ?_ _
 refine NoPanic.normal ?_
 clear hS
 have RZ : Hid (Blk (set6 w6 (w.heap.size + 1) (.string (txt ya.name)) (.string (txt ya.key)) (.int .i64 ya.kind) (.int .u64 (ya.num : Int)) (.string (txt ya.text)) (.slice A6 yf.len c6)) (w.heap.size + 1) 27 (cN ya (.slice A6 yf.len c6))) := hHd (RE6.out.set6 _ _ _ _ _ _)
 have HZ : Hid (Below w.heap.size w (set6 w6 (w.heap.size + 1) (.string (txt ya.name)) (.string (txt ya.key)) (.int .i64 ya.kind) (.int .u64 (ya.num : Int)) (.string (txt ya.text)) (.slice A6 yf.len c6))) := hHd (HB6.out.trans (set6_below (by omega)))
 have HLZ : Hid (LieQ d w.heap.size (set6 w6 (w.heap.size + 1) (.string (txt ya.name)) (.string (txt ya.key)) (.int .i64 ya.kind) (.int .u64 (ya.num : Int)) (.string (txt ya.text)) (.slice A6 yf.len c6)) (ndC ya (.slice A6 yf.len c6)) (ya, yf)) := hHd ((HL6.out.set6 (fun h9 => by have := HD.out _ h9; omega) (Nat.lt_of_lt_of_le (show w.heap.size + 1 < w3.heap.size from RE3.out.lt) (Nat.le_refl _)) _ _ _ _ _ _).after HB3.out.size)
 go_wp2
 refine bodyPost_ret (res_ct9 rfl _ _ (w.heap.size + 1) 27 _ (0, 0) _ rfl RZ.out Try.underlying27 rfl (by kernel_rfl)) rfl ?_
 exact ⟨_, rfl, HLZ.out, HZ.out⟩
theorem zget_some_part (d : Nat → Prop) (a : NdD) (f : NdF) (A : Option Addr) (c : Nat) (s : Stp) (l : List Stp) (g o N m i : Nat) (a1 : NdD) (q : NdF) (ya : NdD) (yf : NdF) (bb : Bool) (w : World) (hd : UndZ d w) (hx : LieZ d w (ndC a (.slice A f.len c)) (a, f)) (hl : f.len ≤ 1000000) (hv : WayV w.heap.size w (.slice (some ⟨g, o, none⟩) N m) (s :: l)) (hf : findN s f = some i) (hy : f.get? i = some (a1, q)) (hm : m ≠ 1)
  (hI : ∀ (cs : List Value) (v : Value) (W : World), UndZ d W → LieZ d W cs (a1, q) → WayV W.heap.size W v l → Calls Try.prog 22 #[.agg cs.toArray, v] W (PTreZ d (ya, yf) (.bool bb) W)) :
  Calls Try.prog 22 #[.agg (cN a (.slice A f.len c)), .slice (some ⟨g, o, none⟩) N m] w (PTreZ d (ya, yf) (.bool bb) w) := by
 obtain ⟨h1, h2, h3, h4⟩ := get_boxes a f A c w (hx.lie hd)
 obtain ⟨g', o', eg, hNl, hNm, hg, hs1, hs2⟩ := hv.at (j := 0) (s := s) rfl
 injection eg with eg
 injection eg with eg1 eg2 eg3
 subst eg1 eg2
 have hs : Stp0 w g o s := ⟨by simpa using hs1, by simpa using hs2⟩
 have hN : 0 < N := by rw [hNl]; simp
 have e1 : ((N : Int) == 0) = false := by rw [beq_eq_false_iff_ne]; omega
 have e2 : (N == 0) = false := by rw [beq_eq_false_iff_ne]; omega
 have i1 : (0 : Int) < (N : Int) := by omega
 have i2 : (1 : Int) ≤ (N : Int) := by omega
 have i3 : (N : Int) ≤ (m : Int) := by omega
 have HF : Hid (Calls Try.prog 31 #[.agg (cN a (.slice A f.len c)), .agg #[.string (txt s.1), .string (txt s.2)]] ((w.alloc (.cells (cN a (.slice A f.len c)) 27)).alloc (.cells #[.string ⟨#[]⟩, .string ⟨#[]⟩, .int .i64 0, .int .u64 0, .string ⟨#[]⟩, .slice none 0 0] 27)).drew (Ans9 (.int .i64 (i : Int)) ((w.alloc (.cells (cN a (.slice A f.len c)) 27)).alloc (.cells #[.string ⟨#[]⟩, .string ⟨#[]⟩, .int .i64 0, .int .u64 0, .string ⟨#[]⟩, .slice none 0 0] 27)).drew)) := hHd (by
  have h := rfindn_any s (a, f) _ ((w.alloc (.cells (cN a (.slice A f.len c)) 27)).alloc (.cells #[.string ⟨#[]⟩, .string ⟨#[]⟩, .int .i64 0, .int .u64 0, .string ⟨#[]⟩, .slice none 0 0] 27)).drew h4 hl
  rw [show findIx s f = (i : Int) by unfold findIx; rw [hf]] at h
  exact h)
 have hk := LieZ.row hx
 have hi := Fr.get_lt hy
 obtain ⟨b, p, A1, c1, rfl, -, -, hbl, hrow, hcl⟩ := hk.at hy
 have j1 : (0 : Int) ≤ (i : Int) := by omega
 have j2 : (i : Int) < (f.len : Int) := by omega
 have HX := hHd h1
 have RE := hHd h2
 have HB := hHd h3
 have HSt := hHd (hs.below hg h3.drew)
 have HGL := hHd (And.intro hg (hd _ hbl))
 have HD := hHd hd
 have HI := hHd hI
 have HV := hHd hv
 have HC := hHd hcl
 have HR := hHd hrow
 skip
 clear h1 h2 h3 h4 hx hl hs hf hg hk hbl hrow hcl hI hv hs1 hs2 hNl hNm hy hi hd
 go_enter Try.func22, Try.ntmps22
 go_wp2_with fail
 refine wp_region_noPanic ?_
 refine wp_region_held_drew (S := fun _ => True) (by kernel_rfl) trivial (fun hS => ?_)
 refine held_more (S' := fun w' => Blk w' w.heap.size 27 (cN a (.slice (some ⟨b, p, none⟩) f.len c)) ∧ Stp0 w' g o s) (fun _ _ => trivial) _ _ _ _ ?_
 replace hS := And.intro (HX.out.below (Below.refl _ _).drew HX.out.lt) HSt.out
 refine tkH 0 hS ?_ (hy := fun w hSw => by obtain ⟨q0, q1, q2, q3, q4, q5⟩ := cl6 hSw.1; (go_simp <;> with_reducible rfl))
 refine tkH 1 hS ?_
 refine tkH 2 hS ?_
 refine tkH 3 hS ?_ (hy := fun w hSw => by have q0 := hSw.2.1; have q1 := hSw.2.2; (go_simp <;> with_reducible rfl))
 refine rdy1 4 fun K hK => ?_
 go_simp
 refine HF.out.mono ?_
 rintro r w3 ⟨rfl, hb3⟩
 have HB3 := hHd (HB.out.drew.trans (hb3.mono HB.out.drew.size))
 have RE3 := hHd ((RE.out.below (Below.refl _ _).drew RE.out.lt).below hb3 RE.out.lt)
 have HX3 := hHd ((HX.out.below (Below.refl _ _).drew HX.out.lt).below hb3 HX.out.lt)
 have HW3 := hHd hb3
 clear hb3
 go_wp2_with fail
 refine hK.out _ _ ?sr_4 (fun hS => ?_)
 case sr_4 => (exact ⟨HX3.out, HSt.out.below (Nat.lt_of_lt_of_le HGL.out.1 HB.out.drew.size) HW3.out⟩)
 clear hK K
 (try simp only [Act.put, layS])
 refine tkH 5 hS ?_
 refine wpAnyH_done (by kernel_rfl) ?_ _
 refine NoPanic.normal ?_
 clear hS
 go_wp2_with fail
 have HX4 := hHd (HX3.out.below (Below.refl _ _).drew HX3.out.lt)
 have RE4 := hHd (RE3.out.below (Below.refl _ _).drew RE3.out.lt)
 have HC4 : Hid (∀ j u, (ndC a1 (.slice A1 q.len c1))[j]? = some u → w3.drew.cell? ⟨b, p + i * 6 + j, none⟩ = some u) := hHd (fun j u hu => (HB3.out.drew.cell (p := ⟨b, p + i * 6 + j, none⟩) HGL.out.2).trans (HC.out j u hu))
 have HI1 : Hid (Calls Try.prog 22 #[.agg (cN a1 (.slice A1 q.len c1)), .slice (some ⟨g, o + 2, none⟩) (N - 1) (m - 1)] w3.drew (PTreZ d (ya, yf) (.bool bb) w3.drew)) := hHd
  (HI.out _ _ w3.drew (und_le HD.out HB3.out.drew.size) (LieZ.make (HR.out.under HB3.out.drew HD.out)) (way_tail1 (HV.out.under HB3.out.drew (Nat.le_refl _) HB3.out.drew.size)))
 refine wp_region_noPanic ?_
 refine wp_region_held_drew (S := fun _ => True) (by kernel_rfl) trivial (fun hS => ?_)
 refine held_more (S' := fun w' => Blk w' w.heap.size 27 (cN a (.slice (some ⟨b, p, none⟩) f.len c)) ∧ ∀ j u, (ndC a1 (.slice A1 q.len c1))[j]? = some u → w'.cell? ⟨b, p + i * 6 + j, none⟩ = some u) (fun _ _ => trivial) _ _ _ _ ?_
 replace hS := And.intro HX4.out HC4.out
 refine tkH 0 hS ?_
 refine tkH 1 hS ?_ (hy := fun w hSw => by have q5 := (hSw.1.cell 5).trans rfl; (go_simp <;> with_reducible rfl))
 refine tkH 2 hS ?_
 refine tkH 3 hS ?_
 refine tkH 4 hS ?_ (hy := fun w hSw => by have u0 : w.cell? ⟨b, p + i * 6, none⟩ = _ := hSw.2 0 _ rfl; have u1 := hSw.2 1 _ rfl; have u2 := hSw.2 2 _ rfl; have u3 := hSw.2 3 _ rfl; have u4 := hSw.2 4 _ rfl; have u5 := hSw.2 5 _ rfl; (go_simp <;> with_reducible rfl))
 refine tkH 5 hS ?_
 refine tkH 6 hS ?_
 refine rdy1 7 fun K hK => ?_
 go_simp
 refine HI1.out.mono ?_
 intro r w6 hr
 obtain ⟨A6, c6, rfl, hl6, hb6⟩ := hr.flat
 have HL6 := hHd hl6
 have HB6 := hHd (HB3.out.drew.trans (hb6.mono HB3.out.drew.size))
 have HX6 := hHd (HX4.out.below hb6 HX4.out.lt)
 have RE6 := hHd (RE4.out.below hb6 RE4.out.lt)
 have HW6 := hHd hb6
 clear hb6 hr hl6
 go_wp2_with fail
 refine hK.out _ _ ?sr_5 (fun hS => ?_)
 case sr_5 => (exact ⟨HX6.out, fun j u hu => (HW6.out.cell (p := ⟨b, p + i * 6 + j, none⟩) (Nat.lt_of_lt_of_le HGL.out.2 HB3.out.drew.size)).trans (HC4.out j u hu)⟩)
 clear hK K
 (try simp only [Act.put, layS])
 refine tkH 8 hS ?_
 refine tkH 9 hS ?_
 refine rdy1 10 fun K hK => ?_
 have fz0 : (w6).frozen? ⟨w.heap.size + 1, 0, none⟩ = false := RE6.out.frozen 0
 have fq0 := (RE6.out.cell 0).trans rfl
 have fz1 : (w6).frozen? ⟨w.heap.size + 1, 1, none⟩ = false := RE6.out.frozen 1
 have fq1 := (RE6.out.cell 1).trans rfl
 have fz2 : (w6).frozen? ⟨w.heap.size + 1, 2, none⟩ = false := RE6.out.frozen 2
 have fq2 := (RE6.out.cell 2).trans rfl
 have fz3 : (w6).frozen? ⟨w.heap.size + 1, 3, none⟩ = false := RE6.out.frozen 3
 have fq3 := (RE6.out.cell 3).trans rfl
 have fz4 : (w6).frozen? ⟨w.heap.size + 1, 4, none⟩ = false := RE6.out.frozen 4
 have fq4 := (RE6.out.cell 4).trans rfl
 have fz5 : (w6).frozen? ⟨w.heap.size + 1, 5, none⟩ = false := RE6.out.frozen 5
 have fq5 := (RE6.out.cell 5).trans rfl
 go_simp
 refine hK.out _ _ ?sr_6 (fun hS => ?_)
 case sr_6 => (exact ⟨(set6_other (w := w6) (b := w.heap.size + 1) (by omega)).trans HX6.out, fun j u hu => (World.cell?_of_block (set6_other (w := w6) (b := w.heap.size + 1) (by have := HGL.out.2; show b ≠ _; omega))).trans ((HW6.out.cell (p := ⟨b, p + i * 6 + j, none⟩) (Nat.lt_of_lt_of_le HGL.out.2 HB3.out.drew.size)).trans (HC4.out j u hu))⟩)
 clear hK K
 (try simp only [Act.put, layS])
 refine tkH 11 hS ?_
 refine wpAnyH_done (by kernel_rfl) ?_ _
 refine NoPanic.normal ?_
 clear hS
 have RZ : Hid (Blk (set6 w6 (w.heap.size + 1) (.string (txt ya.name)) (.string (txt ya.key)) (.int .i64 ya.kind) (.int .u64 (ya.num : Int)) (.string (txt ya.text)) (.slice A6 yf.len c6)) (w.heap.size + 1) 27 (cN ya (.slice A6 yf.len c6))) := hHd (RE6.out.set6 _ _ _ _ _ _)
 have HZ : Hid (Below w.heap.size w (set6 w6 (w.heap.size + 1) (.string (txt ya.name)) (.string (txt ya.key)) (.int .i64 ya.kind) (.int .u64 (ya.num : Int)) (.string (txt ya.text)) (.slice A6 yf.len c6))) := hHd (HB6.out.trans (set6_below (by omega)))
 have HLZ : Hid (LieQ d w.heap.size (set6 w6 (w.heap.size + 1) (.string (txt ya.name)) (.string (txt ya.key)) (.int .i64 ya.kind) (.int .u64 (ya.num : Int)) (.string (txt ya.text)) (.slice A6 yf.len c6)) (ndC ya (.slice A6 yf.len c6)) (ya, yf)) := hHd ((HL6.out.set6 (fun h9 => by have := HD.out _ h9; omega) (Nat.lt_of_lt_of_le (show w.heap.size + 1 < w3.heap.size from RE3.out.lt) (Nat.le_refl _)) _ _ _ _ _ _).after HB3.out.size)
 go_wp2
 refine bodyPost_ret (res_ct9 rfl _ _ (w.heap.size + 1) 27 _ (0, 0) _ rfl RZ.out Try.underlying27 rfl (by kernel_rfl)) rfl ?_
 exact ⟨_, rfl, HLZ.out, HZ.out⟩
theorem zget_any (d : Nat → Prop) : ∀ (l : List Stp) (x : Nd) (cs : List Value) (v : Value) (w : World), UndZ d w → LieZ d w cs x → WayV w.heap.size w v l → Few9 x →
  Calls Try.prog 22 #[.agg cs.toArray, v] w (PTreZ d (GetX x l).1 (.bool (GetX x l).2) w) := by
 intro l
 induction l with
 | nil =>
  intro x cs v w hd hx hv _
  obtain ⟨A, c, rfl⟩ := hv.shape
  exact zget_nil x cs A c d w hd hx
 | cons s l ih =>
  intro x cs v w hd hx hv hf
  obtain ⟨A, c, rfl, hk⟩ := hx.shape
  obtain ⟨a, f⟩ := x
  obtain ⟨B, m, rfl⟩ := hv.shape
  obtain ⟨g, o, rfl, hN, hNm, hg, hs1, hs2⟩ := hv.at (j := 0) (s := s) rfl
  have hl : f.len ≤ 1000000 := Nat.le_trans (Fr.len_size f) hf
  cases hfi : findN s f with
  | none =>
   rw [GetX_none hfi]
   exact zget_none d a f A c s g o _ m w (hx.lie hd) hl ⟨by simpa using hs1, by simpa using hs2⟩ hg (by simp) hfi
  | some i =>
   obtain ⟨⟨a1, q⟩, hy, _, _⟩ := find_stp hfi
   rw [GetX_some (x := (a, f)) hfi hy]
   have hI : ∀ (cs : List Value) (v : Value) (W : World), UndZ d W → LieZ d W cs (a1, q) → WayV W.heap.size W v l → Calls Try.prog 22 #[.agg cs.toArray, v] W (PTreZ d ((GetX (a1, q) l).1.1, (GetX (a1, q) l).1.2) (.bool (GetX (a1, q) l).2) W) :=
    fun cs v W h1 h2 h3 => ih (a1, q) cs v W h1 h2 h3 (by have h4 := Fr.size_get hy; have : f.size ≤ 1000000 := hf; show q.size ≤ 1000000; omega)
   by_cases hm : m = 1
   ·exact zget_some_all d a f A c s l g o _ m i a1 q _ _ _ w hd hx hl hv hfi hy hm hI
   ·exact zget_some_part d a f A c s l g o _ m i a1 q _ _ _ w hd hx hl hv hfi hy hm hI
end Go.Proofs.Ythmobcaidhgeaaa
