/- TrvL -/
import Derived.Test.YthmobcaidhgeaaaAM22
set_option linter.unusedSimpArgs false
set_option linter.unusedVariables false
set_option maxRecDepth 100000
set_option maxHeartbeats 8000000
namespace Go.Proofs.Ythmobcaidhgeaaa
open Go.RowKit
def CutR (a : NdD) (f : NdF) (l : List Stp) (w : World) (r : Ending) (w' : World) : Prop := TreP (CutX (a, f) l).1 (.int .i64 ((CutX (a, f) l).2 : Int)) w r w'
theorem cutR_no {a : NdD} {f : NdF} {l : List Stp} {w w' : World} {r : Ending} (h : l = [] ∨ getX (a, f) l = none) (hT : TreP noN (.int .i64 30) w r w') : CutR a f l w r w' := by
 have e : CutX (a, f) l = (noN, 30) := by
  unfold CutX
  by_cases hl : l = []
  ·rw [if_pos hl]
  ·rw [if_neg hl]
   rcases h with h | h
   ·exact absurd h hl
   ·rw [h]
 unfold CutR
 rw [e]
 exact hT
theorem cutR_ok {a : NdD} {f : NdF} {l : List Stp} {z : Nd} {w w' : World} {r : Ending} (hl : l ≠ []) (h : getX (a, f) l = some z) (hT : TreP (cutX (a, f) l) (.int .i64 0) w r w') : CutR a f l w r w' := by
 unfold CutR
 rw [CutX_is hl h]
 exact hT
theorem getX_app {s : Stp} : ∀ (l : List Stp) (x : Nd), getX x (l ++ [s]) = (getX x l).bind (fun p => gtF s p.2) := by
 intro l
 induction l with
 | nil =>
  intro x
  simp only [List.nil_append, getX, Option.bind]
  cases gtF s x.2 <;> rfl
 | cons t l ih =>
  intro x
  simp only [List.cons_append, getX]
  cases gtF t x.2 with
  | none => rfl
  | some z => exact ih z
theorem dcut_nil (a : NdD) (f : NdF) (A B : Option Addr) (c m : Nat) (w : World) (hk : RowT w.heap.size w (.slice A f.len c) f) :
  Calls Try.prog 41 #[.agg (cN a (.slice A f.len c)), .slice B 0 m] w (CutR a f [] w) := by
 obtain ⟨l, hl⟩ : ∃ l : List Stp, l = [] := ⟨_, rfl⟩
 rw [← hl]
 obtain ⟨h1, h2, h3, h4⟩ := get_boxes a f A c w (LieB.make hk)
 have HZ0 := hHd h2
 have HB0 := hHd h3
 have HL := hHd hl
 clear h1 h2 h3 h4 hl
 go_enter Try.func41, Try.ntmps41
 have HQ : Hid (CutR a f l w (.returned (.tuple #[.agg #[.string ⟨#[]⟩, .string ⟨#[]⟩, .int .i64 0, .int .u64 0, .string ⟨#[]⟩, .slice none 0 0], .int .i64 30])) ((w.alloc (.cells (cN a (.slice A f.len c)) 27)).alloc (.cells #[.string ⟨#[]⟩, .string ⟨#[]⟩, .int .i64 0, .int .u64 0, .string ⟨#[]⟩, .slice none 0 0] 27))) := hHd (cutR_no (.inl HL.out) ⟨_, rfl, OwnU.new (a := zeroT) (k := .nil) ⟨[], [], rfl, OwnK.nil _ _ _ _, rfl, rfl⟩, HB0.out⟩)
 go_wp2
 refine bodyPost_ret (res_ct9 rfl _ _ (w.heap.size + 1) 27 _ (0, 0) _ rfl HZ0.out Try.underlying27 rfl (by kernel_rfl)) rfl ?_
 exact HQ.out
theorem dcut_go (a : NdD) (f : NdF) (A B : Option Addr) (c m n : Nat) (l : List Stp) (sl : Stp) (w : World) (hk : RowT w.heap.size w (.slice A f.len c) f) (hf : f.size ≤ 1000000) (hv : WayV w.heap.size w (.slice B (n + 1) m) l) (hs : l[n]? = some sl) (hll : l.length ≤ 1000000) :
  Calls Try.prog 41 #[.agg (cN a (.slice A f.len c)), .slice B (n + 1) m] w (CutR a f l w) := by
 obtain ⟨h1, h2, h3, h4⟩ := get_boxes a f A c w (LieB.make hk)
 obtain ⟨gv, ov, rfl, hvn, hvm, hgv, ht0, ht1⟩ := hv.at hs
 have hn : l.length = n + 1 := hvn.symm
 have HWAY : Hid (∀ W, Below w.heap.size w W → W.cell? ⟨gv, ov + n * 2, none⟩ = some (.string (txt sl.1)) ∧ W.cell? ⟨gv, ov + n * 2 + 1, none⟩ = some (.string (txt sl.2))) := hHd (fun W hW => ⟨(hW.cell (p := ⟨gv, ov + n * 2, none⟩) hgv).trans ht0, (hW.cell (p := ⟨gv, ov + n * 2 + 1, none⟩) hgv).trans ht1⟩)
 have i1 : (0 : Int) ≤ (n : Int) := by omega
 have i2 : (n : Int) ≤ 1000000 := by omega
 have i3 : (n : Int) < (n : Int) + 1 := by omega
 have i4 : decide ((n : Int) < 0) = false := decide_eq_false (by omega)
 have i5 : ¬ (n : Int) < 0 := by omega
 have i6 : (n : Int) ≤ (m : Int) := by omega
 have hs0 : ((w.alloc (.cells (cN a (.slice A f.len c)) 27)).alloc (.cells #[.string ⟨#[]⟩, .string ⟨#[]⟩, .int .i64 0, .int .u64 0, .string ⟨#[]⟩, .slice none 0 0] 27)).heap.size = w.heap.size + 2 := by simp
 have HQ0 : Hid (Blk ((w.alloc (.cells (cN a (.slice A f.len c)) 27)).alloc (.cells #[.string ⟨#[]⟩, .string ⟨#[]⟩, .int .i64 0, .int .u64 0, .string ⟨#[]⟩, .slice none 0 0] 27)) w.heap.size 27 (cN a (.slice A f.len c)) ∧ Blk ((w.alloc (.cells (cN a (.slice A f.len c)) 27)).alloc (.cells #[.string ⟨#[]⟩, .string ⟨#[]⟩, .int .i64 0, .int .u64 0, .string ⟨#[]⟩, .slice none 0 0] 27)) (w.heap.size + 1) 27 #[.string ⟨#[]⟩, .string ⟨#[]⟩, .int .i64 0, .int .u64 0, .string ⟨#[]⟩, .slice none 0 0] ∧ w.heap.size + 2 ≤ ((w.alloc (.cells (cN a (.slice A f.len c)) 27)).alloc (.cells #[.string ⟨#[]⟩, .string ⟨#[]⟩, .int .i64 0, .int .u64 0, .string ⟨#[]⟩, .slice none 0 0] 27)).heap.size) := hHd ⟨h1, h2, Nat.le_of_eq hs0.symm⟩
 have HB0 : Hid (Below w.heap.size w ((w.alloc (.cells (cN a (.slice A f.len c)) 27)).alloc (.cells #[.string ⟨#[]⟩, .string ⟨#[]⟩, .int .i64 0, .int .u64 0, .string ⟨#[]⟩, .slice none 0 0] 27))) := hHd h3
 have HCN : Hid (Calls Try.prog 35 #[.agg (cN a (.slice A f.len c))] ((w.alloc (.cells (cN a (.slice A f.len c)) 27)).alloc (.cells #[.string ⟨#[]⟩, .string ⟨#[]⟩, .int .i64 0, .int .u64 0, .string ⟨#[]⟩, .slice none 0 0] 27)) (CopP a f ((w.alloc (.cells (cN a (.slice A f.len c)) 27)).alloc (.cells #[.string ⟨#[]⟩, .string ⟨#[]⟩, .int .i64 0, .int .u64 0, .string ⟨#[]⟩, .slice none 0 0] 27)))) := hHd (copy_any f a A c ((w.alloc (.cells (cN a (.slice A f.len c)) 27)).alloc (.cells #[.string ⟨#[]⟩, .string ⟨#[]⟩, .int .i64 0, .int .u64 0, .string ⟨#[]⟩, .slice none 0 0] 27)) (hk.under h3 (Nat.le_refl _) h3.size) hf)
 have hll2 : l = l.take n ++ [sl] := by
  have h1 := List.take_append_drop n l
  have h2 : l.drop n = [sl] := by
   rw [List.drop_eq_getElem_cons (by omega), List.drop_eq_nil_of_le (by omega)]
   rw [List.getElem?_eq_getElem (by omega)] at hs
   injection hs with hs
   rw [hs]
  rw [h2] at h1
  exact h1.symm
 have HLNE : Hid (l ≠ []) := hHd (fun e => by rw [e] at hn; simp at hn)
 have HLL2 := hHd hll2
 have HF := hHd hf
 have hvf := WayV.front n (by omega) hv
 have HVF : Hid (∀ W, Below w.heap.size w W → WayV W.heap.size W (.slice (some ⟨gv, ov, none⟩) n m) (l.take n)) := hHd (fun W hW => hvf.under hW (Nat.le_refl _) hW.size)
 have HTL : Hid ((l.take n).length ≤ 1000000) := hHd (by rw [List.length_take]; omega)
 obtain ⟨q0, q1, q2, q3, q4, q5⟩ := cl6 h1
 clear h1 h2 h3 h4 hs0 hv hs hll hvn hvm hgv ht0 ht1 hn hk hf hll2 hvf
 go_enter Try.func41, Try.ntmps41
 go_wp2_with fail
 refine HCN.out.mono ?_
 rintro r w3 ⟨v1, F1, rfl, hU, hnd, hb3⟩
 obtain ⟨A1, c1, rfl⟩ := hU.shape
 have HX3 := hHd (HQ0.out.1.below hb3 HQ0.out.1.lt)
 have HQ3 : Hid (Blk (set6 w3 w.heap.size (.string (txt a.name)) (.string (txt a.key)) (.int .i64 a.kind) (.int .u64 (a.num : Int)) (.string (txt a.text)) (.slice A1 f.len c1)) w.heap.size 27 (cN a (.slice A1 f.len c1)) ∧ Blk (set6 w3 w.heap.size (.string (txt a.name)) (.string (txt a.key)) (.int .i64 a.kind) (.int .u64 (a.num : Int)) (.string (txt a.text)) (.slice A1 f.len c1)) (w.heap.size + 1) 27 #[.string ⟨#[]⟩, .string ⟨#[]⟩, .int .i64 0, .int .u64 0, .string ⟨#[]⟩, .slice none 0 0] ∧ w.heap.size + 2 ≤ (set6 w3 w.heap.size (.string (txt a.name)) (.string (txt a.key)) (.int .i64 a.kind) (.int .u64 (a.num : Int)) (.string (txt a.text)) (.slice A1 f.len c1)).heap.size) := hHd ⟨HX3.out.set6 _ _ _ _ _ _,
  (set6_other (by omega)).trans (HQ0.out.2.1.below hb3 HQ0.out.2.1.lt), by rw [set6_size]; exact Nat.le_trans HQ0.out.2.2 hb3.size⟩
 have HB3 : Hid (Below w.heap.size w (set6 w3 w.heap.size (.string (txt a.name)) (.string (txt a.key)) (.int .i64 a.kind) (.int .u64 (a.num : Int)) (.string (txt a.text)) (.slice A1 f.len c1))) := hHd ((HB0.out.trans (hb3.mono HB0.out.size)).trans (set6_below (Nat.le_refl _)))
 have hF1 : ∀ h, h ∈ F1 → w.heap.size + 2 ≤ h := fun h hh => Nat.le_trans HQ0.out.2.2 (hU.fresh h hh).1
 have HU3 : Hid (OwnU (set6 w3 w.heap.size (.string (txt a.name)) (.string (txt a.key)) (.int .i64 a.kind) (.int .u64 (a.num : Int)) (.string (txt a.text)) (.slice A1 f.len c1)) w.heap.size (.slice A1 f.len c1) f F1) := hHd (hU.keep (fun h hh => set6_other (by have := hF1 h hh; omega)) HB0.out.size)
 have HF1 := hHd hF1
 have HND := hHd hnd
 have HAT : Hid (Calls Try.prog 34 #[.pointer (some ⟨w.heap.size, 0, none⟩), .slice (some ⟨gv, ov, none⟩) n m] (set6 w3 w.heap.size (.string (txt a.name)) (.string (txt a.key)) (.int .i64 a.kind) (.int .u64 (a.num : Int)) (.string (txt a.text)) (.slice A1 f.len c1)) (AtP (a, f) (l.take n) w.heap.size 0 (set6 w3 w.heap.size (.string (txt a.name)) (.string (txt a.key)) (.int .i64 a.kind) (.int .u64 (a.num : Int)) (.string (txt a.text)) (.slice A1 f.len c1)))) := hHd
  (at_any (a, f) (l.take n) w.heap.size 0 _ (set6 w3 w.heap.size (.string (txt a.name)) (.string (txt a.key)) (.int .i64 a.kind) (.int .u64 (a.num : Int)) (.string (txt a.text)) (.slice A1 f.len c1)) (node_box HQ3.out.1 (LieB.row (HU3.out.lies (a := a)))) (HVF.out _ HB3.out) HF.out HTL.out)
 have fz0 : (w3).frozen? ⟨w.heap.size, 0, none⟩ = false := HX3.out.frozen 0
 have fq0 := (HX3.out.cell 0).trans rfl
 have fz1 : (w3).frozen? ⟨w.heap.size, 1, none⟩ = false := HX3.out.frozen 1
 have fq1 := (HX3.out.cell 1).trans rfl
 have fz2 : (w3).frozen? ⟨w.heap.size, 2, none⟩ = false := HX3.out.frozen 2
 have fq2 := (HX3.out.cell 2).trans rfl
 have fz3 : (w3).frozen? ⟨w.heap.size, 3, none⟩ = false := HX3.out.frozen 3
 have fq3 := (HX3.out.cell 3).trans rfl
 have fz4 : (w3).frozen? ⟨w.heap.size, 4, none⟩ = false := HX3.out.frozen 4
 have fq4 := (HX3.out.cell 4).trans rfl
 have fz5 : (w3).frozen? ⟨w.heap.size, 5, none⟩ = false := HX3.out.frozen 5
 have fq5 := (HX3.out.cell 5).trans rfl
 clear hU hnd hb3 hF1 q0 q1 q2 q3 q4 q5
 go_wp2_with fail
 refine HAT.out.mono ?_
 rintro r w4 ⟨hb4, hcase⟩
 have HZ4 := hHd (HQ3.out.2.1.below hb4 HQ3.out.2.1.lt)
 have HB4 := hHd (HB3.out.trans (hb4.mono HB3.out.size))
 clear fz0 fz1 fz2 fz3 fz4 fz5 fq0 fq1 fq2 fq3 fq4 fq5
 rcases hcase with ⟨hno, rfl⟩ | ⟨⟨pa, pf⟩, g', o', hy, rfl, hnd, hpat⟩
 ·have HNO : Hid (getX (a, f) l = none) := hHd (by rw [HLL2.out, getX_app, hno]; rfl)
  clear hno hb4
  have fz0 : (w4).frozen? ⟨w.heap.size + 1, 0, none⟩ = false := HZ4.out.frozen 0
  have fq0 := (HZ4.out.cell 0).trans rfl
  have fz1 : (w4).frozen? ⟨w.heap.size + 1, 1, none⟩ = false := HZ4.out.frozen 1
  have fq1 := (HZ4.out.cell 1).trans rfl
  have fz2 : (w4).frozen? ⟨w.heap.size + 1, 2, none⟩ = false := HZ4.out.frozen 2
  have fq2 := (HZ4.out.cell 2).trans rfl
  have fz3 : (w4).frozen? ⟨w.heap.size + 1, 3, none⟩ = false := HZ4.out.frozen 3
  have fq3 := (HZ4.out.cell 3).trans rfl
  have fz4 : (w4).frozen? ⟨w.heap.size + 1, 4, none⟩ = false := HZ4.out.frozen 4
  have fq4 := (HZ4.out.cell 4).trans rfl
  have fz5 : (w4).frozen? ⟨w.heap.size + 1, 5, none⟩ = false := HZ4.out.frozen 5
  have fq5 := (HZ4.out.cell 5).trans rfl
  have RZ : Hid (Blk (set6 w4 (w.heap.size + 1) (.string ⟨#[]⟩) (.string ⟨#[]⟩) (.int .i64 0) (.int .u64 0) (.string ⟨#[]⟩) (.slice none 0 0)) (w.heap.size + 1) 27 #[.string ⟨#[]⟩, .string ⟨#[]⟩, .int .i64 0, .int .u64 0, .string ⟨#[]⟩, .slice none 0 0]) := hHd (HZ4.out.set6 _ _ _ _ _ _)
  have HQ : Hid (CutR a f l w (.returned (.tuple #[.agg #[.string ⟨#[]⟩, .string ⟨#[]⟩, .int .i64 0, .int .u64 0, .string ⟨#[]⟩, .slice none 0 0], .int .i64 30])) (set6 w4 (w.heap.size + 1) (.string ⟨#[]⟩) (.string ⟨#[]⟩) (.int .i64 0) (.int .u64 0) (.string ⟨#[]⟩) (.slice none 0 0))) := hHd (cutR_no (.inr HNO.out) (zero_tree HB4.out (by omega)))
  go_wp2
  refine bodyPost_ret (res_ct9 rfl _ _ (w.heap.size + 1) 27 _ (0, 0) _ rfl RZ.out Try.underlying27 rfl (by kernel_rfl)) rfl ?_
  exact HQ.out
 ·have hcl1 : ∀ j u, (ndC a (.slice A1 f.len c1))[j]? = some u → (set6 w3 w.heap.size (.string (txt a.name)) (.string (txt a.key)) (.int .i64 a.kind) (.int .u64 (a.num : Int)) (.string (txt a.text)) (.slice A1 f.len c1)).cell? ⟨w.heap.size, 0 + j, none⟩ = some u := fun j u hu => by
   rw [Nat.zero_add, HQ3.out.1.cell]; simpa using hu
  obtain ⟨Fy, k1, k2, k3, k4, k5, k6⟩ := zip_any (set6 w3 w.heap.size (.string (txt a.name)) (.string (txt a.key)) (.int .i64 a.kind) (.int .u64 (a.num : Int)) (.string (txt a.text)) (.slice A1 f.len c1)) w.heap.size (l.take n) (a, f) (pa, pf) w.heap.size 0 g' o' F1 ⟨_, hcl1, HU3.out⟩ HND.out (fun hm => by have := HF1.out _ hm; omega) HQ3.out.1.lt hy hpat
  have hgne : g' ≠ w.heap.size + 1 ∧ w.heap.size ≤ g' ∧ True ∧ g' < (set6 w3 w.heap.size (.string (txt a.name)) (.string (txt a.key)) (.int .i64 a.kind) (.int .u64 (a.num : Int)) (.string (txt a.text)) (.slice A1 f.len c1)).heap.size := by
   rcases k5 with ⟨e, -⟩ | h
   ·have := HQ3.out.1.lt; exact ⟨by omega, by omega, trivial, by omega⟩
   ·have := HF1.out _ h; have := (HU3.out.fresh g' h).lt; exact ⟨by omega, by omega, trivial, by omega⟩
  have hgfr : Fresh9 w.heap.size (set6 w3 w.heap.size (.string (txt a.name)) (.string (txt a.key)) (.int .i64 a.kind) (.int .u64 (a.num : Int)) (.string (txt a.text)) (.slice A1 f.len c1)) g' := by
   rcases k5 with ⟨e, -⟩ | h
   ·rw [e]; exact ⟨Nat.le_refl _, _, _, HQ3.out.1⟩
   ·exact HU3.out.fresh g' h
  have hpsz : pf.len ≤ 1000000 := by
   have h1 := get_size (l.take n) (a, f) (pa, pf) hy
   have h2 := HF.out
   have h3 := Fr.len_size pf
   unfold sizeX at h1
   simp only at h1
   omega
  obtain ⟨hgl, A4, c4, hcl4, hr4⟩ := hnd.below hb4
  have HC4 : Hid (w4.drew.cell? ⟨g', o' + 5, none⟩ = some (.slice A4 pf.len c4)) := hHd (hcl4 5 _ rfl)
  have HGP2 : Hid (getX (a, f) (l.take n) = some (pa, pf)) := hHd hy
  have HB34 : Hid (Below (set6 w3 w.heap.size (.string (txt a.name)) (.string (txt a.key)) (.int .i64 a.kind) (.int .u64 (a.num : Int)) (.string (txt a.text)) (.slice A1 f.len c1)).heap.size (set6 w3 w.heap.size (.string (txt a.name)) (.string (txt a.key)) (.int .i64 a.kind) (.int .u64 (a.num : Int)) (.string (txt a.text)) (.slice A1 f.len c1)) w4) := hHd hb4
  obtain ⟨z, hz⟩ : ∃ z, z = findIx sl pf := ⟨_, rfl⟩
  have HFI : Hid (Calls Try.prog 44 #[.slice A4 pf.len c4, .agg #[.string (txt sl.1), .string (txt sl.2)]] w4.drew (Ans9 (.int .i64 z) w4.drew)) := hHd (by
   rw [hz]; exact find_any sl pf A4 c4 w4.drew (hr4.below (Below.refl _ _).drew) hpsz)
  have HZZ := hHd hz
  have HZD := hHd (HZ4.out.below (Below.refl _ _).drew HZ4.out.lt)
  have K1 := hHd k1
  have K2 := hHd k2
  have K3 := hHd (And.intro k3 k4)
  have K6 := hHd k6
  have HGN := hHd hgne
  have HGR := hHd hgfr
  have HPS := hHd hpsz
  clear hy hnd hpat hcl1 k1 k2 k3 k4 k5 k6 hgne hgfr hpsz hgl hcl4 hr4 hb4 hz
  go_wp2_with fail
  refine wp_region_noPanic ?_
  refine wp_region_held_drew (S := fun _ => True) (by kernel_rfl) trivial (fun hS => ?_)
  refine held_more (S' := fun w' => w'.cell? ⟨g', o' + 5, none⟩ = some (.slice A4 pf.len c4) ∧ (w'.cell? ⟨gv, ov + n * 2, none⟩ = some (.string (txt sl.1)) ∧ w'.cell? ⟨gv, ov + n * 2 + 1, none⟩ = some (.string (txt sl.2)))) (fun _ _ => trivial) _ _ _ _ ?_
  replace hS := And.intro HC4.out (HWAY.out _ HB4.out.drew)
  refine tkH 0 hS ?_
  refine tkH 1 hS ?_
  refine tkH 2 hS ?_
  refine tkH 3 hS ?_ (hy := fun w hSw => by have q5 := hSw.1; (go_simp <;> with_reducible rfl))
  refine tkH 4 hS ?_
  refine tkH 5 hS ?_
  refine tkH 6 hS ?_
  refine tkH 7 hS ?_ (hy := fun w hSw => by have q0 := hSw.2.1; have q1 := hSw.2.2; (go_simp <;> with_reducible rfl))
  refine rdy1 8 fun K hK => ?_
  go_simp
  refine HFI.out.mono ?_
  rintro r w5 ⟨rfl, hb5⟩
  have HB35 := hHd (HB34.out.drew.trans (hb5.mono HB34.out.drew.size))
  have HB5 := hHd (HB4.out.drew.trans (hb5.mono HB4.out.drew.size))
  have HZ5 := hHd (HZD.out.below hb5 HZD.out.lt)
  have HC5 := hHd ((hb5.cell (p := ⟨g', o' + 5, none⟩) (Nat.lt_of_lt_of_le HGN.out.2.2.2 HB34.out.drew.size)).trans HC4.out)
  clear hb5
  go_wp2_with fail
  refine hK.out _ _ ?sr_0 (fun hS => ?_)
  case sr_0 => (exact ⟨HC5.out, HWAY.out _ HB5.out⟩)
  clear hK K
  (try simp only [Act.put, layS])
  refine tkH 9 hS ?_
  refine wpAnyH_done (by kernel_rfl) ?_ _
  refine NoPanic.normal ?_
  clear hS
  cases hfi : findN sl pf with
  | none =>
   have hz2 : z = -1 := by rw [HZZ.out]; unfold findIx; rw [hfi]
   have HNO : Hid (getX (a, f) l = none) := hHd (by rw [HLL2.out, getX_app, HGP2.out]; exact findN_none hfi)
   subst hz2
   clear hfi
   have fz0 : (w5).frozen? ⟨w.heap.size + 1, 0, none⟩ = false := HZ5.out.frozen 0
   have fq0 := (HZ5.out.cell 0).trans rfl
   have fz1 : (w5).frozen? ⟨w.heap.size + 1, 1, none⟩ = false := HZ5.out.frozen 1
   have fq1 := (HZ5.out.cell 1).trans rfl
   have fz2 : (w5).frozen? ⟨w.heap.size + 1, 2, none⟩ = false := HZ5.out.frozen 2
   have fq2 := (HZ5.out.cell 2).trans rfl
   have fz3 : (w5).frozen? ⟨w.heap.size + 1, 3, none⟩ = false := HZ5.out.frozen 3
   have fq3 := (HZ5.out.cell 3).trans rfl
   have fz4 : (w5).frozen? ⟨w.heap.size + 1, 4, none⟩ = false := HZ5.out.frozen 4
   have fq4 := (HZ5.out.cell 4).trans rfl
   have fz5 : (w5).frozen? ⟨w.heap.size + 1, 5, none⟩ = false := HZ5.out.frozen 5
   have fq5 := (HZ5.out.cell 5).trans rfl
   have RZ : Hid (Blk (set6 w5 (w.heap.size + 1) (.string ⟨#[]⟩) (.string ⟨#[]⟩) (.int .i64 0) (.int .u64 0) (.string ⟨#[]⟩) (.slice none 0 0)) (w.heap.size + 1) 27 #[.string ⟨#[]⟩, .string ⟨#[]⟩, .int .i64 0, .int .u64 0, .string ⟨#[]⟩, .slice none 0 0]) := hHd (HZ5.out.set6 _ _ _ _ _ _)
   have HQ : Hid (CutR a f l w (.returned (.tuple #[.agg #[.string ⟨#[]⟩, .string ⟨#[]⟩, .int .i64 0, .int .u64 0, .string ⟨#[]⟩, .slice none 0 0], .int .i64 30])) (set6 w5 (w.heap.size + 1) (.string ⟨#[]⟩) (.string ⟨#[]⟩) (.int .i64 0) (.int .u64 0) (.string ⟨#[]⟩) (.slice none 0 0))) := hHd (cutR_no (.inr HNO.out) (zero_tree HB5.out (by omega)))
   go_wp2
   refine bodyPost_ret (res_ct9 rfl _ _ (w.heap.size + 1) 27 _ (0, 0) _ rfl RZ.out Try.underlying27 rfl (by kernel_rfl)) rfl ?_
   exact HQ.out
  | some i =>
   obtain ⟨⟨ka, kf⟩, hgt, -, hgf⟩ := find_stp hfi
   have hz2 : z = (i : Int) := by rw [HZZ.out]; unfold findIx; rw [hfi]
   have hi := Fr.get_lt hgt
   obtain ⟨v, hclv, hUv⟩ := K1.out
   obtain ⟨b, c9, rfl⟩ := hUv.slice_is hgt
   have hC3 : (set6 w3 w.heap.size (.string (txt a.name)) (.string (txt a.key)) (.int .i64 a.kind) (.int .u64 (a.num : Int)) (.string (txt a.text)) (.slice A1 f.len c1)).cell? ⟨g', o' + 5, none⟩ = some (.slice (some ⟨b, 0, none⟩) pf.len c9) := hclv 5 _ rfl
   have hC5 : w5.cell? ⟨g', o' + 5, none⟩ = some (.slice (some ⟨b, 0, none⟩) pf.len c9) := (HB35.out.cell (p := ⟨g', o' + 5, none⟩) HGN.out.2.2.2).trans hC3
   obtain ⟨zs, F0, hFy, hK, hT⟩ := hUv
   obtain ⟨xs1, v1, xs2, G1, Gk, G2, rfl, rfl, hx1, hT1, hUk, hT2⟩ := hT.at hgt
   obtain ⟨cur, hbk, hnc, hcm, hcs, htk, hbb⟩ := row_is hK
   have hnc : pf.len ≤ c9 := hnc
   have hx2 : xs2.length = (pf.len - (i + 1)) * 6 := by rw [hT2.len, Fr.len_drop]
   have HROW : Hid (xs1.length = i * 6 ∧ xs2.length = (pf.len - (i + 1)) * 6 ∧ (∀ u ∈ xs1, u.oneCell' = true) ∧ (∀ u ∈ xs2, u.oneCell' = true) ∧ ∀ j u, (xs1 ++ (ndC ka v1 ++ xs2))[j]? = some u → (set6 w3 w.heap.size (.string (txt a.name)) (.string (txt a.key)) (.int .i64 a.kind) (.int .u64 (a.num : Int)) (.string (txt a.text)) (.slice A1 f.len c1)).cell? ⟨b, j, none⟩ = some u) := hHd
    ⟨hx1, hx2, (hT1.row (S := fun g => g ∈ G1) (fun _ h => h)).oneCell one_na, (hT2.row (S := fun g => g ∈ G2) (fun _ h => h)).oneCell one_na, fun j u hj => by
     have hjl := (List.getElem?_eq_some_iff.1 hj).1
     have := hK.1
     rw [World.ownsRow.cellAt hK j (by omega)]
     exact hj⟩
   have HBL : Hid (b < (set6 w3 w.heap.size (.string (txt a.name)) (.string (txt a.key)) (.int .i64 a.kind) (.int .u64 (a.num : Int)) (.string (txt a.text)) (.slice A1 f.len c1)).heap.size) := hHd hbk.lt
   have HCUT : Hid (∀ (w6 : World) (v' : Value), Below (set6 w3 w.heap.size (.string (txt a.name)) (.string (txt a.key)) (.int .i64 a.kind) (.int .u64 (a.num : Int)) (.string (txt a.text)) (.slice A1 f.len c1)).heap.size (set6 w3 w.heap.size (.string (txt a.name)) (.string (txt a.key)) (.int .i64 a.kind) (.int .u64 (a.num : Int)) (.string (txt a.text)) (.slice A1 f.len c1)) w6 → OwnK 27 6 w6 w.heap.size v' (pf.len - 1) (xs1 ++ xs2) → (∀ h, v'.ownBlock = some h → (set6 w3 w.heap.size (.string (txt a.name)) (.string (txt a.key)) (.int .i64 a.kind) (.int .u64 (a.num : Int)) (.string (txt a.text)) (.slice A1 f.len c1)).heap.size ≤ h) → ChgN w.heap.size g' o' (pa, withF pf i 1 .nil) Fy [] (set6 w3 w.heap.size (.string (txt a.name)) (.string (txt a.key)) (.int .i64 a.kind) (.int .u64 (a.num : Int)) (.string (txt a.text)) (.slice A1 f.len c1)) (w6.setCell ⟨g', o' + 5, none⟩ v')) := hHd (fun w6 v' h1 h2 h3 => by
    have hnd := K3.out.1
    have hgn := K3.out.2
    rw [hFy] at hnd hgn ⊢
    exact cut_sit hclv hgt hT1 hT2 hnd hgn HGR.out h1 HB3.out.size h2 h3)
   have HGX : Hid (getX (a, f) l = some (ka, kf)) := hHd (by rw [HLL2.out, getX_app, HGP2.out]; exact hgf)
   obtain ⟨XF, hXF⟩ : ∃ XF, XF = (cutX (a, f) l).2 := ⟨_, rfl⟩
   have hcx : cutX (a, f) l = (a, XF) := by
    rw [hXF]
    exact Prod.ext cut_fst rfl
   have HCX := hHd hcx
   have HXX : Hid (replX (a, f) (l.take n) (pa, withF pf i 1 .nil) = (a, XF)) := hHd (by
    rw [with_del hfi, repl_cut (l.take n) (a, f) (pa, pf) sl HGP2.out, ← HLL2.out]
    exact hcx)
   have j1 : (0 : Int) ≤ (i : Int) := by omega
   have j2 : (i : Int) < (pf.len : Int) := by omega
   have j3 : decide ((i : Int) < 0) = false := decide_eq_false (by omega)
   have j4 : ¬ (i : Int) < 0 := by omega
   have j5 : (pf.len : Int) ≤ (c9 : Int) := by omega
   have j6 : (i : Int) ≤ (c9 : Int) := by omega
   have j7 : i ≤ c9 := by omega
   have j8 : (pf.len : Int) ≤ 1000000 := by have := HPS.out; omega
   have jw : IntKind.i64.wrap ((i : Int) + 1) = (i : Int) + 1 := Go.IntWalk.i64_in _ (by omega)
   have jn : ((i : Int) + 1).toNat = i + 1 := by omega
   have JW := hHd (And.intro jw jn)
   have HC3 := hHd hC3
   have HC5 := hHd hC5
   subst hz2
   clear hfi hgt hgf hclv hC3 hC5 hFy hK hT hx1 hT1 hUk hT2 hbk hnc hcm hcs htk hbb hx2 hXF hcx jw jn
   by_cases hcc : c9 = i + 1
   ·have hpl : pf.len = i + 1 := by omega
    have HPL := hHd hpl
    subst hcc
    clear hpl
    go_wp2_with fail
    have HBI : Hid (Below (set6 w3 w.heap.size (.string (txt a.name)) (.string (txt a.key)) (.int .i64 a.kind) (.int .u64 (a.num : Int)) (.string (txt a.text)) (.slice A1 f.len c1)).heap.size (set6 w3 w.heap.size (.string (txt a.name)) (.string (txt a.key)) (.int .i64 a.kind) (.int .u64 (a.num : Int)) (.string (txt a.text)) (.slice A1 f.len c1)) (w5.alloc (.cells #[.slice (some ⟨b, 0, none⟩) i (i + 1), .slice (some ⟨b, 0, none⟩) 0 0] 25)).drew) := hHd ((HB35.out.alloc HB35.out.size _).drew)
    have HCC : Hid (Calls Try.prog 50 #[.slice (some ⟨w5.heap.size, 0, none⟩) 2 2] (w5.alloc (.cells #[.slice (some ⟨b, 0, none⟩) i (i + 1), .slice (some ⟨b, 0, none⟩) 0 0] 25)).drew (CatP i (xs1 ++ xs2) (w5.alloc (.cells #[.slice (some ⟨b, 0, none⟩) i (i + 1), .slice (some ⟨b, 0, none⟩) 0 0] 25)).drew)) := hHd (by
     obtain ⟨hx1, hx2, ho1, ho2, hce⟩ := HROW.out
     refine cat_any w5.heap.size ⟨b, 0, none⟩ ⟨b, 0, none⟩ i 0 (i + 1) 0 xs1 xs2 (w5.alloc (.cells #[.slice (some ⟨b, 0, none⟩) i (i + 1), .slice (some ⟨b, 0, none⟩) 0 0] 25)).drew (show Blk (w5.alloc (.cells #[.slice (some ⟨b, 0, none⟩) i (i + 1), .slice (some ⟨b, 0, none⟩) 0 0] 25)) w5.heap.size 25 _ from Blk.new w5 25 _) hx1 (by have := HPL.out; omega) (fun j x hj => ?_) (fun j x hj => ?_) ho1 ho2 (by omega)
     ·rw [add_lit9, Nat.zero_add]
      have hjl := (List.getElem?_eq_some_iff.1 hj).1
      refine (HBI.out.cell (p := ⟨b, j, none⟩) HBL.out).trans (hce j x ?_)
      rw [List.getElem?_append_left hjl]
      exact hj
     ·exact absurd (List.getElem?_eq_some_iff.1 hj).1 (by have := HPL.out; omega))
    refine wp_region_noPanic ?_
    refine wp_region_held_drew (S := fun _ => True) (by kernel_rfl) trivial (fun hS => ?_)
    replace hS := hS
    refine tkH 0 hS ?_
    refine tkH 1 hS ?_
    refine tkH 2 hS ?_
    refine tkH 3 hS ?_
    refine tkH 5 hS ?_
    refine tkH 7 hS ?_
    refine tkH 8 hS ?_
    refine tkH 9 hS ?_
    refine tkH 11 hS ?_
    refine tkH 12 hS ?_ (hy := fun w hSw => by have jw := JW.out.1; (go_simp <;> with_reducible rfl))
    refine rdy [4, 10] (rdC (fun K hK => ?str_1) (rdC (fun K hK => ?str_2) .nil))
    case' str_1 =>
     have q5 : w5.cell? ⟨g', o' + 5, none⟩ = some (.slice (some ⟨b, 0, none⟩) pf.len (i + 1)) := HC5.out
     go_simp
     refine hK.out _ _ ?sr_1 (fun hS => ?_)
     case sr_1 => (exact hS)
     clear hK K
     (try simp only [Act.put, layS])
     refine tkH 6 hS ?_ (hy := fun w hSw => by have k3 : (i : Int) ≤ (i : Int) + 1 := (by omega); (go_simp <;> with_reducible rfl))
     refine rdy1 10 fun K hK => ?_
     have q5 : w5.cell? ⟨g', o' + 5, none⟩ = some (.slice (some ⟨b, 0, none⟩) pf.len (i + 1)) := HC5.out
     go_simp
     refine hK.out _ _ ?sr_3 (fun hS => ?_)
     case sr_3 => (exact hS)
     clear hK K
     (try simp only [Act.put, layS])
     refine tkH 13 hS ?_ (hy := fun w hSw => by have jn := JW.out.2; have k1 : (0 : Int) ≤ (i : Int) + 1 := (by omega); have k2 : (i : Int) + 1 ≤ (pf.len : Int) := (by omega); have k4 : i + 1 ≤ pf.len := (by omega); (go_simp <;> with_reducible rfl))
     refine rdy1 14 fun K hK => ?_
     go_simp
     refine hK.out _ _ ?sr_4 (fun hS => ?_)
     case sr_4 => (exact hS)
     clear hK K
     (try simp only [Act.put, layS])
     refine rdy1 15 fun K hK => ?_
     go_simp
     refine HCC.out.mono ?_
     rintro r w6 ⟨v6, rfl, k6, hb6⟩
     obtain ⟨A6, c6, rfl⟩ := k6.shape
     have HB6 := hHd (HBI.out.trans (hb6.mono HBI.out.size))
     have HK6 := hHd (And.intro k6 hb6)
     clear k6 hb6
     go_wp2_with fail
     refine hK.out _ _ ?sr_5 (fun hS => ?_)
     case sr_5 => (exact hS)
     clear hK K
     (try simp only [Act.put, layS])
     refine tkH 16 hS ?_
     refine tkH 17 hS ?_
     refine rdy1 18 fun K hK => ?_
     have fz5 : w6.frozen? ⟨g', o' + 5, none⟩ = false := (HB6.out.frozen (p := ⟨g', o' + 5, none⟩) HGN.out.2.2.2).trans (by obtain ⟨-, cs, t, h⟩ := HGR.out; simp [World.frozen?, h])
     have fq5 : w6.cell? ⟨g', o' + 5, none⟩ = some (.slice (some ⟨b, 0, none⟩) pf.len (i + 1)) := (HB6.out.cell (p := ⟨g', o' + 5, none⟩) HGN.out.2.2.2).trans HC3.out
     go_simp
     refine hK.out _ _ ?sr_6 (fun hS => ?_)
     case sr_6 => (exact hS)
     clear hK K
     (try simp only [Act.put, layS])
     refine wpAnyH_done (by kernel_rfl) ?_ _
     refine NoPanic.normal ?_
    case' str_2 =>
     have q5 : w5.cell? ⟨g', o' + 5, none⟩ = some (.slice (some ⟨b, 0, none⟩) pf.len (i + 1)) := HC5.out
     go_simp
     refine hK.out _ _ ?sr_2 (fun hS => ?_)
     case sr_2 => (exact hS)
     clear hK K
     (try simp only [Act.put, layS])
     refine tkH 13 hS ?_ (hy := fun w hSw => by have jn := JW.out.2; have k1 : (0 : Int) ≤ (i : Int) + 1 := (by omega); have k2 : (i : Int) + 1 ≤ (pf.len : Int) := (by omega); have k4 : i + 1 ≤ pf.len := (by omega); (go_simp <;> with_reducible rfl))
     refine rdy1 4 fun K hK => ?_
     have q5 : w5.cell? ⟨g', o' + 5, none⟩ = some (.slice (some ⟨b, 0, none⟩) pf.len (i + 1)) := HC5.out
     go_simp
     refine hK.out _ _ ?sr_7 (fun hS => ?_)
     case sr_7 => (exact hS)
     clear hK K
     (try simp only [Act.put, layS])
     refine tkH 6 hS ?_ (hy := fun w hSw => by have k3 : (i : Int) ≤ (i : Int) + 1 := (by omega); (go_simp <;> with_reducible rfl))
     refine rdy1 14 fun K hK => ?_
     go_simp
     refine hK.out _ _ ?sr_8 (fun hS => ?_)
     case sr_8 => (exact hS)
     clear hK K
     (try simp only [Act.put, layS])
     refine rdy1 15 fun K hK => ?_
     go_simp
     refine HCC.out.mono ?_
     rintro r w6 ⟨v6, rfl, k6, hb6⟩
     obtain ⟨A6, c6, rfl⟩ := k6.shape
     have HB6 := hHd (HBI.out.trans (hb6.mono HBI.out.size))
     have HK6 := hHd (And.intro k6 hb6)
     clear k6 hb6
     go_wp2_with fail
     refine hK.out _ _ ?sr_9 (fun hS => ?_)
     case sr_9 => (exact hS)
     clear hK K
     (try simp only [Act.put, layS])
     refine tkH 16 hS ?_
     refine tkH 17 hS ?_
     refine rdy1 18 fun K hK => ?_
     have fz5 : w6.frozen? ⟨g', o' + 5, none⟩ = false := (HB6.out.frozen (p := ⟨g', o' + 5, none⟩) HGN.out.2.2.2).trans (by obtain ⟨-, cs, t, h⟩ := HGR.out; simp [World.frozen?, h])
     have fq5 : w6.cell? ⟨g', o' + 5, none⟩ = some (.slice (some ⟨b, 0, none⟩) pf.len (i + 1)) := (HB6.out.cell (p := ⟨g', o' + 5, none⟩) HGN.out.2.2.2).trans HC3.out
     go_simp
     refine hK.out _ _ ?sr_a (fun hS => ?_)
     case sr_a => (exact hS)
     clear hK K
     (try simp only [Act.put, layS])
     refine wpAnyH_done (by kernel_rfl) ?_ _
     refine NoPanic.normal ?_
    all_goals clear hS
    all_goals
     obtain ⟨Fy', m1, m2, m3, m4, m5, m6, m7⟩ := HCUT.out w6 (.slice A6 i c6) HB6.out (by
       have h := HK6.out.1
       rw [show pf.len - 1 = i by have := HPL.out; omega]
       exact OwnK.mono h (Nat.le_trans HB3.out.size HBI.out.size))
      (fun h e => by
       have h1 := (HK6.out.1.lt h e).1
       have h2 := HBI.out.size
       omega)
     obtain ⟨F', n1, n2, n3, n4⟩ := K6.out _ (pa, withF pf i 1 .nil) Fy' m1 m2 m3 (fun h hh => by
       rcases m4 h hh with h3 | h3 | h3
       ·exact .inl h3
       ·cases h3
       ·exact .inr h3) m5 m6
     rw [HXX.out] at n1
     obtain ⟨v', ncl, nU⟩ := n1
     obtain ⟨A7, c7, rfl⟩ := nU.shape
     have HZ7 : Hid (Blk (w6.setCell ⟨g', o' + 5, none⟩ (.slice A6 i c6)) (w.heap.size + 1) 27 #[.string ⟨#[]⟩, .string ⟨#[]⟩, .int .i64 0, .int .u64 0, .string ⟨#[]⟩, .slice none 0 0]) := hHd ((m6 _ HQ3.out.2.1.lt (fun e => HGN.out.1 e.symm) (fun hm => by have := HF1.out _ (K2.out _ hm); omega)).trans HQ3.out.2.1)
     have RZ : Hid (Blk (set6 (w6.setCell ⟨g', o' + 5, none⟩ (.slice A6 i c6)) (w.heap.size + 1) (.string (txt a.name)) (.string (txt a.key)) (.int .i64 a.kind) (.int .u64 (a.num : Int)) (.string (txt a.text)) (.slice A7 XF.len c7)) (w.heap.size + 1) 27 (cN a (.slice A7 XF.len c7))) := hHd (HZ7.out.set6 _ _ _ _ _ _)
     have HQ : Hid (CutR a f l w (.returned (.tuple #[.agg (cN a (.slice A7 XF.len c7)), .int .i64 0])) (set6 (w6.setCell ⟨g', o' + 5, none⟩ (.slice A6 i c6)) (w.heap.size + 1) (.string (txt a.name)) (.string (txt a.key)) (.int .i64 a.kind) (.int .u64 (a.num : Int)) (.string (txt a.text)) (.slice A7 XF.len c7))) := hHd (by
      refine cutR_ok HLNE.out HGX.out ?_
      rw [HCX.out]
      have h0 := HQ3.out.2.2
      exact ⟨_, rfl, OwnU.new (a := a) (nU.keep (fun h hh => set6_other (by rcases n4 h hh with h1 | h1; have := HF1.out h h1; omega; omega)) (Nat.le_refl _)), (HB3.out.trans m7).trans (set6_below (by omega))⟩)
     have p0 : ((w6.setCell ⟨g', o' + 5, none⟩ (.slice A6 i c6))).cell? ⟨w.heap.size, 0, none⟩ = _ := ncl 0 _ rfl
     have p1 : ((w6.setCell ⟨g', o' + 5, none⟩ (.slice A6 i c6))).cell? ⟨w.heap.size, 1, none⟩ = _ := ncl 1 _ rfl
     have p2 : ((w6.setCell ⟨g', o' + 5, none⟩ (.slice A6 i c6))).cell? ⟨w.heap.size, 2, none⟩ = _ := ncl 2 _ rfl
     have p3 : ((w6.setCell ⟨g', o' + 5, none⟩ (.slice A6 i c6))).cell? ⟨w.heap.size, 3, none⟩ = _ := ncl 3 _ rfl
     have p4 : ((w6.setCell ⟨g', o' + 5, none⟩ (.slice A6 i c6))).cell? ⟨w.heap.size, 4, none⟩ = _ := ncl 4 _ rfl
     have p5 : ((w6.setCell ⟨g', o' + 5, none⟩ (.slice A6 i c6))).cell? ⟨w.heap.size, 5, none⟩ = _ := ncl 5 _ rfl
     have fz0 : ((w6.setCell ⟨g', o' + 5, none⟩ (.slice A6 i c6))).frozen? ⟨w.heap.size + 1, 0, none⟩ = false := HZ7.out.frozen 0
     have fq0 := (HZ7.out.cell 0).trans rfl
     have fz1 : ((w6.setCell ⟨g', o' + 5, none⟩ (.slice A6 i c6))).frozen? ⟨w.heap.size + 1, 1, none⟩ = false := HZ7.out.frozen 1
     have fq1 := (HZ7.out.cell 1).trans rfl
     have fz2 : ((w6.setCell ⟨g', o' + 5, none⟩ (.slice A6 i c6))).frozen? ⟨w.heap.size + 1, 2, none⟩ = false := HZ7.out.frozen 2
     have fq2 := (HZ7.out.cell 2).trans rfl
     have fz3 : ((w6.setCell ⟨g', o' + 5, none⟩ (.slice A6 i c6))).frozen? ⟨w.heap.size + 1, 3, none⟩ = false := HZ7.out.frozen 3
     have fq3 := (HZ7.out.cell 3).trans rfl
     have fz4 : ((w6.setCell ⟨g', o' + 5, none⟩ (.slice A6 i c6))).frozen? ⟨w.heap.size + 1, 4, none⟩ = false := HZ7.out.frozen 4
     have fq4 := (HZ7.out.cell 4).trans rfl
     have fz5 : ((w6.setCell ⟨g', o' + 5, none⟩ (.slice A6 i c6))).frozen? ⟨w.heap.size + 1, 5, none⟩ = false := HZ7.out.frozen 5
     have fq5 := (HZ7.out.cell 5).trans rfl
     clear m1 m2 m3 m4 m5 m6 m7 n2 n3 n4 ncl nU
     revert RZ HQ p0 p1 p2 p3 p4 p5 fz0 fz1 fz2 fz3 fz4 fz5 fq0 fq1 fq2 fq3 fq4 fq5
     generalize (w6.setCell ⟨g', o' + 5, none⟩ (.slice A6 i c6)) = w7
     intro RZ HQ p0 p1 p2 p3 p4 p5 fz0 fz1 fz2 fz3 fz4 fz5 fq0 fq1 fq2 fq3 fq4 fq5
     go_wp2
     refine bodyPost_ret (res_ct9 rfl _ _ (w.heap.size + 1) 27 _ (0, 0) _ rfl RZ.out Try.underlying27 rfl (by kernel_rfl)) rfl ?_
     exact HQ.out
   ·have HPL := hHd hcc
    go_wp2_with fail
    have HBI : Hid (Below (set6 w3 w.heap.size (.string (txt a.name)) (.string (txt a.key)) (.int .i64 a.kind) (.int .u64 (a.num : Int)) (.string (txt a.text)) (.slice A1 f.len c1)).heap.size (set6 w3 w.heap.size (.string (txt a.name)) (.string (txt a.key)) (.int .i64 a.kind) (.int .u64 (a.num : Int)) (.string (txt a.text)) (.slice A1 f.len c1)) (w5.alloc (.cells #[.slice (some ⟨b, 0, none⟩) i c9, .slice (some ⟨b, (i + 1) * 6, none⟩) (pf.len - (i + 1)) (c9 - (i + 1))] 25)).drew) := hHd ((HB35.out.alloc HB35.out.size _).drew)
    have HCC : Hid (Calls Try.prog 50 #[.slice (some ⟨w5.heap.size, 0, none⟩) 2 2] (w5.alloc (.cells #[.slice (some ⟨b, 0, none⟩) i c9, .slice (some ⟨b, (i + 1) * 6, none⟩) (pf.len - (i + 1)) (c9 - (i + 1))] 25)).drew (CatP (i + (pf.len - (i + 1))) (xs1 ++ xs2) (w5.alloc (.cells #[.slice (some ⟨b, 0, none⟩) i c9, .slice (some ⟨b, (i + 1) * 6, none⟩) (pf.len - (i + 1)) (c9 - (i + 1))] 25)).drew)) := hHd (by
     obtain ⟨hx1, hx2, ho1, ho2, hce⟩ := HROW.out
     refine cat_any w5.heap.size ⟨b, 0, none⟩ ⟨b, (i + 1) * 6, none⟩ i (pf.len - (i + 1)) c9 (c9 - (i + 1)) xs1 xs2 (w5.alloc (.cells #[.slice (some ⟨b, 0, none⟩) i c9, .slice (some ⟨b, (i + 1) * 6, none⟩) (pf.len - (i + 1)) (c9 - (i + 1))] 25)).drew (show Blk (w5.alloc (.cells #[.slice (some ⟨b, 0, none⟩) i c9, .slice (some ⟨b, (i + 1) * 6, none⟩) (pf.len - (i + 1)) (c9 - (i + 1))] 25)) w5.heap.size 25 _ from Blk.new w5 25 _) hx1 (hx2) (fun j x hj => ?_) (fun j x hj => ?_) ho1 ho2 (by omega)
     ·rw [add_lit9, Nat.zero_add]
      have hjl := (List.getElem?_eq_some_iff.1 hj).1
      refine (HBI.out.cell (p := ⟨b, j, none⟩) HBL.out).trans (hce j x ?_)
      rw [List.getElem?_append_left hjl]
      exact hj
     ·(rw [add_lit9]; refine (HBI.out.cell (p := ⟨b, (i + 1) * 6 + j, none⟩) HBL.out).trans (hce _ x ?_); rw [List.getElem?_append_right (by omega), List.getElem?_append_right (by simp; omega), show (i + 1) * 6 + j - xs1.length - (ndC ka v1).length = j by simp; omega]; exact hj))
    refine wp_region_noPanic ?_
    refine wp_region_held_drew (S := fun _ => True) (by kernel_rfl) trivial (fun hS => ?_)
    replace hS := hS
    refine tkH 0 hS ?_
    refine tkH 1 hS ?_
    refine tkH 2 hS ?_
    refine tkH 3 hS ?_
    refine tkH 5 hS ?_
    refine tkH 7 hS ?_
    refine tkH 8 hS ?_
    refine tkH 9 hS ?_
    refine tkH 11 hS ?_
    refine tkH 12 hS ?_ (hy := fun w hSw => by have jw := JW.out.1; (go_simp <;> with_reducible rfl))
    refine rdy [4, 10] (rdC (fun K hK => ?str_b) (rdC (fun K hK => ?str_c) .nil))
    case' str_b =>
     have q5 : w5.cell? ⟨g', o' + 5, none⟩ = some (.slice (some ⟨b, 0, none⟩) pf.len c9) := HC5.out
     go_simp
     refine hK.out _ _ ?sr_b (fun hS => ?_)
     case sr_b => (exact hS)
     clear hK K
     (try simp only [Act.put, layS])
     refine tkH 6 hS ?_ (hy := fun w hSw => by have k3 : (i : Int) ≤ (i : Int) + 1 := (by omega); (go_simp <;> with_reducible rfl))
     refine rdy1 10 fun K hK => ?_
     have q5 : w5.cell? ⟨g', o' + 5, none⟩ = some (.slice (some ⟨b, 0, none⟩) pf.len c9) := HC5.out
     go_simp
     refine hK.out _ _ ?sr_d (fun hS => ?_)
     case sr_d => (exact hS)
     clear hK K
     (try simp only [Act.put, layS])
     refine tkH 13 hS ?_ (hy := fun w hSw => by have jn := JW.out.2; have k1 : (0 : Int) ≤ (i : Int) + 1 := (by omega); have k2 : (i : Int) + 1 ≤ (pf.len : Int) := (by omega); have k4 : i + 1 ≤ pf.len := (by omega); (go_simp <;> with_reducible rfl))
     refine rdy1 14 fun K hK => ?_
     go_simp
     refine hK.out _ _ ?sr_e (fun hS => ?_)
     case sr_e => (exact hS)
     clear hK K
     (try simp only [Act.put, layS])
     refine rdy1 15 fun K hK => ?_
     go_simp
     refine HCC.out.mono ?_
     rintro r w6 ⟨v6, rfl, k6, hb6⟩
     obtain ⟨A6, c6, rfl⟩ := k6.shape
     have HB6 := hHd (HBI.out.trans (hb6.mono HBI.out.size))
     have HK6 := hHd (And.intro k6 hb6)
     clear k6 hb6
     go_wp2_with fail
     refine hK.out _ _ ?sr_f (fun hS => ?_)
     case sr_f => (exact hS)
     clear hK K
     (try simp only [Act.put, layS])
     refine tkH 16 hS ?_
     refine tkH 17 hS ?_
     refine rdy1 18 fun K hK => ?_
     have fz5 : w6.frozen? ⟨g', o' + 5, none⟩ = false := (HB6.out.frozen (p := ⟨g', o' + 5, none⟩) HGN.out.2.2.2).trans (by obtain ⟨-, cs, t, h⟩ := HGR.out; simp [World.frozen?, h])
     have fq5 : w6.cell? ⟨g', o' + 5, none⟩ = some (.slice (some ⟨b, 0, none⟩) pf.len c9) := (HB6.out.cell (p := ⟨g', o' + 5, none⟩) HGN.out.2.2.2).trans HC3.out
     go_simp
     refine hK.out _ _ ?sr_g (fun hS => ?_)
     case sr_g => (exact hS)
     clear hK K
     (try simp only [Act.put, layS])
     refine wpAnyH_done (by kernel_rfl) ?_ _
     refine NoPanic.normal ?_
    case' str_c =>
     have q5 : w5.cell? ⟨g', o' + 5, none⟩ = some (.slice (some ⟨b, 0, none⟩) pf.len c9) := HC5.out
     go_simp
     refine hK.out _ _ ?sr_c (fun hS => ?_)
     case sr_c => (exact hS)
     clear hK K
     (try simp only [Act.put, layS])
     refine tkH 13 hS ?_ (hy := fun w hSw => by have jn := JW.out.2; have k1 : (0 : Int) ≤ (i : Int) + 1 := (by omega); have k2 : (i : Int) + 1 ≤ (pf.len : Int) := (by omega); have k4 : i + 1 ≤ pf.len := (by omega); (go_simp <;> with_reducible rfl))
     refine rdy1 4 fun K hK => ?_
     have q5 : w5.cell? ⟨g', o' + 5, none⟩ = some (.slice (some ⟨b, 0, none⟩) pf.len c9) := HC5.out
     go_simp
     refine hK.out _ _ ?sr_h (fun hS => ?_)
     case sr_h => (exact hS)
     clear hK K
     (try simp only [Act.put, layS])
     refine tkH 6 hS ?_ (hy := fun w hSw => by have k3 : (i : Int) ≤ (i : Int) + 1 := (by omega); (go_simp <;> with_reducible rfl))
     refine rdy1 14 fun K hK => ?_
     go_simp
     refine hK.out _ _ ?sr_i (fun hS => ?_)
     case sr_i => (exact hS)
     clear hK K
     (try simp only [Act.put, layS])
     refine rdy1 15 fun K hK => ?_
     go_simp
     refine HCC.out.mono ?_
     rintro r w6 ⟨v6, rfl, k6, hb6⟩
     obtain ⟨A6, c6, rfl⟩ := k6.shape
     have HB6 := hHd (HBI.out.trans (hb6.mono HBI.out.size))
     have HK6 := hHd (And.intro k6 hb6)
     clear k6 hb6
     go_wp2_with fail
     refine hK.out _ _ ?sr_j (fun hS => ?_)
     case sr_j => (exact hS)
     clear hK K
     (try simp only [Act.put, layS])
     refine tkH 16 hS ?_
     refine tkH 17 hS ?_
     refine rdy1 18 fun K hK => ?_
     have fz5 : w6.frozen? ⟨g', o' + 5, none⟩ = false := (HB6.out.frozen (p := ⟨g', o' + 5, none⟩) HGN.out.2.2.2).trans (by obtain ⟨-, cs, t, h⟩ := HGR.out; simp [World.frozen?, h])
     have fq5 : w6.cell? ⟨g', o' + 5, none⟩ = some (.slice (some ⟨b, 0, none⟩) pf.len c9) := (HB6.out.cell (p := ⟨g', o' + 5, none⟩) HGN.out.2.2.2).trans HC3.out
     go_simp
     refine hK.out _ _ ?sr_k (fun hS => ?_)
     case sr_k => (exact hS)
     clear hK K
     (try simp only [Act.put, layS])
     refine wpAnyH_done (by kernel_rfl) ?_ _
     refine NoPanic.normal ?_
    all_goals clear hS
    all_goals
     obtain ⟨Fy', m1, m2, m3, m4, m5, m6, m7⟩ := HCUT.out w6 (.slice A6 (i + (pf.len - (i + 1))) c6) HB6.out (by
       have h := HK6.out.1
       rw [show pf.len - 1 = (i + (pf.len - (i + 1))) by have := HPL.out; omega]
       exact OwnK.mono h (Nat.le_trans HB3.out.size HBI.out.size))
      (fun h e => by
       have h1 := (HK6.out.1.lt h e).1
       have h2 := HBI.out.size
       omega)
     obtain ⟨F', n1, n2, n3, n4⟩ := K6.out _ (pa, withF pf i 1 .nil) Fy' m1 m2 m3 (fun h hh => by
       rcases m4 h hh with h3 | h3 | h3
       ·exact .inl h3
       ·cases h3
       ·exact .inr h3) m5 m6
     rw [HXX.out] at n1
     obtain ⟨v', ncl, nU⟩ := n1
     obtain ⟨A7, c7, rfl⟩ := nU.shape
     have HZ7 : Hid (Blk (w6.setCell ⟨g', o' + 5, none⟩ (.slice A6 (i + (pf.len - (i + 1))) c6)) (w.heap.size + 1) 27 #[.string ⟨#[]⟩, .string ⟨#[]⟩, .int .i64 0, .int .u64 0, .string ⟨#[]⟩, .slice none 0 0]) := hHd ((m6 _ HQ3.out.2.1.lt (fun e => HGN.out.1 e.symm) (fun hm => by have := HF1.out _ (K2.out _ hm); omega)).trans HQ3.out.2.1)
     have RZ : Hid (Blk (set6 (w6.setCell ⟨g', o' + 5, none⟩ (.slice A6 (i + (pf.len - (i + 1))) c6)) (w.heap.size + 1) (.string (txt a.name)) (.string (txt a.key)) (.int .i64 a.kind) (.int .u64 (a.num : Int)) (.string (txt a.text)) (.slice A7 XF.len c7)) (w.heap.size + 1) 27 (cN a (.slice A7 XF.len c7))) := hHd (HZ7.out.set6 _ _ _ _ _ _)
     have HQ : Hid (CutR a f l w (.returned (.tuple #[.agg (cN a (.slice A7 XF.len c7)), .int .i64 0])) (set6 (w6.setCell ⟨g', o' + 5, none⟩ (.slice A6 (i + (pf.len - (i + 1))) c6)) (w.heap.size + 1) (.string (txt a.name)) (.string (txt a.key)) (.int .i64 a.kind) (.int .u64 (a.num : Int)) (.string (txt a.text)) (.slice A7 XF.len c7))) := hHd (by
      refine cutR_ok HLNE.out HGX.out ?_
      rw [HCX.out]
      have h0 := HQ3.out.2.2
      exact ⟨_, rfl, OwnU.new (a := a) (nU.keep (fun h hh => set6_other (by rcases n4 h hh with h1 | h1; have := HF1.out h h1; omega; omega)) (Nat.le_refl _)), (HB3.out.trans m7).trans (set6_below (by omega))⟩)
     have p0 : ((w6.setCell ⟨g', o' + 5, none⟩ (.slice A6 (i + (pf.len - (i + 1))) c6))).cell? ⟨w.heap.size, 0, none⟩ = _ := ncl 0 _ rfl
     have p1 : ((w6.setCell ⟨g', o' + 5, none⟩ (.slice A6 (i + (pf.len - (i + 1))) c6))).cell? ⟨w.heap.size, 1, none⟩ = _ := ncl 1 _ rfl
     have p2 : ((w6.setCell ⟨g', o' + 5, none⟩ (.slice A6 (i + (pf.len - (i + 1))) c6))).cell? ⟨w.heap.size, 2, none⟩ = _ := ncl 2 _ rfl
     have p3 : ((w6.setCell ⟨g', o' + 5, none⟩ (.slice A6 (i + (pf.len - (i + 1))) c6))).cell? ⟨w.heap.size, 3, none⟩ = _ := ncl 3 _ rfl
     have p4 : ((w6.setCell ⟨g', o' + 5, none⟩ (.slice A6 (i + (pf.len - (i + 1))) c6))).cell? ⟨w.heap.size, 4, none⟩ = _ := ncl 4 _ rfl
     have p5 : ((w6.setCell ⟨g', o' + 5, none⟩ (.slice A6 (i + (pf.len - (i + 1))) c6))).cell? ⟨w.heap.size, 5, none⟩ = _ := ncl 5 _ rfl
     have fz0 : ((w6.setCell ⟨g', o' + 5, none⟩ (.slice A6 (i + (pf.len - (i + 1))) c6))).frozen? ⟨w.heap.size + 1, 0, none⟩ = false := HZ7.out.frozen 0
     have fq0 := (HZ7.out.cell 0).trans rfl
     have fz1 : ((w6.setCell ⟨g', o' + 5, none⟩ (.slice A6 (i + (pf.len - (i + 1))) c6))).frozen? ⟨w.heap.size + 1, 1, none⟩ = false := HZ7.out.frozen 1
     have fq1 := (HZ7.out.cell 1).trans rfl
     have fz2 : ((w6.setCell ⟨g', o' + 5, none⟩ (.slice A6 (i + (pf.len - (i + 1))) c6))).frozen? ⟨w.heap.size + 1, 2, none⟩ = false := HZ7.out.frozen 2
     have fq2 := (HZ7.out.cell 2).trans rfl
     have fz3 : ((w6.setCell ⟨g', o' + 5, none⟩ (.slice A6 (i + (pf.len - (i + 1))) c6))).frozen? ⟨w.heap.size + 1, 3, none⟩ = false := HZ7.out.frozen 3
     have fq3 := (HZ7.out.cell 3).trans rfl
     have fz4 : ((w6.setCell ⟨g', o' + 5, none⟩ (.slice A6 (i + (pf.len - (i + 1))) c6))).frozen? ⟨w.heap.size + 1, 4, none⟩ = false := HZ7.out.frozen 4
     have fq4 := (HZ7.out.cell 4).trans rfl
     have fz5 : ((w6.setCell ⟨g', o' + 5, none⟩ (.slice A6 (i + (pf.len - (i + 1))) c6))).frozen? ⟨w.heap.size + 1, 5, none⟩ = false := HZ7.out.frozen 5
     have fq5 := (HZ7.out.cell 5).trans rfl
     clear m1 m2 m3 m4 m5 m6 m7 n2 n3 n4 ncl nU
     revert RZ HQ p0 p1 p2 p3 p4 p5 fz0 fz1 fz2 fz3 fz4 fz5 fq0 fq1 fq2 fq3 fq4 fq5
     generalize (w6.setCell ⟨g', o' + 5, none⟩ (.slice A6 (i + (pf.len - (i + 1))) c6)) = w7
     intro RZ HQ p0 p1 p2 p3 p4 p5 fz0 fz1 fz2 fz3 fz4 fz5 fq0 fq1 fq2 fq3 fq4 fq5
     go_wp2
     refine bodyPost_ret (res_ct9 rfl _ _ (w.heap.size + 1) 27 _ (0, 0) _ rfl RZ.out Try.underlying27 rfl (by kernel_rfl)) rfl ?_
     exact HQ.out
theorem cutT (W0 : World) : CutTC W0 := by
 intro x l cs v w hx hv hf _ hl _
 obtain ⟨A, c, rfl, hk⟩ := hx.shape
 obtain ⟨B, m, rfl⟩ := hv.shape
 obtain ⟨a, f⟩ := x
 cases hn : l.length with
 | zero =>
  have e : l = [] := List.eq_nil_of_length_eq_zero hn
  subst e
  exact dcut_nil a f A B c m w hk
 | succ n =>
  rw [hn] at hv
  obtain ⟨sl, hs⟩ : ∃ s, l[n]? = some s := ⟨_, List.getElem?_eq_getElem (by omega)⟩
  exact dcut_go a f A B c m n l sl w hk hf hv hs hl
end Go.Proofs.Ythmobcaidhgeaaa
