/- TreRefD TreBox TrvMem -/
import Derived.Test.YtodlhgflfcadmaaGreatQM5
import Derived.BigQuiet
import Derived.Sort.Grow
set_option linter.unusedSimpArgs false
set_option linter.unusedVariables false
set_option maxRecDepth 100000
set_option maxHeartbeats 8000000
namespace Go.Proofs.YtodlhgflfcadmaaGreat
open Go.RowKit
def SameP9 (f : NdF) : Prop := ∀ (g : NdF) (a b : NdD) (A B : Option Addr) (c d : Nat) (w : World), RowT w.heap.size w (.slice A f.len c) f → RowT w.heap.size w (.slice B g.len d) g → f.size ≤ 1000000 → g.size ≤ 1000000 →
  Calls Tryz.prog 16 #[.agg (cN a (.slice A f.len c)), .agg (cN b (.slice B g.len d))] w (Ans9 (.bool (decide (((a, f) : Nd) = (b, g)))) w)
theorem rsame_name (a b : NdD) (A B : Option Addr) (m n c d : Nat) (w : World) (h : (a.name == b.name) = false) :
  Calls Tryz.prog 16 #[.agg (cN a (.slice A m c)), .agg (cN b (.slice B n d))] w (Ans9 (.bool false) w) := by
 have HB : Hid (Below w.heap.size w ((w.alloc (.cells (cN a (.slice A m c)) 27)).alloc (.cells (cN b (.slice B n d)) 27))) := hHd (bAl.alloc (by simp) _)
 have t1 : (txt a.name).toList = a.name := txt_toList _
 have t2 : (txt b.name).toList = b.name := txt_toList _
 go_enter Tryz.func16, Tryz.ntmps16
 go_wp2
 go_ret
 exact ⟨rfl, HB.out⟩
theorem rsame_key (a b : NdD) (A B : Option Addr) (m n c d : Nat) (w : World) (h : (a.name == b.name) = true) (h2 : (a.key == b.key) = false) :
  Calls Tryz.prog 16 #[.agg (cN a (.slice A m c)), .agg (cN b (.slice B n d))] w (Ans9 (.bool false) w) := by
 have HB : Hid (Below w.heap.size w ((w.alloc (.cells (cN a (.slice A m c)) 27)).alloc (.cells (cN b (.slice B n d)) 27))) := hHd (bAl.alloc (by simp) _)
 have t1 : (txt a.name).toList = a.name := txt_toList _
 have t2 : (txt b.name).toList = b.name := txt_toList _
 have t3 : (txt a.key).toList = a.key := txt_toList _
 have t4 : (txt b.key).toList = b.key := txt_toList _
 go_enter Tryz.func16, Tryz.ntmps16
 go_wp2
 go_ret
 exact ⟨rfl, HB.out⟩
theorem rsame_val (a b : NdD) (A B : Option Addr) (m n c d : Nat) (w : World) (h : (a.name == b.name) = true) (h2 : (a.key == b.key) = true) (h3 : ¬ (a.kind = b.kind ∧ a.num = b.num ∧ a.text = b.text)) :
  Calls Tryz.prog 16 #[.agg (cN a (.slice A m c)), .agg (cN b (.slice B n d))] w (Ans9 (.bool false) w) := by
 have HB : Hid (Below w.heap.size w ((w.alloc (.cells (cN a (.slice A m c)) 27)).alloc (.cells (cN b (.slice B n d)) 27))) := hHd (bAl.alloc (by simp) _)
 have t1 : (txt a.name).toList = a.name := txt_toList _
 have t2 : (txt b.name).toList = b.name := txt_toList _
 have t3 : (txt a.key).toList = a.key := txt_toList _
 have t4 : (txt b.key).toList = b.key := txt_toList _
 have t5 : (txt a.text).toList = a.text := txt_toList _
 have t6 : (txt b.text).toList = b.text := txt_toList _
 have e : ((a.kind == b.kind) && ((a.num == b.num) && (a.text == b.text))) = false := by
  rw [Bool.eq_false_iff]
  intro e
  simp only [Bool.and_eq_true, beq_iff_eq] at e
  exact h3 e
 clear h3
 cases e1 : (a.kind == b.kind) with
 | false =>
  clear e
  go_enter Tryz.func16, Tryz.ntmps16
  go_wp2
  go_ret
  exact ⟨rfl, HB.out⟩
 | true =>
  cases e2 : (a.num == b.num) with
  | false =>
   have e2' : ((a.num : Int) == (b.num : Int)) = false := by rw [beq_eq_false_iff_ne] at e2 ⊢; omega
   clear e
   go_enter Tryz.func16, Tryz.ntmps16
   go_wp2
   go_ret
   exact ⟨rfl, HB.out⟩
  | true =>
   have e2' : ((a.num : Int) == (b.num : Int)) = true := by rw [beq_iff_eq] at e2 ⊢; omega
   have e3 : (a.text == b.text) = false := by rw [e1, e2] at e; simpa using e
   clear e
   go_enter Tryz.func16, Tryz.ntmps16
   go_wp2
   go_ret
   exact ⟨rfl, HB.out⟩
theorem rsame_len (a : NdD) (A B : Option Addr) (m n c d : Nat) (w : World) (h : m ≠ n) :
  Calls Tryz.prog 16 #[.agg (cN a (.slice A m c)), .agg (cN a (.slice B n d))] w (Ans9 (.bool false) w) := by
 have HB : Hid (Below w.heap.size w ((w.alloc (.cells (cN a (.slice A m c)) 27)).alloc (.cells (cN a (.slice B n d)) 27))) := hHd (bAl.alloc (by simp) _)
 have t1 : (txt a.name).toList = a.name := txt_toList _
 have t3 : (txt a.key).toList = a.key := txt_toList _
 have t5 : (txt a.text).toList = a.text := txt_toList _
 have e1 : (m == n) = false := beq_eq_false_iff_ne.2 h
 have e2 : ((m : Int) == (n : Int)) = false := by rw [beq_eq_false_iff_ne]; omega
 clear h
 go_enter Tryz.func16, Tryz.ntmps16
 go_wp2
 go_ret
 exact ⟨rfl, HB.out⟩
theorem rsame_row (f g : NdF) (hkids : ∀ n a k, f.get? n = some (a, k) → SameP9 k) (a : NdD) (A B : Option Addr) (c d L : Nat) (w : World) (hf : RowT w.heap.size w (.slice A L c) f) (hg : RowT w.heap.size w (.slice B L d) g) (hsf : f.size ≤ 1000000) (hsg : g.size ≤ 1000000) :
  Calls Tryz.prog 16 #[.agg (cN a (.slice A L c)), .agg (cN a (.slice B L d))] w (Ans9 (.bool (decide (f = g))) w) := by
 have t1 : (txt a.name).toList = a.name := txt_toList _
 have t3 : (txt a.key).toList = a.key := txt_toList _
 have t5 : (txt a.text).toList = a.text := txt_toList _
 have hb2 : Blk ((w.alloc (.cells (cN a (.slice A L c)) 27)).alloc (.cells (cN a (.slice B L d)) 27)) (w.heap.size + 1) 27 (cN a (.slice B L d)) := by
  have h := Blk.new (w.alloc (.cells (cN a (.slice A L c)) 27)) 27 (cN a (.slice B L d))
  rw [show (w.alloc (.cells (cN a (.slice A L c)) 27)).heap.size = w.heap.size + 1 by simp] at h
  exact h
 have HQ := hHd (And.intro ((Blk.new w 27 (cN a (.slice A L c))).alloc (.cells (cN a (.slice B L d)) 27)) (And.intro hb2 (show Below w.heap.size w ((w.alloc (.cells (cN a (.slice A L c)) 27)).alloc (.cells (cN a (.slice B L d)) 27)) from bAl.alloc (by simp) _)))
 have HI := hHd hkids
 have HKF : Hid (RowT w.heap.size w (.slice A L c) f) := hHd hf
 have HKG : Hid (RowT w.heap.size w (.slice B L d) g) := hHd hg
 have HZ := hHd (And.intro hsf hsg)
 have HLF : Hid (L = f.len) := hHd hf.len.1
 have HLG : Hid (L = g.len) := hHd hg.len.1
 have i3 : (L : Int) ≤ 1000000 := by have := HLF.out; have := Fr.len_size f; omega
 clear hkids hf hg hsf hsg hb2
 go_enter Tryz.func16, Tryz.ntmps16
 go_wp2
 go_loopw [5, 6] (fun i v6 wr => ∃ j : Nat, j ≤ L ∧ i = .int .i64 (j : Int) ∧ Hid (∀ n, n < j → f.get? n = g.get? n) ∧ Blk wr w.heap.size 27 (cN a (.slice A L c)) ∧ Blk wr (w.heap.size + 1) 27 (cN a (.slice B L d)) ∧ Below w.heap.size w wr) (fun i _ _ => L - (intOf i).toNat)
 case atStart => exact ⟨0, Nat.zero_le _, rfl, hHd (fun n h => by omega), HQ.out.1, HQ.out.2.1, HQ.out.2.2⟩
 case round =>
  obtain ⟨j, hj, rfl, HL, hX, hY, hB⟩ := hrel
  have HBr := hHd hB
  have p5 : wr.cell? ⟨w.heap.size, 5, none⟩ = some (.slice A L c) := (hX.cell 5).trans rfl
  by_cases hlt : j < L
  ·obtain ⟨a1, q1, hg1⟩ := Fr.get_some (f := f) (n := j) (by have := HLF.out; omega)
   obtain ⟨a2, q2, hg2⟩ := Fr.get_some (f := g) (n := j) (by have := HLG.out; omega)
   obtain ⟨b1, o1, A1, c1, rfl, -, -, hbl1, hrow1, hcl1⟩ := HKF.out.at hg1
   obtain ⟨b2, o2, A2, c2, rfl, -, -, hbl2, hrow2, hcl2⟩ := HKG.out.at hg2
   have i1 : (0 : Int) ≤ (j : Int) := by omega
   have i2 : (j : Int) < (L : Int) := by omega
   obtain ⟨rb, hrb⟩ : ∃ z, z = decide (((a1, q1) : Nd) = (a2, q2)) := ⟨_, rfl⟩
   have HI1 : Hid (Calls Tryz.prog 16 #[.agg (cN a1 (.slice A1 q1.len c1)), .agg (cN a2 (.slice A2 q2.len c2))] wr.drew (Ans9 (.bool rb) wr.drew)) := hHd (by
    rw [hrb]
    exact HI.out j a1 q1 hg1 q2 a1 a2 A1 A2 c1 c2 wr.drew (hrow1.under hB.drew (Nat.le_refl _) hB.size) (hrow2.under hB.drew (Nat.le_refl _) hB.size) (by have := HZ.out.1; have := Fr.size_get hg1; omega) (by have := HZ.out.2; have := Fr.size_get hg2; omega))
   have HQ1 := hHd (And.intro (hX.below (Below.refl _ _).drew hX.lt) (And.intro (hY.below (Below.refl _ _).drew hY.lt) (And.intro (fun i u hu => (hB.drew.cell (p := ⟨b1, o1 + j * 6 + i, none⟩) hbl1).trans (hcl1 i u hu)) (fun i u hu => (hB.drew.cell (p := ⟨b2, o2 + j * 6 + i, none⟩) hbl2).trans (hcl2 i u hu)))))
   have HBd := hHd hB.drew
   have HLL := hHd (And.intro hbl1 hbl2)
   have HG1 := hHd hg1
   have HG2 := hHd hg2
   have HRB := hHd hrb
   clear hcl1 hcl2 hrow1 hrow2 hg1 hg2 hX hY hB hrb hbl1 hbl2
   go_wp2_with fail
   refine wp_region_noPanic ?_
   refine wp_region_held_drew (S := fun _ => True) (by kernel_rfl) trivial (fun hS => ?_)
   refine held_more (S' := fun w' => Blk w' w.heap.size 27 (cN a (.slice (some ⟨b1, o1, none⟩) L c)) ∧ Blk w' (w.heap.size + 1) 27 (cN a (.slice (some ⟨b2, o2, none⟩) L d)) ∧ (∀ i u, (ndC a1 (.slice A1 q1.len c1))[i]? = some u → w'.cell? ⟨b1, o1 + j * 6 + i, none⟩ = some u) ∧ (∀ i u, (ndC a2 (.slice A2 q2.len c2))[i]? = some u → w'.cell? ⟨b2, o2 + j * 6 + i, none⟩ = some u)) (fun _ _ => trivial) _ _ _ _ ?_
   replace hS := HQ1.out
   refine tkH 0 hS ?_
   refine tkH 1 hS ?_ (hy := fun w hSw => by have q5 := (hSw.1.cell 5).trans rfl; (go_simp <;> with_reducible rfl))
   refine tkH 2 hS ?_
   refine tkH 3 hS ?_
   refine tkH 4 hS ?_ (hy := fun w hSw => by have u0 : w.cell? ⟨b1, o1 + j * 6, none⟩ = _ := hSw.2.2.1 0 _ rfl; have u1 := hSw.2.2.1 1 _ rfl; have u2 := hSw.2.2.1 2 _ rfl; have u3 := hSw.2.2.1 3 _ rfl; have u4 := hSw.2.2.1 4 _ rfl; have u5 := hSw.2.2.1 5 _ rfl; (go_simp <;> with_reducible rfl))
   refine tkH 5 hS ?_
   refine tkH 6 hS ?_ (hy := fun w hSw => by have q5 := (hSw.2.1.cell 5).trans rfl; (go_simp <;> with_reducible rfl))
   refine tkH 7 hS ?_
   refine tkH 8 hS ?_
   refine tkH 9 hS ?_ (hy := fun w hSw => by have u0 : w.cell? ⟨b2, o2 + j * 6, none⟩ = _ := hSw.2.2.2 0 _ rfl; have u1 := hSw.2.2.2 1 _ rfl; have u2 := hSw.2.2.2 2 _ rfl; have u3 := hSw.2.2.2 3 _ rfl; have u4 := hSw.2.2.2 4 _ rfl; have u5 := hSw.2.2.2 5 _ rfl; (go_simp <;> with_reducible rfl))
   refine rdy1 10 fun K hK => ?_
   go_simp
   refine HI1.out.mono ?_
   rintro r w6 ⟨rfl, hb6⟩
   have HX6 := hHd (HQ1.out.1.below hb6 HQ1.out.1.lt)
   have HY6 := hHd (HQ1.out.2.1.below hb6 HQ1.out.2.1.lt)
   have HB6 := hHd (HBd.out.trans (hb6.mono HBd.out.size))
   have HW6 := hHd hb6
   clear hb6
   go_wp2_with fail
   refine hK.out _ _ ?sr_0 (fun hS => ?_)
   case sr_0 => (exact ⟨HX6.out, HY6.out, fun i u hu => (HW6.out.cell (p := ⟨b1, o1 + j * 6 + i, none⟩) (Nat.lt_of_lt_of_le HLL.out.1 HBd.out.size)).trans (HQ1.out.2.2.1 i u hu), fun i u hu => (HW6.out.cell (p := ⟨b2, o2 + j * 6 + i, none⟩) (Nat.lt_of_lt_of_le HLL.out.2 HBd.out.size)).trans (HQ1.out.2.2.2 i u hu)⟩)
   clear hK K
   (try simp only [Act.put, layS])
   refine tkH 11 hS ?_
   refine wpAnyH_done (by kernel_rfl) ?_ _
   refine NoPanic.normal ?_
   cases rb with
   | false =>
    have HF : Hid (decide (f = g) = false) := hHd (decide_eq_false (fun e => by
     have h1 := HG1.out
     rw [e, HG2.out] at h1
     injection h1 with h1
     have h2 := HRB.out
     rw [h1] at h2
     simp at h2))
    clear hS p5
    go_wp2
    go_ret
    exact ⟨by rw [HF.out]; rfl, HB6.out⟩
   | true =>
    have HL2 : Hid (∀ n, n < j + 1 → f.get? n = g.get? n) := hHd (fun n hn => by
     by_cases e : n = j
     ·subst e
      have h2 : ((a1, q1) : Nd) = (a2, q2) := of_decide_eq_true HRB.out.symm
      rw [HG1.out, HG2.out, h2]
     ·exact HL.out n (by omega))
    clear hS p5
    go_wp2
    go_roundw
    case rel => exact ⟨j + 1, by omega, by go_num, HL2, HX6.out, HY6.out, HB6.out⟩
    case measure => simp [intOf]; omega
  ·have i2 : ¬ (j : Int) < (L : Int) := by omega
   have HF : Hid (decide (f = g) = true) := hHd (decide_eq_true (Fr.ext (by have := HLF.out; have := HLG.out; omega) (fun n hn => HL.out n (by have := HLF.out; omega))))
   clear hX hY hB
   go_wp2
   go_ret
   exact ⟨by rw [HF.out]; rfl, HBr.out⟩
theorem rsamef_any (f : NdF) : SameP9 f := by
 refine Fr.byKids (P := SameP9) ?_ f
 clear f
 intro f hkids g a b A B c d w hf hg hsf hsg
 by_cases h1 : a.name = b.name
 ·by_cases h2 : a.key = b.key
  ·by_cases h3 : a.kind = b.kind ∧ a.num = b.num ∧ a.text = b.text
   ·obtain rfl : a = b := NdD.ext_ h1 h2 h3.1 h3.2.1 h3.2.2
    by_cases h4 : f.len = g.len
    ·rw [← h4] at hg ⊢
     refine (rsame_row f g hkids a A B c d f.len w hf hg hsf hsg).mono fun _ _ h => h.bool ?_
     by_cases e : f = g
     ·rw [e, decide_eq_true rfl, decide_eq_true rfl]
     ·rw [decide_eq_false e, decide_eq_false (fun h => e (Prod.ext_iff.1 h).2)]
    ·exact (rsame_len a A B _ _ c d w h4).mono fun _ _ h => h.bool (decide_eq_false (fun e => h4 (by rw [show f = g from (Prod.ext_iff.1 e).2]))).symm
   ·exact (rsame_val a b A B _ _ c d w (beq_iff_eq.2 h1) (beq_iff_eq.2 h2) h3).mono fun _ _ h => h.bool (decide_eq_false (fun e => h3 (by rw [show a = b from (Prod.ext_iff.1 e).1]; exact ⟨rfl, rfl, rfl⟩))).symm
  ·exact (rsame_key a b A B _ _ c d w (beq_iff_eq.2 h1) (beq_eq_false_iff_ne.2 h2)).mono fun _ _ h => h.bool (decide_eq_false (fun e => h2 (by rw [show a = b from (Prod.ext_iff.1 e).1]))).symm
 ·exact (rsame_name a b A B _ _ c d w (beq_eq_false_iff_ne.2 h1)).mono fun _ _ h => h.bool (decide_eq_false (fun e => h1 (by rw [show a = b from (Prod.ext_iff.1 e).1]))).symm
theorem rsamet_any (x y : Nd) (cs ds : List Value) (w : World) (hx : LieN w cs x) (hy : LieN w ds y) (hf : Few9 x) (hg : Few9 y) : Calls Tryz.prog 16 #[.agg cs.toArray, .agg ds.toArray] w (Ans9 (.bool (decide (x = y))) w) := by
 obtain ⟨A, c, rfl, hk⟩ := hx.shape
 obtain ⟨B, d, rfl, hk2⟩ := hy.shape
 exact rsamef_any x.2 y.2 x.1 y.1 A B c d w hk hk2 hf hg
theorem res_ct9 {P : Program} {fn : Func} {p u : Tmp} {ty : TypeId} (h : fn.results = #[.cell p ty, .tmp u]) (tmps : Array Value) (w : World) (g : Nat) (t : TypeId) (cs : Array Value) (fr : Nat × Nat) (d : TypeDesc)
  (hp : tmps.getD p undef = .pointer (some ⟨g, 0, none⟩)) (hg : w.heap[g]? = some (.cells cs t fr))
  (hu : P.underlying ty = some d) (hd : (match d with | .struct _ | .array _ _ => true | _ => false) = true) (hi : (P.info? ty).map (·.size) = some cs.size) :
  (results fn tmps).run P w = .ok (.tuple #[.agg cs, tmps.getD u undef]) w := by
 rw [results_cell_tmp h, hp]
 simp [asAddr, run_loadVar_row w g t ty cs fr d hg hu hd hi, Result.andThen]
def set6 (w : World) (b : Nat) (x0 x1 x2 x3 x4 x5 : Value) : World := (((((w.setCell ⟨b, 0, none⟩ x0).setCell ⟨b, 1, none⟩ x1).setCell ⟨b, 2, none⟩ x2).setCell ⟨b, 3, none⟩ x3).setCell ⟨b, 4, none⟩ x4).setCell ⟨b, 5, none⟩ x5
theorem Blk.set6 {w : World} {b : Nat} {t : TypeId} {y0 y1 y2 y3 y4 y5 : Value} (h : Blk w b t #[y0, y1, y2, y3, y4, y5]) (x0 x1 x2 x3 x4 x5 : Value) : Blk (set6 w b x0 x1 x2 x3 x4 x5) b t #[x0, x1, x2, x3, x4, x5] := by
 have h2 := ((((((h).set_ 0 x0).set_ 1 x1).set_ 2 x2).set_ 3 x3).set_ 4 x4).set_ 5 x5
 simp only [layS] at h2
 exact h2
theorem set6_below {B : Nat} {w : World} {b : Nat} {x0 x1 x2 x3 x4 x5 : Value} (h : B ≤ b) : Below B w (set6 w b x0 x1 x2 x3 x4 x5) :=
 ((((((Below.refl B w).setCell (p := ⟨b, 0, none⟩) h x0).setCell (p := ⟨b, 1, none⟩) h x1).setCell (p := ⟨b, 2, none⟩) h x2).setCell (p := ⟨b, 3, none⟩) h x3).setCell (p := ⟨b, 4, none⟩) h x4).setCell (p := ⟨b, 5, none⟩) h x5
theorem set6_other {w : World} {b g : Nat} {x0 x1 x2 x3 x4 x5 : Value} (h : g ≠ b) : (set6 w b x0 x1 x2 x3 x4 x5).heap[g]? = w.heap[g]? := by
 unfold set6
 rw [Below.heap_setCell _ _ _ _ h, Below.heap_setCell _ _ _ _ h, Below.heap_setCell _ _ _ _ h, Below.heap_setCell _ _ _ _ h, Below.heap_setCell _ _ _ _ h, Below.heap_setCell _ _ _ _ h]
theorem set6_size {w : World} {b : Nat} {x0 x1 x2 x3 x4 x5 : Value} : (set6 w b x0 x1 x2 x3 x4 x5).heap.size = w.heap.size := by simp [set6, World.setCell]
theorem LieB.row {b : Nat} {w : World} {a : NdD} {f : NdF} {v : Value} (h : LieB b w (ndC a v) (a, f)) : RowT b w v f := by
 obtain ⟨A, c, e, h2⟩ := h.shape
 have e2 : v = .slice A f.len c := by
  have := congrArg (fun l => l[5]?) e
  simpa using this
 rw [e2]
 exact h2
theorem LieP.set6 {b B g : Nat} {w : World} {cs : List Value} {x : Nd} (h : LieP b B w cs x) (hg : b ≤ g) (hB : g < B) (x0 x1 x2 x3 x4 x5 : Value) : LieP b B (set6 w g x0 x1 x2 x3 x4 x5) cs x :=
 h.keep (fun k hk => set6_other (by omega)) (fun k hk => by rw [set6_size]; exact hk)
theorem LieP.after {b B B' : Nat} {w : World} {cs : List Value} {x : Nd} (h : LieP b B w cs x) (hB : B' ≤ B) : LieP b B' w cs x :=
 h.keep (fun _ _ => rfl) (fun k hk => by rcases hk with h | h; exact .inl h; exact .inr ⟨by omega, h.2⟩)
theorem LieP.below {b B : Nat} {w w' : World} {cs : List Value} {x : Nd} (h : LieP b B w cs x) (hb : Below w.heap.size w w') (hbw : b ≤ w.heap.size) : LieP b B w' cs x :=
 h.keep (fun k hk => hb.block k (by rcases hk with h | h <;> omega)) (fun k hk => by have := hb.size; rcases hk with h | h; exact .inl h; exact .inr ⟨h.1, by omega⟩)
theorem GetX_none {x : Nd} {s : Stp} {l : List Stp} (h : findN s x.2 = none) : GetX x (s :: l) = (noN, false) := by
 unfold GetX; simp only [getX]; rw [findN_none h]
theorem GetX_some {x y : Nd} {s : Stp} {l : List Stp} {i : Nat} (h : findN s x.2 = some i) (hy : x.2.get? i = some y) : GetX x (s :: l) = GetX y l := by
 unfold GetX; simp only [getX]
 obtain ⟨z, h1, h2, h3⟩ := find_stp h
 rw [hy] at h1
 injection h1 with h1
 rw [h3, ← h1]
structure After (w : World) where
 w' : World
 h : Below w.heap.size w w'
instance (w : World) : Inhabited (After w) := ⟨⟨w, Below.refl _ _⟩⟩
theorem After.cell {w : World} (p : After w) {b o : Nat} {v : Value} (hb : b < w.heap.size) (h : w.cell? ⟨b, o, none⟩ = some v) : p.w'.cell? ⟨b, o, none⟩ = some v := (p.h.cell (p := ⟨b, o, none⟩) hb).trans h
theorem After.blk {w : World} (p : After w) {g o : Nat} {t : TypeId} {cs : Array Value} {v : Value} (h : Blk w g t cs) (hv : cs[o]? = some v) : p.w'.cell? ⟨g, o, none⟩ = some v := p.cell h.lt ((h.cell o).trans hv)
def Grw (v : Value) (w : World) (r : Ending) (w' : World) : Prop := r = .returned v ∧ ∃ q os, w' = Go.Sort.grow (w.drewN q) os
theorem below_grow {w : World} (q : Nat) (os : Array Obj) : Below w.heap.size w (Go.Sort.grow (w.drewN q) os) :=
 ⟨rfl, rfl, rfl, by rw [Go.Sort.size_grow]; exact Nat.le_add_right _ _, fun k hk => Go.Sort.heap_grow_old (w.drewN q) os hk⟩
theorem Grw.ans {v : Value} {w : World} {r : Ending} {w' : World} (h : Grw v w r w') : Ans9 v w r w' := by
 obtain ⟨h1, q, os, rfl⟩ := h
 exact ⟨h1, below_grow q os⟩
theorem Grw.alloc {w : World} (o : Obj) : w.alloc o = Go.Sort.grow (w.drewN 0) #[o] := Go.Sort.alloc_eq_grow w o
def set6o (w : World) (b o : Nat) (x0 x1 x2 x3 x4 x5 : Value) : World := (((((w.setCell ⟨b, o, none⟩ x0).setCell ⟨b, o + 1, none⟩ x1).setCell ⟨b, o + 2, none⟩ x2).setCell ⟨b, o + 3, none⟩ x3).setCell ⟨b, o + 4, none⟩ x4).setCell ⟨b, o + 5, none⟩ x5
theorem set6o_below {B : Nat} {w : World} {b o : Nat} {x0 x1 x2 x3 x4 x5 : Value} (h : B ≤ b) : Below B w (set6o w b o x0 x1 x2 x3 x4 x5) :=
 ((((((Below.refl B w).setCell (p := ⟨b, o, none⟩) h x0).setCell (p := ⟨b, o + 1, none⟩) h x1).setCell (p := ⟨b, o + 2, none⟩) h x2).setCell (p := ⟨b, o + 3, none⟩) h x3).setCell (p := ⟨b, o + 4, none⟩) h x4).setCell (p := ⟨b, o + 5, none⟩) h x5
theorem set6o_other {w : World} {b o g : Nat} {x0 x1 x2 x3 x4 x5 : Value} (h : g ≠ b) : (set6o w b o x0 x1 x2 x3 x4 x5).heap[g]? = w.heap[g]? := by
 unfold set6o
 rw [Below.heap_setCell _ _ _ _ h, Below.heap_setCell _ _ _ _ h, Below.heap_setCell _ _ _ _ h, Below.heap_setCell _ _ _ _ h, Below.heap_setCell _ _ _ _ h, Below.heap_setCell _ _ _ _ h]
theorem set6o_size {w : World} {b o : Nat} {x0 x1 x2 x3 x4 x5 : Value} : (set6o w b o x0 x1 x2 x3 x4 x5).heap.size = w.heap.size := by simp [set6o, World.setCell]
theorem set_mid6 (l k r : List Value) (j : Nat) (u : Value) (h : j < k.length) : (l ++ (k ++ r)).set (l.length + j) u = l ++ (k.set j u ++ r) := by
 rw [List.set_append_right _ _ (by omega), Nat.add_sub_cancel_left, List.set_append_left _ _ h]
theorem OwnK.set6o {w : World} {base b n c o : Nat} {xs1 xs2 : List Value} {y0 y1 y2 y3 y4 y5 : Value} (h : OwnK 27 6 w base (.slice (some ⟨b, 0, none⟩) n c) n (xs1 ++ ([y0, y1, y2, y3, y4, y5] ++ xs2))) (ho : xs1.length = o) (x0 x1 x2 x3 x4 x5 : Value) :
  OwnK 27 6 (set6o w b o x0 x1 x2 x3 x4 x5) base (.slice (some ⟨b, 0, none⟩) n c) n (xs1 ++ ([x0, x1, x2, x3, x4, x5] ++ xs2)) := by
 subst ho
 have a0 := (World.ownsRow.stored h (xs1.length + 0) x0).1
 rw [set_mid6 _ _ _ _ _ (by simp)] at a0
 have a1 := (World.ownsRow.stored a0 (xs1.length + 1) x1).1
 rw [set_mid6 _ _ _ _ _ (by simp)] at a1
 have a2 := (World.ownsRow.stored a1 (xs1.length + 2) x2).1
 rw [set_mid6 _ _ _ _ _ (by simp)] at a2
 have a3 := (World.ownsRow.stored a2 (xs1.length + 3) x3).1
 rw [set_mid6 _ _ _ _ _ (by simp)] at a3
 have a4 := (World.ownsRow.stored a3 (xs1.length + 4) x4).1
 rw [set_mid6 _ _ _ _ _ (by simp)] at a4
 have a5 := (World.ownsRow.stored a4 (xs1.length + 5) x5).1
 rw [set_mid6 _ _ _ _ _ (by simp)] at a5
 exact a5
def OwnT (w : World) (base : Nat) : NdF → List Value → List Nat → Prop
 | .nil, xs, F => xs = [] ∧ F = []
 | .cons a k r, xs, F => ∃ (ys zs : List Value) (F0 F2 : List Nat) (v : Value), xs = ndC a v ++ ys ∧ F = (v.ownBlock.toList ++ F0) ++ F2 ∧
   OwnK 27 6 w base v k.len zs ∧ OwnT w base k zs F0 ∧ OwnT w base r ys F2
def OwnU (w : World) (base : Nat) (v : Value) (k : NdF) (F : List Nat) : Prop := ∃ zs F0, F = v.ownBlock.toList ++ F0 ∧ OwnK 27 6 w base v k.len zs ∧ OwnT w base k zs F0
section
variable {w w' : World} {base base' : Nat} {f g : NdF} {xs ys : List Value} {F G : List Nat}
theorem OwnT.cons_iff {a : NdD} {k r : NdF} : OwnT w base (.cons a k r) xs F ↔ ∃ v ys F1 F2, xs = ndC a v ++ ys ∧ F = F1 ++ F2 ∧ OwnU w base v k F1 ∧ OwnT w base r ys F2 := by
 constructor
 ·intro ⟨ys, zs, F0, F2, v, h1, h2, h6, h7, h8⟩
  exact ⟨v, ys, _, F2, h1, h2, ⟨zs, F0, rfl, h6, h7⟩, h8⟩
 ·intro ⟨v, ys, F1, F2, h1, h2, ⟨zs, F0, h9, h6, h7⟩, h8⟩
  exact ⟨ys, zs, F0, F2, v, h1, by rw [h2, h9], h6, h7, h8⟩
theorem OwnK.keep {e : TypeId} {k n : Nat} {v : Value} (h : OwnK e k w base v n xs) (hk : ∀ g, v.ownBlock = some g → w'.heap[g]? = w.heap[g]?) : OwnK e k w' base v n xs := by
 refine ⟨h.1, ?_⟩
 rcases h.2 with ⟨rfl, h0⟩ | ⟨g, cap, cur, rfl, hb, hg, hrest⟩
 ·exact .inl ⟨rfl, h0⟩
 ·exact .inr ⟨g, cap, cur, rfl, hb, (hk g rfl).trans hg, hrest⟩
theorem OwnT.keep (hb : base' ≤ base) : ∀ {f : NdF} {xs : List Value} {F : List Nat}, (∀ g, g ∈ F → w'.heap[g]? = w.heap[g]?) → OwnT w base f xs F → OwnT w' base' f xs F := by
 intro f
 induction f with
 | nil => intro xs F _ h; exact h
 | cons a k r ihk ihr =>
  intro xs F hF ⟨ys, zs, F0, F2, v, h1, h2, h6, h7, h8⟩
  subst h2
  exact ⟨ys, zs, F0, F2, v, h1, rfl, (h6.keep (fun g hg => hF g (by simp [hg]))).mono hb, ihk (fun g hg => hF g (by simp [hg])) h7, ihr (fun g hg => hF g (by simp [hg])) h8⟩
theorem OwnU.keep {v : Value} {k : NdF} (h : OwnU w base v k F) (hF : ∀ g, g ∈ F → w'.heap[g]? = w.heap[g]?) (hb : base' ≤ base) : OwnU w' base' v k F := by
 obtain ⟨zs, F0, rfl, h1, h2⟩ := h
 exact ⟨zs, F0, rfl, (h1.keep (fun g hg => hF g (by simp [hg]))).mono hb, h2.keep hb (fun g hg => hF g (by simp [hg]))⟩
theorem OwnK.fresh {e : TypeId} {k n : Nat} {v : Value} (h : OwnK e k w base v n xs) {g : Nat} (hg : v.ownBlock = some g) : Fresh9 base w g := by
 rcases h.2 with ⟨rfl, h0⟩ | ⟨g', cap, cur, rfl, hb, hg', hrest⟩
 ·cases hg
 ·injection hg with hg
  subst hg
  exact ⟨hb, cur, _, hg'⟩
theorem OwnT.fresh : ∀ {f : NdF} {xs : List Value} {F : List Nat}, OwnT w base f xs F → ∀ g, g ∈ F → Fresh9 base w g := by
 intro f
 induction f with
 | nil => intro xs F h g hg; rw [h.2] at hg; cases hg
 | cons a k r ihk ihr =>
  intro xs F ⟨ys, zs, F0, F2, v, h1, h2, h6, h7, h8⟩ g hg
  subst h2
  simp only [List.mem_append, Option.mem_toList] at hg
  rcases hg with (hg | hg) | hg
  ·exact h6.fresh hg
  ·exact ihk h7 g hg
  ·exact ihr h8 g hg
theorem OwnU.fresh {v : Value} {k : NdF} (h : OwnU w base v k F) : ∀ g, g ∈ F → Fresh9 base w g := by
 obtain ⟨zs, F0, rfl, h1, h2⟩ := h
 intro g hg
 simp only [List.mem_append, Option.mem_toList] at hg
 rcases hg with hg | hg
 ·exact h1.fresh hg
 ·exact h2.fresh g hg
theorem OwnT.below (h : OwnT w base f xs F) (hb : Below w.heap.size w w') : OwnT w' base f xs F := h.keep (Nat.le_refl _) (fun g hg => hb.block g (h.fresh g hg).lt)
theorem OwnU.below {v : Value} {k : NdF} (h : OwnU w base v k F) (hb : Below w.heap.size w w') : OwnU w' base v k F := h.keep (fun g hg => hb.block g (h.fresh g hg).lt) (Nat.le_refl _)
theorem OwnK.frv {S : Nat → Prop} {v : Value} {k : NdF} (h : OwnK 27 6 w base v k.len xs) (hr : rowG NdA 6 5 w S noB xs k) (hS : ∀ g, v.ownBlock = some g → S g) : FrV NdA 6 5 w S noB v k := by
 have hh := h
 rcases h.2 with ⟨rfl, h0⟩ | ⟨g, cap, cur, rfl, hb, hg, hnc, hcm, hcs, ht⟩
 ·exact ⟨none, 0, by rw [h0], by omega, fun h => absurd h (by omega)⟩
 ·refine ⟨_, cap, rfl, hnc, fun h0 => ⟨g, 0, rfl, hS g rfl, hr.at (fun j u hj => ?_)⟩⟩
  have hjl : j < xs.length := (List.getElem?_eq_some_iff.1 hj).1
  have hxl : xs.length = k.len * 6 := h.1
  rw [World.ownsRow.cellAt hh (0 + j) (by omega), Nat.zero_add, hj]
theorem OwnK.aligned {n : Nat} {v : Value} (h : OwnK 27 6 w base v n xs) {a : NdD} : ∀ b o m c, (ndC a v)[5]? = some (.slice (some ⟨b, o, none⟩) m c) → o % 6 = 0 := by
 intro b o m c e
 have e2 : v = .slice (some ⟨b, o, none⟩) m c := by simpa using e
 rcases h.2 with ⟨rfl, h0⟩ | ⟨g, cap, cur, rfl, hrest⟩
 ·cases e2
 ·injection e2 with e2
  injection e2 with e2
  injection e2 with _ e3
  rw [← e3]
theorem OwnT.row {S : Nat → Prop} : ∀ {f : NdF} {xs : List Value} {F : List Nat}, (∀ g, g ∈ F → S g) → OwnT w base f xs F → rowG NdA 6 5 w S noB xs f := by
 intro f
 induction f with
 | nil => intro xs F _ h; exact h.1
 | cons a k r ihk ihr =>
  intro xs F hF ⟨ys, zs, F0, F2, v, h1, h2, h6, h7, h8⟩
  subst h2
  have hv : v.oneCell' = true := by obtain ⟨A, c, rfl⟩ := h6.shape; rfl
  exact ⟨ndC a v, ys, h1, ⟨rfl, ⟨⟨v, rfl, hv⟩, h6.aligned⟩, v, rfl, h6.frv (ihk (fun g hg => hF g (by simp [hg])) h7) (fun g hg => hF g (by simp [hg]))⟩, ihr (fun g hg => hF g (by simp [hg])) h8⟩
theorem OwnU.frv {v : Value} {k : NdF} (h : OwnU w base v k F) : FrV NdA 6 5 w (fun g => g ∈ F) noB v k := by
 obtain ⟨zs, F0, rfl, h1, h2⟩ := h
 exact h1.frv (h2.row (fun g hg => by simp [hg])) (fun g hg => by simp [hg])
theorem OwnU.shape {v : Value} {k : NdF} (h : OwnU w base v k F) : ∃ A c, v = .slice A k.len c := by
 obtain ⟨zs, F0, rfl, h1, h2⟩ := h
 exact h1.shape
theorem OwnU.new {v : Value} {a : NdD} {k : NdF} (h : OwnU w base v k F) : NewT base w (ndC a v) (a, k) := by
 refine ⟨fun g => g ∈ F, h.fresh, rfl, ⟨⟨v, rfl, ?_⟩, ?_⟩, v, rfl, h.frv⟩
 ·obtain ⟨A, c, rfl⟩ := h.shape; rfl
 ·obtain ⟨zs, F0, rfl, h1, h2⟩ := h
  exact h1.aligned
theorem OwnU.lies {v : Value} {a : NdD} {k : NdF} (h : OwnU w base v k F) : LieN w (ndC a v) (a, k) := (h.new (a := a)).lies
theorem OwnT.app (h2 : OwnT w base g ys G) : ∀ {f : NdF} {xs : List Value} {F : List Nat}, OwnT w base f xs F → OwnT w base (f.app g) (xs ++ ys) (F ++ G) := by
 intro f
 induction f with
 | nil => intro xs F h; rw [h.1, h.2]; exact h2
 | cons a k r ihk ihr =>
  intro xs F ⟨zs, us, F0, F2, v, h1, h2, h6, h7, h8⟩
  subst h1 h2
  exact ⟨zs ++ ys, us, F0, F2 ++ G, v, by simp, by simp, h6, h7, ihr h8⟩
theorem OwnT.one {a : NdD} {k : NdF} {v : Value} (h : OwnU w base v k F) : OwnT w base (.cons a k .nil) (ndC a v) F := OwnT.cons_iff.2 ⟨v, [], F, [], by simp, by simp, h, rfl, rfl⟩
theorem OwnT.split (n : Nat) : ∀ {f : NdF} {xs : List Value} {F : List Nat}, OwnT w base f xs F → ∃ xs1 xs2 F1 F2, xs = xs1 ++ xs2 ∧ F = F1 ++ F2 ∧ OwnT w base (Fr.take n f) xs1 F1 ∧ OwnT w base (Fr.drop n f) xs2 F2 := by
 induction n with
 | zero => intro f xs F h; exact ⟨[], xs, [], F, rfl, rfl, by cases f <;> exact ⟨rfl, rfl⟩, by cases f <;> exact h⟩
 | succ n ih =>
  intro f xs F h
  cases f with
  | nil => exact ⟨[], xs, [], F, rfl, rfl, ⟨rfl, rfl⟩, h⟩
  | cons a k r =>
   obtain ⟨v, ys, F1, F2, rfl, rfl, h1, h2⟩ := OwnT.cons_iff.1 h
   obtain ⟨ys1, ys2, G1, G2, rfl, rfl, h3, h4⟩ := ih h2
   exact ⟨ndC a v ++ ys1, ys2, F1 ++ G1, G2, by simp, by simp, OwnT.cons_iff.2 ⟨v, ys1, F1, G1, rfl, rfl, h1, h3⟩, h4⟩
theorem OwnT.len (h : OwnT w base f xs F) : xs.length = f.len * 6 := (h.row (S := fun g => g ∈ F) (fun _ h => h)).len
theorem OwnT.at (h : OwnT w base f xs F) {i : Nat} {a : NdD} {k : NdF} (hy : f.get? i = some (a, k)) : ∃ xs1 v xs2 F1 Fk F2, xs = xs1 ++ (ndC a v ++ xs2) ∧ F = F1 ++ (Fk ++ F2) ∧ xs1.length = i * 6 ∧ OwnT w base (Fr.take i f) xs1 F1 ∧ OwnU w base v k Fk ∧ OwnT w base (Fr.drop (i + 1) f) xs2 F2 := by
 obtain ⟨xs1, xs2, F1, F2, rfl, rfl, h1, h2⟩ := h.split i
 rw [(Fr.get_drop hy).1] at h2
 obtain ⟨v, ys, G1, G2, rfl, rfl, h3, h4⟩ := OwnT.cons_iff.1 h2
 exact ⟨xs1, v, ys, F1, G1, G2, rfl, rfl, by rw [h1.len, Fr.len_take _ _ (by have := Fr.get_lt hy; omega)], h1, h3, h4⟩
def updF (i : Nat) (y : Nd) (f : NdF) : NdF := (Fr.take i f).app (.cons y.1 y.2 (Fr.drop (i + 1) f))
theorem OwnT.upd {i : Nat} {a : NdD} {k : NdF} {v : Value} {xs1 xs2 : List Value} {F1 F2 Fk : List Nat} (h1 : OwnT w base (Fr.take i f) xs1 F1) (h2 : OwnU w base v k Fk) (h3 : OwnT w base (Fr.drop (i + 1) f) xs2 F2) : OwnT w base (updF i (a, k) f) (xs1 ++ (ndC a v ++ xs2)) (F1 ++ (Fk ++ F2)) :=
 OwnT.app (OwnT.cons_iff.2 ⟨v, xs2, Fk, F2, rfl, rfl, h2, h3⟩) h1
end
def Keeps (base : Nat) (F : List Nat) (w w' : World) : Prop := Below base w w' ∧ ∀ g, g < w.heap.size → g ∉ F → w'.heap[g]? = w.heap[g]?
theorem Keeps.refl (base : Nat) (F : List Nat) (w : World) : Keeps base F w w := ⟨Below.refl _ _, fun _ _ _ => rfl⟩
theorem Keeps.trans {base : Nat} {F G : List Nat} {a b c : World} (h : Keeps base F a b) (k : Keeps base G b c) (hG : ∀ g, g ∈ G → g ∈ F ∨ a.heap.size ≤ g) : Keeps base F a c :=
 ⟨h.1.trans k.1, fun g hg hF => (k.2 g (Nat.lt_of_lt_of_le hg h.1.size) (fun hm => by rcases hG g hm with h' | h'; exact hF h'; omega)).trans (h.2 g hg hF)⟩
end Go.Proofs.YtodlhgflfcadmaaGreat
