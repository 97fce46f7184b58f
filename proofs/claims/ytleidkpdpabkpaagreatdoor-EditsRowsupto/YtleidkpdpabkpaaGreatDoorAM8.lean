/- TreRefD TreBox EdtRefH TreGetR TreWithR -/
import Derived.Test.YtleidkpdpabkpaaGreatDoorAM7
set_option linter.unusedSimpArgs false
set_option linter.unusedVariables false
set_option maxRecDepth 100000
set_option maxHeartbeats 8000000
namespace Go.Proofs.YtleidkpdpabkpaaGreatDoor
open Go.RowKit
def SameP9 (f : NdF) : Prop := ∀ (g : NdF) (a b : NdD) (A B : Option Addr) (c d : Nat) (w : World), RowT w.heap.size w (.slice A f.len c) f → RowT w.heap.size w (.slice B g.len d) g → f.size ≤ 1000000 → g.size ≤ 1000000 →
  Calls Tryz.prog 32 #[.agg (cN a (.slice A f.len c)), .agg (cN b (.slice B g.len d))] w (Ans9 (.bool (decide (((a, f) : Nd) = (b, g)))) w)
theorem rsame_name (a b : NdD) (A B : Option Addr) (m n c d : Nat) (w : World) (h : (a.name == b.name) = false) :
  Calls Tryz.prog 32 #[.agg (cN a (.slice A m c)), .agg (cN b (.slice B n d))] w (Ans9 (.bool false) w) := by
 have HB : Hid (Below w.heap.size w ((w.alloc (.cells (cN a (.slice A m c)) 42)).alloc (.cells (cN b (.slice B n d)) 42))) := hHd (bAl.alloc (by simp) _)
 have t1 : (txt a.name).toList = a.name := txt_toList _
 have t2 : (txt b.name).toList = b.name := txt_toList _
 go_enter Tryz.func32, Tryz.ntmps32
 go_wp2
 go_ret
 exact ⟨rfl, HB.out⟩
theorem rsame_key (a b : NdD) (A B : Option Addr) (m n c d : Nat) (w : World) (h : (a.name == b.name) = true) (h2 : (a.key == b.key) = false) :
  Calls Tryz.prog 32 #[.agg (cN a (.slice A m c)), .agg (cN b (.slice B n d))] w (Ans9 (.bool false) w) := by
 have HB : Hid (Below w.heap.size w ((w.alloc (.cells (cN a (.slice A m c)) 42)).alloc (.cells (cN b (.slice B n d)) 42))) := hHd (bAl.alloc (by simp) _)
 have t1 : (txt a.name).toList = a.name := txt_toList _
 have t2 : (txt b.name).toList = b.name := txt_toList _
 have t3 : (txt a.key).toList = a.key := txt_toList _
 have t4 : (txt b.key).toList = b.key := txt_toList _
 go_enter Tryz.func32, Tryz.ntmps32
 go_wp2
 go_ret
 exact ⟨rfl, HB.out⟩
theorem rsame_val (a b : NdD) (A B : Option Addr) (m n c d : Nat) (w : World) (h : (a.name == b.name) = true) (h2 : (a.key == b.key) = true) (h3 : ¬ (a.kind = b.kind ∧ a.num = b.num ∧ a.text = b.text)) :
  Calls Tryz.prog 32 #[.agg (cN a (.slice A m c)), .agg (cN b (.slice B n d))] w (Ans9 (.bool false) w) := by
 have HB : Hid (Below w.heap.size w ((w.alloc (.cells (cN a (.slice A m c)) 42)).alloc (.cells (cN b (.slice B n d)) 42))) := hHd (bAl.alloc (by simp) _)
 have t1 : (txt a.name).toList = a.name := txt_toList _
 have t2 : (txt b.name).toList = b.name := txt_toList _
 have t3 : (txt a.key).toList = a.key := txt_toList _
 have t4 : (txt b.key).toList = b.key := txt_toList _
 have t5 : (txt a.text).toList = a.text := txt_toList _
 have t6 : (txt b.text).toList = b.text := txt_toList _
 have e : ((a.kind == b.kind) && ((a.num == b.num) && (a.text == b.text))) = false := by
  rw [Bool.eq_false_iff]
  intro e
  simp only [Bool.and_eq_true, beq_iff_eq] at e
  exact h3 e
 clear h3
 cases e1 : (a.kind == b.kind) with
 | false =>
  clear e
  go_enter Tryz.func32, Tryz.ntmps32
  go_wp2
  go_ret
  exact ⟨rfl, HB.out⟩
 | true =>
  cases e2 : (a.num == b.num) with
  | false =>
   have e2' : ((a.num : Int) == (b.num : Int)) = false := by rw [beq_eq_false_iff_ne] at e2 ⊢; omega
   clear e
   go_enter Tryz.func32, Tryz.ntmps32
   go_wp2
   go_ret
   exact ⟨rfl, HB.out⟩
  | true =>
   have e2' : ((a.num : Int) == (b.num : Int)) = true := by rw [beq_iff_eq] at e2 ⊢; omega
   have e3 : (a.text == b.text) = false := by rw [e1, e2] at e; simpa using e
   clear e
   go_enter Tryz.func32, Tryz.ntmps32
   go_wp2
   go_ret
   exact ⟨rfl, HB.out⟩
theorem rsame_len (a : NdD) (A B : Option Addr) (m n c d : Nat) (w : World) (h : m ≠ n) :
  Calls Tryz.prog 32 #[.agg (cN a (.slice A m c)), .agg (cN a (.slice B n d))] w (Ans9 (.bool false) w) := by
 have HB : Hid (Below w.heap.size w ((w.alloc (.cells (cN a (.slice A m c)) 42)).alloc (.cells (cN a (.slice B n d)) 42))) := hHd (bAl.alloc (by simp) _)
 have t1 : (txt a.name).toList = a.name := txt_toList _
 have t3 : (txt a.key).toList = a.key := txt_toList _
 have t5 : (txt a.text).toList = a.text := txt_toList _
 have e1 : (m == n) = false := beq_eq_false_iff_ne.2 h
 have e2 : ((m : Int) == (n : Int)) = false := by rw [beq_eq_false_iff_ne]; omega
 clear h
 go_enter Tryz.func32, Tryz.ntmps32
 go_wp2
 go_ret
 exact ⟨rfl, HB.out⟩
theorem rsame_row (f g : NdF) (hkids : ∀ n a k, f.get? n = some (a, k) → SameP9 k) (a : NdD) (A B : Option Addr) (c d L : Nat) (w : World) (hf : RowT w.heap.size w (.slice A L c) f) (hg : RowT w.heap.size w (.slice B L d) g) (hsf : f.size ≤ 1000000) (hsg : g.size ≤ 1000000) :
  Calls Tryz.prog 32 #[.agg (cN a (.slice A L c)), .agg (cN a (.slice B L d))] w (Ans9 (.bool (decide (f = g))) w) := by
 have t1 : (txt a.name).toList = a.name := txt_toList _
 have t3 : (txt a.key).toList = a.key := txt_toList _
 have t5 : (txt a.text).toList = a.text := txt_toList _
 have hb2 : Blk ((w.alloc (.cells (cN a (.slice A L c)) 42)).alloc (.cells (cN a (.slice B L d)) 42)) (w.heap.size + 1) 42 (cN a (.slice B L d)) := by
  have h := Blk.new (w.alloc (.cells (cN a (.slice A L c)) 42)) 42 (cN a (.slice B L d))
  rw [show (w.alloc (.cells (cN a (.slice A L c)) 42)).heap.size = w.heap.size + 1 by simp] at h
  exact h
 have HQ := hHd (And.intro ((Blk.new w 42 (cN a (.slice A L c))).alloc (.cells (cN a (.slice B L d)) 42)) (And.intro hb2 (show Below w.heap.size w ((w.alloc (.cells (cN a (.slice A L c)) 42)).alloc (.cells (cN a (.slice B L d)) 42)) from bAl.alloc (by simp) _)))
 have HI := hHd hkids
 have HKF : Hid (RowT w.heap.size w (.slice A L c) f) := hHd hf
 have HKG : Hid (RowT w.heap.size w (.slice B L d) g) := hHd hg
 have HZ := hHd (And.intro hsf hsg)
 have HLF : Hid (L = f.len) := hHd hf.len.1
 have HLG : Hid (L = g.len) := hHd hg.len.1
 have i3 : (L : Int) ≤ 1000000 := by have := HLF.out; have := Fr.len_size f; omega
 clear hkids hf hg hsf hsg hb2
 go_enter Tryz.func32, Tryz.ntmps32
 go_wp2
 go_loopw [5, 6] (fun i v6 wr => ∃ j : Nat, j ≤ L ∧ i = .int .i64 (j : Int) ∧ Hid (∀ n, n < j → f.get? n = g.get? n) ∧ Blk wr w.heap.size 42 (cN a (.slice A L c)) ∧ Blk wr (w.heap.size + 1) 42 (cN a (.slice B L d)) ∧ Below w.heap.size w wr) (fun i _ _ => L - (intOf i).toNat)
 case atStart => exact ⟨0, Nat.zero_le _, rfl, hHd (fun n h => by omega), HQ.out.1, HQ.out.2.1, HQ.out.2.2⟩
 case round =>
  obtain ⟨j, hj, rfl, HL, hX, hY, hB⟩ := hrel
  have HBr := hHd hB
  have p5 : wr.cell? ⟨w.heap.size, 5, none⟩ = some (.slice A L c) := (hX.cell 5).trans rfl
  by_cases hlt : j < L
  ·obtain ⟨a1, q1, hg1⟩ := Fr.get_some (f := f) (n := j) (by have := HLF.out; omega)
   obtain ⟨a2, q2, hg2⟩ := Fr.get_some (f := g) (n := j) (by have := HLG.out; omega)
   obtain ⟨b1, o1, A1, c1, rfl, -, -, hbl1, hrow1, hcl1⟩ := HKF.out.at hg1
   obtain ⟨b2, o2, A2, c2, rfl, -, -, hbl2, hrow2, hcl2⟩ := HKG.out.at hg2
   have i1 : (0 : Int) ≤ (j : Int) := by omega
   have i2 : (j : Int) < (L : Int) := by omega
   obtain ⟨rb, hrb⟩ : ∃ z, z = decide (((a1, q1) : Nd) = (a2, q2)) := ⟨_, rfl⟩
   have HI1 : Hid (Calls Tryz.prog 32 #[.agg (cN a1 (.slice A1 q1.len c1)), .agg (cN a2 (.slice A2 q2.len c2))] wr.drew (Ans9 (.bool rb) wr.drew)) := hHd (by
    rw [hrb]
    exact HI.out j a1 q1 hg1 q2 a1 a2 A1 A2 c1 c2 wr.drew (hrow1.under hB.drew (Nat.le_refl _) hB.size) (hrow2.under hB.drew (Nat.le_refl _) hB.size) (by have := HZ.out.1; have := Fr.size_get hg1; omega) (by have := HZ.out.2; have := Fr.size_get hg2; omega))
   have HQ1 := hHd (And.intro (hX.below (Below.refl _ _).drew hX.lt) (And.intro (hY.below (Below.refl _ _).drew hY.lt) (And.intro (fun i u hu => (hB.drew.cell (p := ⟨b1, o1 + j * 6 + i, none⟩) hbl1).trans (hcl1 i u hu)) (fun i u hu => (hB.drew.cell (p := ⟨b2, o2 + j * 6 + i, none⟩) hbl2).trans (hcl2 i u hu)))))
   have HBd := hHd hB.drew
   have HLL := hHd (And.intro hbl1 hbl2)
   have HG1 := hHd hg1
   have HG2 := hHd hg2
   have HRB := hHd hrb
   clear hcl1 hcl2 hrow1 hrow2 hg1 hg2 hX hY hB hrb hbl1 hbl2
   go_wp2_with fail
   refine wp_region_noPanic ?_
   refine wp_region_held_drew (S := fun _ => True) (by kernel_rfl) trivial (fun hS => ?_)
   refine held_more (S' := fun w' => Blk w' w.heap.size 42 (cN a (.slice (some ⟨b1, o1, none⟩) L c)) ∧ Blk w' (w.heap.size + 1) 42 (cN a (.slice (some ⟨b2, o2, none⟩) L d)) ∧ (∀ i u, (ndC a1 (.slice A1 q1.len c1))[i]? = some u → w'.cell? ⟨b1, o1 + j * 6 + i, none⟩ = some u) ∧ (∀ i u, (ndC a2 (.slice A2 q2.len c2))[i]? = some u → w'.cell? ⟨b2, o2 + j * 6 + i, none⟩ = some u)) (fun _ _ => trivial) _ _ _ _ ?_
   replace hS := HQ1.out
   refine tkH 0 hS ?_
   refine tkH 1 hS ?_ (hy := fun w hSw => by have q5 := (hSw.1.cell 5).trans rfl; (go_simp <;> with_reducible rfl))
   refine tkH 2 hS ?_
   refine tkH 3 hS ?_
   refine tkH 4 hS ?_ (hy := fun w hSw => by have u0 : w.cell? ⟨b1, o1 + j * 6, none⟩ = _ := hSw.2.2.1 0 _ rfl; have u1 := hSw.2.2.1 1 _ rfl; have u2 := hSw.2.2.1 2 _ rfl; have u3 := hSw.2.2.1 3 _ rfl; have u4 := hSw.2.2.1 4 _ rfl; have u5 := hSw.2.2.1 5 _ rfl; (go_simp <;> with_reducible rfl))
   refine tkH 5 hS ?_
   refine tkH 6 hS ?_ (hy := fun w hSw => by have q5 := (hSw.2.1.cell 5).trans rfl; (go_simp <;> with_reducible rfl))
   refine tkH 7 hS ?_
   refine tkH 8 hS ?_
   refine tkH 9 hS ?_ (hy := fun w hSw => by have u0 : w.cell? ⟨b2, o2 + j * 6, none⟩ = _ := hSw.2.2.2 0 _ rfl; have u1 := hSw.2.2.2 1 _ rfl; have u2 := hSw.2.2.2 2 _ rfl; have u3 := hSw.2.2.2 3 _ rfl; have u4 := hSw.2.2.2 4 _ rfl; have u5 := hSw.2.2.2 5 _ rfl; (go_simp <;> with_reducible rfl))
   refine rdy1 10 fun K hK => ?_
   go_simp
   refine HI1.out.mono ?_
   rintro r w6 ⟨rfl, hb6⟩
   have HX6 := hHd (HQ1.out.1.below hb6 HQ1.out.1.lt)
   have HY6 := hHd (HQ1.out.2.1.below hb6 HQ1.out.2.1.lt)
   have HB6 := hHd (HBd.out.trans (hb6.mono HBd.out.size))
   have HW6 := hHd hb6
   clear hb6
   go_wp2_with fail
   refine hK.out _ _ ?sr_0 (fun hS => ?_)
   case sr_0 => (exact ⟨HX6.out, HY6.out, fun i u hu => (HW6.out.cell (p := ⟨b1, o1 + j * 6 + i, none⟩) (Nat.lt_of_lt_of_le HLL.out.1 HBd.out.size)).trans (HQ1.out.2.2.1 i u hu), fun i u hu => (HW6.out.cell (p := ⟨b2, o2 + j * 6 + i, none⟩) (Nat.lt_of_lt_of_le HLL.out.2 HBd.out.size)).trans (HQ1.out.2.2.2 i u hu)⟩)
   clear hK K
   (try simp only [Act.put, layS])
   refine tkH 11 hS ?_
   refine wpAnyH_done (by kernel_rfl) ?_ _
   refine NoPanic.normal ?_
   cases rb with
   | false =>
    have HF : Hid (decide (f = g) = false) := hHd (decide_eq_false (fun e => by
     have h1 := HG1.out
     rw [e, HG2.out] at h1
     injection h1 with h1
     have h2 := HRB.out
     rw [h1] at h2
     simp at h2))
    clear hS p5
    go_wp2
    go_ret
    exact ⟨by rw [HF.out]; rfl, HB6.out⟩
   | true =>
    have HL2 : Hid (∀ n, n < j + 1 → f.get? n = g.get? n) := hHd (fun n hn => by
     by_cases e : n = j
     ·subst e
      have h2 : ((a1, q1) : Nd) = (a2, q2) := of_decide_eq_true HRB.out.symm
      rw [HG1.out, HG2.out, h2]
     ·exact HL.out n (by omega))
    clear hS p5
    go_wp2
    go_roundw
    case rel => exact ⟨j + 1, by omega, by go_num, HL2, HX6.out, HY6.out, HB6.out⟩
    case measure => simp [intOf]; omega
  ·have i2 : ¬ (j : Int) < (L : Int) := by omega
   have HF : Hid (decide (f = g) = true) := hHd (decide_eq_true (Fr.ext (by have := HLF.out; have := HLG.out; omega) (fun n hn => HL.out n (by have := HLF.out; omega))))
   clear hX hY hB
   go_wp2
   go_ret
   exact ⟨by rw [HF.out]; rfl, HBr.out⟩
theorem rsamef_any (f : NdF) : SameP9 f := by
 refine Fr.byKids (P := SameP9) ?_ f
 clear f
 intro f hkids g a b A B c d w hf hg hsf hsg
 by_cases h1 : a.name = b.name
 ·by_cases h2 : a.key = b.key
  ·by_cases h3 : a.kind = b.kind ∧ a.num = b.num ∧ a.text = b.text
   ·obtain rfl : a = b := NdD.ext_ h1 h2 h3.1 h3.2.1 h3.2.2
    by_cases h4 : f.len = g.len
    ·rw [← h4] at hg ⊢
     refine (rsame_row f g hkids a A B c d f.len w hf hg hsf hsg).mono fun _ _ h => h.bool ?_
     by_cases e : f = g
     ·rw [e, decide_eq_true rfl, decide_eq_true rfl]
     ·rw [decide_eq_false e, decide_eq_false (fun h => e (Prod.ext_iff.1 h).2)]
    ·exact (rsame_len a A B _ _ c d w h4).mono fun _ _ h => h.bool (decide_eq_false (fun e => h4 (by rw [show f = g from (Prod.ext_iff.1 e).2]))).symm
   ·exact (rsame_val a b A B _ _ c d w (beq_iff_eq.2 h1) (beq_iff_eq.2 h2) h3).mono fun _ _ h => h.bool (decide_eq_false (fun e => h3 (by rw [show a = b from (Prod.ext_iff.1 e).1]; exact ⟨rfl, rfl, rfl⟩))).symm
  ·exact (rsame_key a b A B _ _ c d w (beq_iff_eq.2 h1) (beq_eq_false_iff_ne.2 h2)).mono fun _ _ h => h.bool (decide_eq_false (fun e => h2 (by rw [show a = b from (Prod.ext_iff.1 e).1]))).symm
 ·exact (rsame_name a b A B _ _ c d w (beq_eq_false_iff_ne.2 h1)).mono fun _ _ h => h.bool (decide_eq_false (fun e => h1 (by rw [show a = b from (Prod.ext_iff.1 e).1]))).symm
theorem rsamet_any (x y : Nd) (cs ds : List Value) (w : World) (hx : LieN w cs x) (hy : LieN w ds y) (hf : Few9 x) (hg : Few9 y) : Calls Tryz.prog 32 #[.agg cs.toArray, .agg ds.toArray] w (Ans9 (.bool (decide (x = y))) w) := by
 obtain ⟨A, c, rfl, hk⟩ := hx.shape
 obtain ⟨B, d, rfl, hk2⟩ := hy.shape
 exact rsamef_any x.2 y.2 x.1 y.1 A B c d w hk hk2 hf hg
def set6 (w : World) (b : Nat) (x0 x1 x2 x3 x4 x5 : Value) : World := (((((w.setCell ⟨b, 0, none⟩ x0).setCell ⟨b, 1, none⟩ x1).setCell ⟨b, 2, none⟩ x2).setCell ⟨b, 3, none⟩ x3).setCell ⟨b, 4, none⟩ x4).setCell ⟨b, 5, none⟩ x5
theorem Blk.set6 {w : World} {b : Nat} {t : TypeId} {y0 y1 y2 y3 y4 y5 : Value} (h : Blk w b t #[y0, y1, y2, y3, y4, y5]) (x0 x1 x2 x3 x4 x5 : Value) : Blk (set6 w b x0 x1 x2 x3 x4 x5) b t #[x0, x1, x2, x3, x4, x5] := by
 have h2 := ((((((h).set_ 0 x0).set_ 1 x1).set_ 2 x2).set_ 3 x3).set_ 4 x4).set_ 5 x5
 simp only [layS] at h2
 exact h2
theorem set6_below {B : Nat} {w : World} {b : Nat} {x0 x1 x2 x3 x4 x5 : Value} (h : B ≤ b) : Below B w (set6 w b x0 x1 x2 x3 x4 x5) :=
 ((((((Below.refl B w).setCell (p := ⟨b, 0, none⟩) h x0).setCell (p := ⟨b, 1, none⟩) h x1).setCell (p := ⟨b, 2, none⟩) h x2).setCell (p := ⟨b, 3, none⟩) h x3).setCell (p := ⟨b, 4, none⟩) h x4).setCell (p := ⟨b, 5, none⟩) h x5
theorem set6_other {w : World} {b g : Nat} {x0 x1 x2 x3 x4 x5 : Value} (h : g ≠ b) : (set6 w b x0 x1 x2 x3 x4 x5).heap[g]? = w.heap[g]? := by
 unfold set6
 rw [Below.heap_setCell _ _ _ _ h, Below.heap_setCell _ _ _ _ h, Below.heap_setCell _ _ _ _ h, Below.heap_setCell _ _ _ _ h, Below.heap_setCell _ _ _ _ h, Below.heap_setCell _ _ _ _ h]
theorem set6_size {w : World} {b : Nat} {x0 x1 x2 x3 x4 x5 : Value} : (set6 w b x0 x1 x2 x3 x4 x5).heap.size = w.heap.size := by simp [set6, World.setCell]
theorem LieB.row {b : Nat} {w : World} {a : NdD} {f : NdF} {v : Value} (h : LieB b w (ndC a v) (a, f)) : RowT b w v f := by
 obtain ⟨A, c, e, h2⟩ := h.shape
 have e2 : v = .slice A f.len c := by
  have := congrArg (fun l => l[5]?) e
  simpa using this
 rw [e2]
 exact h2
theorem LieP.set6 {b B g : Nat} {w : World} {cs : List Value} {x : Nd} (h : LieP b B w cs x) (hg : b ≤ g) (hB : g < B) (x0 x1 x2 x3 x4 x5 : Value) : LieP b B (set6 w g x0 x1 x2 x3 x4 x5) cs x :=
 h.keep (fun k hk => set6_other (by omega)) (fun k hk => by rw [set6_size]; exact hk)
theorem LieP.after {b B B' : Nat} {w : World} {cs : List Value} {x : Nd} (h : LieP b B w cs x) (hB : B' ≤ B) : LieP b B' w cs x :=
 h.keep (fun _ _ => rfl) (fun k hk => by rcases hk with h | h; exact .inl h; exact .inr ⟨by omega, h.2⟩)
theorem LieP.below {b B : Nat} {w w' : World} {cs : List Value} {x : Nd} (h : LieP b B w cs x) (hb : Below w.heap.size w w') (hbw : b ≤ w.heap.size) : LieP b B w' cs x :=
 h.keep (fun k hk => hb.block k (by rcases hk with h | h <;> omega)) (fun k hk => by have := hb.size; rcases hk with h | h; exact .inl h; exact .inr ⟨h.1, by omega⟩)
section
attribute [local go_sem] Oper.semAt_some
theorem red_app18 (V : List UInt8 → Nat) {u : Nat} {d : List UInt8} {q : Fo} {k : Fo} {j : Nat} (h : Fo.drop j k = .cons u d q (Fo.drop (j + 1) k)) : red18 V (Fo.drop j k) = if u = 7 then .cons (kid18 V q) (red18 V q) (red18 V (Fo.drop (j + 1) k)) else red18 V (Fo.drop (j + 1) k) := by rw [h]; rfl
theorem sz_drop18 {u : Nat} {d : List UInt8} {q : Fo} {k : Fo} {j : Nat} (h : Fo.drop j k = .cons u d q (Fo.drop (j + 1) k)) : 1 + d.length + q.sz ≤ k.sz := by
 have h1 := Fo.sz_app (Fo.take j k) (Fo.drop j k)
 rw [Fo.take_app_drop, h] at h1
 simp only [Fo.sz] at h1
 omega
theorem len_sz18 : ∀ k : Fo, k.len ≤ k.sz := by
 intro k
 induction k with
 | nil => exact Nat.le_refl _
 | cons t d k r _ ih => simp only [Fo.len, Fo.sz]; omega
theorem dat_sz18 (t : Nat) : ∀ k : Fo, (dat18 t k).length ≤ k.sz := by
 intro k
 induction k with
 | nil => exact Nat.le_refl _
 | cons u d q r _ ih =>
  simp only [dat18, Fo.sz]
  split <;> omega
def OwnR18 (base : Nat) (w : World) (v : Value) (f : NdF) : Prop := ∃ S, (∀ g, S g → base ≤ g) ∧ OwnG NdT 42 6 5 w base S noB v f
theorem OwnR18.nil (base : Nat) (w : World) : OwnR18 base w (.slice none 0 0) .nil := ⟨fun _ => False, fun _ h => h.elim, OwnG.nil _ _⟩
theorem OwnR18.below {base : Nat} {w w' : World} {v : Value} {f : NdF} (h : OwnR18 base w v f) (hb : Below w.heap.size w w') : OwnR18 base w' v f := by
 obtain ⟨S, h1, h2⟩ := h
 exact ⟨S, h1, h2.below stay_nd hb⟩
theorem OwnR18.shape {base : Nat} {w : World} {v : Value} {f : NdF} (h : OwnR18 base w v f) : ∃ A c, v = .slice A f.len c := h.choose_spec.2.shape
theorem OwnR18.lt {base : Nat} {w : World} {v : Value} {f : NdF} (h : OwnR18 base w v f) : ∀ k, v.ownBlock = some k → base ≤ k ∧ k < w.heap.size := h.choose_spec.2.lt
theorem OwnR18.more {base B : Nat} {w w' : World} {v : Value} {f : NdF} {cs : List Value} {x : Nd} (h : OwnR18 base w v f) (hb : Below w.heap.size w w') (hB : w.heap.size ≤ B) (hbB : base ≤ B) (hx : LieP 0 B w' cs x) :
  ∃ S, (∀ g, S g → base ≤ g) ∧ OwnG NdT 42 6 5 w' base S noB v f ∧ FrN NdT 6 5 w' S noB cs x.1 x.2 := by
 obtain ⟨S, h1, h2⟩ := h
 have h3 := h2.below stay_nd hb
 refine ⟨fun g => S g ∨ (B ≤ g ∧ g < w'.heap.size), fun g hg => hg.elim (h1 g) (fun h => Nat.le_trans hbB h.1), h3.widen stay_nd (fun g hg => .inl hg) (fun _ h => h) (fun g hg => ?_) (fun g hg => absurd hg (by exact id)), ?_⟩
 ·rcases hg with hg | hg
  ·exact h3.1 g hg
  ·refine ⟨hg.2, fun e => ?_⟩
   have := (h2.lt g e.symm).2
   have := hg.1
   omega
 ·exact FrN.mono stay_nd hx (fun g hg => .inr (hg.elim (fun h => absurd h (Nat.not_lt_zero _)) id)) (fun _ h => h)
theorem OwnR18.row {base : Nat} {w : World} {v : Value} {f : NdF} (h : OwnR18 base w v f) : RowP 0 base w v f := by
 obtain ⟨S, h1, h2⟩ := h
 refine FrV.mono stay_nd (h2.frv stay_nd) (fun g hg => ?_) (fun _ h => h)
 rcases hg with hg | hg
 ·exact .inr ⟨h1 g hg, (h2.1 g hg).1⟩
 ·exact .inr (h2.lt g hg)
def Bx18 (w : World) (t : Nat) (d : List UInt8) (A : Option Addr) (k : Fo) (c : Nat) (a : NdD) (v : Value) (W : World) : Prop :=
 Blk W w.heap.size 79 #[.int .u64 (t : Int), .string (txt d), .slice A k.len c] ∧ Blk W (w.heap.size + 1) 42 #[.string ⟨#[]⟩, .string ⟨#[]⟩, .int .i64 0, .int .u64 0, .string ⟨#[]⟩, .slice none 0 0] ∧ Blk W (w.heap.size + 2) 42 (cN a v) ∧ Below w.heap.size w W
theorem Bx18.go {w : World} {t : Nat} {d : List UInt8} {A : Option Addr} {k : Fo} {c : Nat} {a : NdD} {v : Value} {W W' : World} (h : Bx18 w t d A k c a v W) (hb : Below W.heap.size W W') : Bx18 w t d A k c a v W' :=
 ⟨h.1.below hb h.1.lt, h.2.1.below hb h.2.1.lt, h.2.2.1.below hb h.2.2.1.lt, h.2.2.2.trans (hb.mono h.2.2.2.size)⟩
def KidAt18 (k : Fo) : Prop := ∀ (t : Nat) (d : List UInt8) (A : Option Addr) (c : Nat) (w : World), FV DataR w (Lo w) (.slice A k.len c) k → k.sz ≤ 1000000 →
 Calls Tryz.prog 64 #[.agg #[.int .u64 (t : Int), .string (txt d), .slice A k.len c]] w (PTreP1 0 (kid18 V18 k, red18 V18 k) w)
end
def Stp0 (w : World) (g o : Nat) (s : Stp) : Prop := w.cell? ⟨g, o, none⟩ = some (.string (txt s.1)) ∧ w.cell? ⟨g, o + 1, none⟩ = some (.string (txt s.2))
theorem Stp0.below {w w' : World} {g o B : Nat} {s : Stp} (h : Stp0 w g o s) (hg : g < B) (hb : Below B w w') : Stp0 w' g o s := ⟨(hb.cell (p := ⟨g, o, none⟩) hg).trans h.1, (hb.cell (p := ⟨g, o + 1, none⟩) hg).trans h.2⟩
theorem Tryz.cellsNd : (Tryz.prog.info? 42).map (fun i => (i.zero, i.size, i.bytes)) = some (some (.agg #[.string ⟨#[]⟩, .string ⟨#[]⟩, .int .i64 0, .int .u64 0, .string ⟨#[]⟩, .slice none 0 0]), 6, 88) := by kernel_rfl
end Go.Proofs.YtleidkpdpabkpaaGreatDoor
