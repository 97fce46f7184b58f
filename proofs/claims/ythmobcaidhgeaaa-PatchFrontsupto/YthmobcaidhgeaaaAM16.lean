/- TrvC TrvD -/
import Derived.Test.YthmobcaidhgeaaaAM15
import Derived.Shelf.Abstract
set_option linter.unusedSimpArgs false
set_option linter.unusedVariables false
set_option maxRecDepth 100000
set_option maxHeartbeats 8000000
namespace Go.Proofs.Ythmobcaidhgeaaa
open Go.RowKit
def set59 (w : World) (b : Nat) (x0 x1 x2 x3 x4 : Value) : World := ((((w.setCell ⟨b, 0, none⟩ x0).setCell ⟨b, 1, none⟩ x1).setCell ⟨b, 2, none⟩ x2).setCell ⟨b, 3, none⟩ x3).setCell ⟨b, 4, none⟩ x4
theorem Blk.set59 {w : World} {b : Nat} {t : TypeId} {y0 y1 y2 y3 y4 : Value} (h : Blk w b t #[y0, y1, y2, y3, y4]) (x0 x1 x2 x3 x4 : Value) : Blk (set59 w b x0 x1 x2 x3 x4) b t #[x0, x1, x2, x3, x4] := by
 have h2 := (((((h).set_ 0 x0).set_ 1 x1).set_ 2 x2).set_ 3 x3).set_ 4 x4
 simp only [layS] at h2
 exact h2
theorem set59_below {B : Nat} {w : World} {b : Nat} {x0 x1 x2 x3 x4 : Value} (h : B ≤ b) : Below B w (set59 w b x0 x1 x2 x3 x4) :=
 (((((Below.refl B w).setCell (p := ⟨b, 0, none⟩) h x0).setCell (p := ⟨b, 1, none⟩) h x1).setCell (p := ⟨b, 2, none⟩) h x2).setCell (p := ⟨b, 3, none⟩) h x3).setCell (p := ⟨b, 4, none⟩) h x4
theorem set59_other {w : World} {b g : Nat} {x0 x1 x2 x3 x4 : Value} (h : g ≠ b) : (set59 w b x0 x1 x2 x3 x4).heap[g]? = w.heap[g]? := by
 unfold set59
 rw [Below.heap_setCell _ _ _ _ h, Below.heap_setCell _ _ _ _ h, Below.heap_setCell _ _ _ _ h, Below.heap_setCell _ _ _ _ h, Below.heap_setCell _ _ _ _ h]
theorem headof_any (a : NdD) (u : Value) (w : World) :
  Calls Try.prog 56 #[.agg (cN a u)] w (Ans9 (.agg #[.string (txt a.name), .string (txt a.key), .int .i64 a.kind, .int .u64 (a.num : Int), .string (txt a.text)]) w) := by
 have HX : Hid (Blk ((w.alloc (.cells (cN a u) 27)).alloc (.cells #[.string ⟨#[]⟩, .string ⟨#[]⟩, .int .i64 0, .int .u64 0, .string ⟨#[]⟩] 75)).drew w.heap.size 27 (cN a u)) := hHd ((Blk.new w 27 (cN a u)).alloc (.cells #[.string ⟨#[]⟩, .string ⟨#[]⟩, .int .i64 0, .int .u64 0, .string ⟨#[]⟩] 75))
 have HH : Hid (Blk ((w.alloc (.cells (cN a u) 27)).alloc (.cells #[.string ⟨#[]⟩, .string ⟨#[]⟩, .int .i64 0, .int .u64 0, .string ⟨#[]⟩] 75)).drew (w.heap.size + 1) 75 #[.string ⟨#[]⟩, .string ⟨#[]⟩, .int .i64 0, .int .u64 0, .string ⟨#[]⟩]) := hHd (show Blk ((w.alloc (.cells (cN a u) 27)).alloc (.cells #[.string ⟨#[]⟩, .string ⟨#[]⟩, .int .i64 0, .int .u64 0, .string ⟨#[]⟩] 75)) (w.heap.size + 1) 75 #[.string ⟨#[]⟩, .string ⟨#[]⟩, .int .i64 0, .int .u64 0, .string ⟨#[]⟩] from Blk.newA (by simp) _ _)
 have HB : Hid (Below w.heap.size w ((w.alloc (.cells (cN a u) 27)).alloc (.cells #[.string ⟨#[]⟩, .string ⟨#[]⟩, .int .i64 0, .int .u64 0, .string ⟨#[]⟩] 75)).drew) := hHd (bAl.alloc (by simp) _).drew
 go_enter Try.func56, Try.ntmps56
 go_wp2_with fail
 refine wp_region_noPanic ?_
 refine wp_region_held_drew (S := fun _ => True) (by kernel_rfl) trivial (fun hS => ?_)
 refine held_more (S' := fun w' => Blk w' w.heap.size 27 (cN a u)) (fun _ _ => trivial) _ _ _ _ ?_
 replace hS := HX.out
 refine tkH 0 hS ?_ (hy := fun w hSw => by obtain ⟨q0, q1, q2, q3, q4, q5⟩ := cl6 hSw; (go_simp <;> with_reducible rfl))
 refine tkH 2 hS ?_
 refine tkH 3 hS ?_ (hy := fun w hSw => by obtain ⟨q0, q1, q2, q3, q4, q5⟩ := cl6 hSw; (go_simp <;> with_reducible rfl))
 refine rdy1 1 fun K hK => ?_
 go_simp
 refine (stepof_any a u _).mono ?_
 rintro r w3 ⟨rfl, hb3⟩
 have HX3 := hHd (HX.out.below hb3 HX.out.lt)
 have HH3 := hHd (HH.out.below hb3 HH.out.lt)
 have HB3 := hHd (HB.out.trans (hb3.mono HB.out.size))
 clear hb3
 go_wp2_with fail
 refine hK.out _ _ ?sr_0 (fun hS => ?_)
 case sr_0 => (exact HX3.out)
 clear hK K
 (try simp only [Act.put, layS])
 refine tkH 4 hS ?_
 refine rdy1 5 fun K hK => ?_
 have fz0 : (w3).frozen? ⟨w.heap.size + 1, 0, none⟩ = false := HH3.out.frozen 0
 have fz1 : (w3).frozen? ⟨w.heap.size + 1, 1, none⟩ = false := HH3.out.frozen 1
 have fz2 : (w3).frozen? ⟨w.heap.size + 1, 2, none⟩ = false := HH3.out.frozen 2
 have fz3 : (w3).frozen? ⟨w.heap.size + 1, 3, none⟩ = false := HH3.out.frozen 3
 have fz4 : (w3).frozen? ⟨w.heap.size + 1, 4, none⟩ = false := HH3.out.frozen 4
 have fq0 := (HH3.out.cell 0).trans rfl
 have fq1 := (HH3.out.cell 1).trans rfl
 have fq2 := (HH3.out.cell 2).trans rfl
 have fq3 := (HH3.out.cell 3).trans rfl
 have fq4 := (HH3.out.cell 4).trans rfl
 go_simp
 refine hK.out _ _ ?sr_1 (fun hS => ?_)
 case sr_1 => (exact (set59_other (w := w3) (b := w.heap.size + 1) (by omega)).trans HX3.out)
 clear hK K
 (try simp only [Act.put, layS])
 refine wpAnyH_done (by kernel_rfl) ?_ _
 refine NoPanic.normal ?_
 clear hS
 have RZ : Hid (Blk (set59 w3 (w.heap.size + 1) (.string (txt a.name)) (.string (txt a.key)) (.int .i64 a.kind) (.int .u64 (a.num : Int)) (.string (txt a.text))) (w.heap.size + 1) 75 #[.string (txt a.name), .string (txt a.key), .int .i64 a.kind, .int .u64 (a.num : Int), .string (txt a.text)]) := hHd (HH3.out.set59 _ _ _ _ _)
 have HZ : Hid (Below w.heap.size w (set59 w3 (w.heap.size + 1) (.string (txt a.name)) (.string (txt a.key)) (.int .i64 a.kind) (.int .u64 (a.num : Int)) (.string (txt a.text)))) := hHd (HB3.out.trans (set59_below (by omega)))
 go_wp2
 refine bodyPost_ret (results_cell_row rfl _ _ (w.heap.size + 1) 75 _ (0, 0) _ rfl RZ.out Try.underlying75 rfl (by kernel_rfl)) rfl ?_
 exact ⟨rfl, HZ.out⟩
def DSameP (f : NdF) : Prop := ∀ (g : NdF) (a b : NdD) (A B : Option Addr) (c d : Nat) (w : World), RowT w.heap.size w (.slice A f.len c) f → RowT w.heap.size w (.slice B g.len d) g → f.size ≤ 1000000 → g.size ≤ 1000000 →
  Calls Try.prog 49 #[.agg (cN a (.slice A f.len c)), .agg (cN b (.slice B g.len d))] w (Ans9 (.bool (decide (((a, f) : Nd) = (b, g)))) w)
theorem equalf_len (A B : Option Addr) (m n c d : Nat) (fv : Value) (w : World) (h : m ≠ n) :
  Calls Try.prog 57 #[.slice A m c, .slice B n d, fv] w (Ans9 (.bool false) w) := by
 have HB : Hid (Below w.heap.size w w) := hHd (Below.refl _ _)
 have e1 : (m == n) = false := beq_eq_false_iff_ne.2 h
 have e2 : ((m : Int) == (n : Int)) = false := by rw [beq_eq_false_iff_ne]; omega
 have e3 : (m != n) = true := by simp [h]
 clear h
 go_enter Try.func57, Try.ntmps57
 go_wp2
 go_ret
 exact ⟨rfl, HB.out⟩
theorem equalf_row (f g : NdF) (hkids : ∀ n a k, f.get? n = some (a, k) → DSameP k) (A B : Option Addr) (c d L : Nat) (w : World) (hf : RowT w.heap.size w (.slice A L c) f) (hg : RowT w.heap.size w (.slice B L d) g) (hsf : f.size ≤ 1000000) (hsg : g.size ≤ 1000000) :
  Calls Try.prog 57 #[.slice A L c, .slice B L d, .func (.func 49) #[] #[]] w (Ans9 (.bool (decide (f = g))) w) := by
 have HI := hHd hkids
 have HKF : Hid (RowT w.heap.size w (.slice A L c) f) := hHd hf
 have HKG : Hid (RowT w.heap.size w (.slice B L d) g) := hHd hg
 have HZ := hHd (And.intro hsf hsg)
 have HLF : Hid (L = f.len) := hHd hf.len.1
 have HLG : Hid (L = g.len) := hHd hg.len.1
 have i3 : (L : Int) ≤ 1000000 := by have := HLF.out; have := Fr.len_size f; omega
 clear hkids hf hg hsf hsg
 go_enter Try.func57, Try.ntmps57
 go_wp2
 go_loopw [17] (fun i wr => ∃ j : Nat, j ≤ L ∧ i = .int .i64 (j : Int) ∧ Hid (∀ n, n < j → f.get? n = g.get? n) ∧ Below w.heap.size w wr) (fun i _ => L - (intOf i).toNat)
 case atStart => exact ⟨0, Nat.zero_le _, rfl, hHd (fun n h => by omega), Below.refl _ _⟩
 case round =>
  obtain ⟨j, hj, rfl, HL, hB⟩ := hrel
  have HBr := hHd hB
  by_cases hlt : j < L
  ·obtain ⟨a1, q1, hg1⟩ := Fr.get_some (f := f) (n := j) (by have := HLF.out; omega)
   obtain ⟨a2, q2, hg2⟩ := Fr.get_some (f := g) (n := j) (by have := HLG.out; omega)
   obtain ⟨b1, o1, A1, c1, rfl, -, -, hbl1, hrow1, hcl1⟩ := HKF.out.at hg1
   obtain ⟨b2, o2, A2, c2, rfl, -, -, hbl2, hrow2, hcl2⟩ := HKG.out.at hg2
   have i1 : (0 : Int) ≤ (j : Int) := by omega
   have i2 : (j : Int) < (L : Int) := by omega
   obtain ⟨rb, hrb⟩ : ∃ z, z = decide (((a1, q1) : Nd) = (a2, q2)) := ⟨_, rfl⟩
   have hBA : Below w.heap.size w (wr.alloc (.cells (cN a1 (.slice A1 q1.len c1)) 27)) := hB.alloc hB.size _
   have hBB : Below w.heap.size w ((wr.alloc (.cells (cN a1 (.slice A1 q1.len c1)) 27)).alloc (.cells (cN a2 (.slice A2 q2.len c2)) 27)) := hBA.alloc hBA.size _
   have HI1 : Hid (Calls Try.prog 49 #[.agg (cN a1 (.slice A1 q1.len c1)), .agg (cN a2 (.slice A2 q2.len c2))] ((wr.alloc (.cells (cN a1 (.slice A1 q1.len c1)) 27)).alloc (.cells (cN a2 (.slice A2 q2.len c2)) 27)) (Ans9 (.bool rb) ((wr.alloc (.cells (cN a1 (.slice A1 q1.len c1)) 27)).alloc (.cells (cN a2 (.slice A2 q2.len c2)) 27)))) := hHd (by
    rw [hrb]
    exact HI.out j a1 q1 hg1 q2 a1 a2 A1 A2 c1 c2 ((wr.alloc (.cells (cN a1 (.slice A1 q1.len c1)) 27)).alloc (.cells (cN a2 (.slice A2 q2.len c2)) 27)) (hrow1.under hBB (Nat.le_refl _) hBB.size) (hrow2.under hBB (Nat.le_refl _) hBB.size) (by have := HZ.out.1; have := Fr.size_get hg1; omega) (by have := HZ.out.2; have := Fr.size_get hg2; omega))
   have hcell : ∀ i u, (ndC a1 (.slice A1 q1.len c1))[i]? = some u → wr.cell? ⟨b1, o1 + j * 6 + i, none⟩ = some u := fun i u hu => (hB.cell (p := ⟨b1, o1 + j * 6 + i, none⟩) hbl1).trans (hcl1 i u hu)
   have hcel2 : ∀ i u, (ndC a2 (.slice A2 q2.len c2))[i]? = some u → (wr.alloc (.cells (cN a1 (.slice A1 q1.len c1)) 27)).cell? ⟨b2, o2 + j * 6 + i, none⟩ = some u := fun i u hu => (hBA.cell (p := ⟨b2, o2 + j * 6 + i, none⟩) hbl2).trans (hcl2 i u hu)
   have s0 : (wr).cell? ⟨b1, o1 + j * 6, none⟩ = _ := hcell 0 _ rfl
   have s1 : (wr).cell? ⟨b1, o1 + j * 6 + 1, none⟩ = _ := hcell 1 _ rfl
   have s2 : (wr).cell? ⟨b1, o1 + j * 6 + 2, none⟩ = _ := hcell 2 _ rfl
   have s3 : (wr).cell? ⟨b1, o1 + j * 6 + 3, none⟩ = _ := hcell 3 _ rfl
   have s4 : (wr).cell? ⟨b1, o1 + j * 6 + 4, none⟩ = _ := hcell 4 _ rfl
   have s5 : (wr).cell? ⟨b1, o1 + j * 6 + 5, none⟩ = _ := hcell 5 _ rfl
   have p0 : (wr.alloc (.cells (cN a1 (.slice A1 q1.len c1)) 27)).cell? ⟨b2, o2 + j * 6, none⟩ = _ := hcel2 0 _ rfl
   have p1 : (wr.alloc (.cells (cN a1 (.slice A1 q1.len c1)) 27)).cell? ⟨b2, o2 + j * 6 + 1, none⟩ = _ := hcel2 1 _ rfl
   have p2 : (wr.alloc (.cells (cN a1 (.slice A1 q1.len c1)) 27)).cell? ⟨b2, o2 + j * 6 + 2, none⟩ = _ := hcel2 2 _ rfl
   have p3 : (wr.alloc (.cells (cN a1 (.slice A1 q1.len c1)) 27)).cell? ⟨b2, o2 + j * 6 + 3, none⟩ = _ := hcel2 3 _ rfl
   have p4 : (wr.alloc (.cells (cN a1 (.slice A1 q1.len c1)) 27)).cell? ⟨b2, o2 + j * 6 + 4, none⟩ = _ := hcel2 4 _ rfl
   have p5 : (wr.alloc (.cells (cN a1 (.slice A1 q1.len c1)) 27)).cell? ⟨b2, o2 + j * 6 + 5, none⟩ = _ := hcel2 5 _ rfl
   have HG1 := hHd hg1
   have HG2 := hHd hg2
   have HRB := hHd hrb
   have HBB := hHd hBB
   clear hcl1 hcl2 hrow1 hrow2 hg1 hg2 hB hrb hbl1 hbl2 hBA hBB hcell hcel2
   cases rb with
   | false =>
    have HF : Hid (decide (f = g) = false) := hHd (decide_eq_false (fun e => by
     have h1 := HG1.out
     rw [e, HG2.out] at h1
     injection h1 with h1
     have h2 := HRB.out
     rw [h1] at h2
     simp at h2))
    go_wp2_with fail
    refine HI1.out.mono ?_
    rintro r w2 ⟨rfl, hb⟩
    have HB2 := hHd (HBB.out.trans (hb.mono HBB.out.size))
    clear hb s0 s1 s2 s3 s4 s5 p0 p1 p2 p3 p4 p5
    go_wp2
    go_ret
    exact ⟨by rw [HF.out]; rfl, HB2.out⟩
   | true =>
    have HL2 : Hid (∀ n, n < j + 1 → f.get? n = g.get? n) := hHd (fun n hn => by
     by_cases e : n = j
     ·subst e
      have h2 : ((a1, q1) : Nd) = (a2, q2) := of_decide_eq_true HRB.out.symm
      rw [HG1.out, HG2.out, h2]
     ·exact HL.out n (by omega))
    go_wp2_with fail
    refine HI1.out.mono ?_
    rintro r w2 ⟨rfl, hb⟩
    have HB2 := hHd (HBB.out.trans (hb.mono HBB.out.size))
    clear hb s0 s1 s2 s3 s4 s5 p0 p1 p2 p3 p4 p5
    go_wp2
    go_roundw
    case rel => exact ⟨j + 1, by omega, by go_num, HL2, HB2.out⟩
    case measure => simp [intOf]; omega
  ·have i2 : ¬ (j : Int) < (L : Int) := by omega
   have HF : Hid (decide (f = g) = true) := hHd (decide_eq_true (Fr.ext (by have := HLF.out; have := HLG.out; omega) (fun n hn => HL.out n (by have := HLF.out; omega))))
   clear hB
   go_wp2
   go_ret
   exact ⟨by rw [HF.out]; rfl, HBr.out⟩
theorem dsame_not (a b : NdD) (A B : Option Addr) (m n c d : Nat) (w : World) (h : a ≠ b) :
  Calls Try.prog 49 #[.agg (cN a (.slice A m c)), .agg (cN b (.slice B n d))] w (Ans9 (.bool false) w) := by
 have hb2 : Blk ((w.alloc (.cells (cN a (.slice A m c)) 27)).alloc (.cells (cN b (.slice B n d)) 27)) (w.heap.size + 1) 27 (cN b (.slice B n d)) := Blk.newA (by simp) _ _
 have HQ : Hid ((Blk ((w.alloc (.cells (cN a (.slice A m c)) 27)).alloc (.cells (cN b (.slice B n d)) 27)).drew w.heap.size 27 (cN a (.slice A m c)) ∧ Blk ((w.alloc (.cells (cN a (.slice A m c)) 27)).alloc (.cells (cN b (.slice B n d)) 27)).drew (w.heap.size + 1) 27 (cN b (.slice B n d))) ∧ Below w.heap.size w ((w.alloc (.cells (cN a (.slice A m c)) 27)).alloc (.cells (cN b (.slice B n d)) 27)).drew) := hHd ⟨⟨(Blk.new w 27 (cN a (.slice A m c))).alloc _, hb2⟩, (bAl.alloc (by simp) _).drew⟩
 have HE : Hid (∀ (α : Type) (R1 R0 : α), (if (txt a.name).toList = (txt b.name).toList then if (txt a.key).toList = (txt b.key).toList then if a.kind = b.kind then if (a.num : Int) = (b.num : Int) then if (txt a.text).toList = (txt b.text).toList then R1 else R0 else R0 else R0 else R0 else R0) = R0) := hHd (by
  intro α R1 R0
  simp only [txt_toList]
  split
  ·split
   ·split
    ·split
     ·split
      ·exact absurd (NdD.ext_ ‹_› ‹_› ‹_› (by omega) ‹_›) h
      ·rfl
     ·rfl
    ·rfl
   ·rfl
  ·rfl)
 clear hb2 h
 go_enter Try.func49, Try.ntmps49
 go_wp2_with fail
 refine wp_region_noPanic ?_
 refine wp_region_held_drew (S := fun _ => True) (by kernel_rfl) trivial (fun hS => ?_)
 refine held_more (S' := fun w' => Blk w' w.heap.size 27 (cN a (.slice A m c)) ∧ Blk w' (w.heap.size + 1) 27 (cN b (.slice B n d))) (fun _ _ => trivial) _ _ _ _ ?_
 replace hS := HQ.out.1
 refine tkH 0 hS ?_ (hy := fun w hSw => by obtain ⟨q0, q1, q2, q3, q4, q5⟩ := cl6 hSw.1; (go_simp <;> with_reducible rfl))
 refine tkH 2 hS ?_ (hy := fun w hSw => by obtain ⟨q0, q1, q2, q3, q4, q5⟩ := cl6 hSw.2; (go_simp <;> with_reducible rfl))
 refine rdy1 1 fun K hK => ?_
 go_simp
 refine (headof_any a _ _).mono ?_
 rintro r w3 ⟨rfl, hb3⟩
 have HS3 := hHd (And.intro (HQ.out.1.1.below hb3 HQ.out.1.1.lt) (HQ.out.1.2.below hb3 HQ.out.1.2.lt))
 have HB3 := hHd (HQ.out.2.trans (hb3.mono HQ.out.2.size))
 clear hb3
 go_wp2_with fail
 refine hK.out _ _ ?sr_2 (fun hS => ?_)
 case sr_2 => (exact HS3.out)
 clear hK K
 (try simp only [Act.put, layS])
 refine rdy1 3 fun K hK => ?_
 go_simp
 refine (headof_any b _ _).mono ?_
 rintro r w4 ⟨rfl, hb4⟩
 have HS4 := hHd (And.intro (HS3.out.1.below hb4 HS3.out.1.lt) (HS3.out.2.below hb4 HS3.out.2.lt))
 have HB4 := hHd (HB3.out.trans (hb4.mono HB3.out.size))
 clear hb4
 go_wp2_with fail
 refine hK.out _ _ ?sr_3 (fun hS => ?_)
 case sr_3 => (exact HS4.out)
 clear hK K
 (try simp only [Act.put, layS])
 refine tkH 4 hS ?_ (hy := fun w hSw => by have he := HE.out; (go_simp <;> with_reducible rfl))
 refine tkH 5 hS ?_
 refine tkHo 6 hS ?_
 refine tkHo 7 hS ?_
 refine tkHo 8 hS ?_
 refine tkHo 9 hS ?_
 refine tkHo 10 hS ?_
 refine tkH 11 hS ?_
 refine tkH 12 hS ?_
 refine wpAnyH_done (by kernel_rfl) ?_ _
 refine NoPanic.normal ?_
 clear hS
 go_wp2
 go_ret
 exact ⟨rfl, HB4.out⟩
theorem dsame_heads (a : NdD) (A B : Option Addr) (m n c d : Nat) (rb : Bool) (w : World)
  (hq : ∀ W, Below w.heap.size w W → Calls Try.prog 57 #[.slice A m c, .slice B n d, .func (.func 49) #[] #[]] W (Ans9 (.bool rb) W)) :
  Calls Try.prog 49 #[.agg (cN a (.slice A m c)), .agg (cN a (.slice B n d))] w (Ans9 (.bool rb) w) := by
 have hb2 : Blk ((w.alloc (.cells (cN a (.slice A m c)) 27)).alloc (.cells (cN a (.slice B n d)) 27)) (w.heap.size + 1) 27 (cN a (.slice B n d)) := Blk.newA (by simp) _ _
 have HQ : Hid ((Blk ((w.alloc (.cells (cN a (.slice A m c)) 27)).alloc (.cells (cN a (.slice B n d)) 27)).drew w.heap.size 27 (cN a (.slice A m c)) ∧ Blk ((w.alloc (.cells (cN a (.slice A m c)) 27)).alloc (.cells (cN a (.slice B n d)) 27)).drew (w.heap.size + 1) 27 (cN a (.slice B n d))) ∧ Below w.heap.size w ((w.alloc (.cells (cN a (.slice A m c)) 27)).alloc (.cells (cN a (.slice B n d)) 27)).drew) := hHd ⟨⟨(Blk.new w 27 (cN a (.slice A m c))).alloc _, hb2⟩, (bAl.alloc (by simp) _).drew⟩
 have HC := hHd hq
 clear hb2 hq
 go_enter Try.func49, Try.ntmps49
 go_wp2_with fail
 refine wp_region_noPanic ?_
 refine wp_region_held_drew (S := fun _ => True) (by kernel_rfl) trivial (fun hS => ?_)
 refine held_more (S' := fun w' => Blk w' w.heap.size 27 (cN a (.slice A m c)) ∧ Blk w' (w.heap.size + 1) 27 (cN a (.slice B n d))) (fun _ _ => trivial) _ _ _ _ ?_
 replace hS := HQ.out.1
 refine tkH 0 hS ?_ (hy := fun w hSw => by obtain ⟨q0, q1, q2, q3, q4, q5⟩ := cl6 hSw.1; (go_simp <;> with_reducible rfl))
 refine tkH 2 hS ?_ (hy := fun w hSw => by obtain ⟨q0, q1, q2, q3, q4, q5⟩ := cl6 hSw.2; (go_simp <;> with_reducible rfl))
 refine rdy1 1 fun K hK => ?_
 go_simp
 refine (headof_any a _ _).mono ?_
 rintro r w3 ⟨rfl, hb3⟩
 have HS3 := hHd (And.intro (HQ.out.1.1.below hb3 HQ.out.1.1.lt) (HQ.out.1.2.below hb3 HQ.out.1.2.lt))
 have HB3 := hHd (HQ.out.2.trans (hb3.mono HQ.out.2.size))
 clear hb3
 go_wp2_with fail
 refine hK.out _ _ ?sr_4 (fun hS => ?_)
 case sr_4 => (exact HS3.out)
 clear hK K
 (try simp only [Act.put, layS])
 refine rdy1 3 fun K hK => ?_
 go_simp
 refine (headof_any a _ _).mono ?_
 rintro r w4 ⟨rfl, hb4⟩
 have HS4 := hHd (And.intro (HS3.out.1.below hb4 HS3.out.1.lt) (HS3.out.2.below hb4 HS3.out.2.lt))
 have HB4 := hHd (HB3.out.trans (hb4.mono HB3.out.size))
 clear hb4
 go_wp2_with fail
 refine hK.out _ _ ?sr_5 (fun hS => ?_)
 case sr_5 => (exact HS4.out)
 clear hK K
 (try simp only [Act.put, layS])
 refine tkH 4 hS ?_
 refine tkH 5 hS ?_
 refine tkH 6 hS ?_
 refine tkH 7 hS ?_ (hy := fun w hSw => by have q5 := (hSw.1.cell 5).trans rfl; (go_simp <;> with_reducible rfl))
 refine tkH 8 hS ?_
 refine tkH 9 hS ?_ (hy := fun w hSw => by have q5 := (hSw.2.cell 5).trans rfl; (go_simp <;> with_reducible rfl))
 refine rdy1 10 fun K hK => ?_
 go_simp
 refine (HC.out _ HB4.out).mono ?_
 rintro r w5 ⟨rfl, hb5⟩
 have HS5 := hHd (And.intro (HS4.out.1.below hb5 HS4.out.1.lt) (HS4.out.2.below hb5 HS4.out.2.lt))
 have HB5 := hHd (HB4.out.trans (hb5.mono HB4.out.size))
 clear hb5
 go_wp2_with fail
 refine hK.out _ _ ?sr_6 (fun hS => ?_)
 case sr_6 => (exact HS5.out)
 clear hK K
 (try simp only [Act.put, layS])
 refine tkH 11 hS ?_
 refine tkH 12 hS ?_
 refine wpAnyH_done (by kernel_rfl) ?_ _
 refine NoPanic.normal ?_
 clear hS
 go_wp2
 go_ret
 exact ⟨rfl, HB5.out⟩
theorem dsamef_any (f : NdF) : DSameP f := by
 refine Fr.byKids (P := DSameP) ?_ f
 clear f
 intro f hkids g a b A B c d w hf hg hsf hsg
 by_cases h1 : a = b
 ·subst h1
  refine (dsame_heads a A B _ _ c d (decide (f = g)) w (fun W hW => ?_)).mono fun _ _ h => h.bool ?_
  ·by_cases h4 : f.len = g.len
   ·rw [← h4] at hg ⊢
    exact equalf_row f g hkids A B c d f.len W (hf.under hW (Nat.le_refl _) hW.size) (hg.under hW (Nat.le_refl _) hW.size) hsf hsg
   ·exact (equalf_len A B _ _ c d _ W h4).mono fun _ _ h => h.bool (decide_eq_false (fun e => h4 (by rw [e]))).symm
  ·by_cases e : f = g
   ·rw [e, decide_eq_true rfl, decide_eq_true rfl]
   ·rw [decide_eq_false e, decide_eq_false (fun h => e (Prod.ext_iff.1 h).2)]
 ·exact (dsame_not a b A B _ _ c d w h1).mono fun _ _ h => h.bool (decide_eq_false (fun e => h1 (Prod.ext_iff.1 e).1)).symm
theorem sameT (W0 : World) : SameTC W0 := by
 intro x y cs ds w hx hy hf hg _
 obtain ⟨A, c, rfl, hk⟩ := hx.shape
 obtain ⟨B, d, rfl, hk2⟩ := hy.shape
 exact dsamef_any x.2 y.2 x.1 y.1 A B c d w hk hk2 hf hg
def ixP (p : NdD → Bool) : NdF → Option Nat
 | .nil => none
 | .cons a _ r => if p a = true then some 0 else (ixP p r).map (· + 1)
def ixI (p : NdD → Bool) (f : NdF) : Int := match ixP p f with
 | none => -1
 | some i => (i : Int)
theorem ix_lt {p : NdD → Bool} : ∀ {f : NdF} {i : Nat}, (∀ j, j < i → ∀ y, f.get? j = some y → p y.1 = false) → (∃ y, f.get? i = some y ∧ p y.1 = true) → ixP p f = some i := by
 intro f
 induction f with
 | nil => intro i _ ⟨y, h, _⟩; cases h
 | cons a k r _ ih =>
  intro i h1 ⟨y, h2, h3⟩
  cases i with
  | zero =>
   injection h2 with h2
   subst h2
   simp only [ixP]
   rw [if_pos h3]
  | succ i =>
   have h4 := h1 0 (by omega) (a, k) rfl
   have h5 := ih (i := i) (fun j hj y hy => h1 (j + 1) (by omega) y hy) ⟨y, h2, h3⟩
   simp only [ixP]
   rw [if_neg (by rw [h4]; simp), h5]
   rfl
theorem ix_out {p : NdD → Bool} : ∀ {f : NdF}, (∀ j, j < f.len → ∀ y, f.get? j = some y → p y.1 = false) → ixP p f = none := by
 intro f
 induction f with
 | nil => intro _; rfl
 | cons a k r _ ih =>
  intro h
  have h4 := h 0 (by simp [Fr.len]) (a, k) rfl
  simp only [ixP]
  rw [if_neg (by rw [h4]; simp), ih (fun j hj y hy => h (j + 1) (by simp only [Fr.len]; omega) y hy)]
  rfl
theorem ix_find (s : Stp) : ∀ (f : NdF), ixP (fun a => decide (stp a = s)) f = findN s f := by
 intro f
 induction f with
 | nil => rfl
 | cons a k r _ ih =>
  simp only [ixP, findN, decide_eq_true_eq]
  rw [ih]
theorem ixI_find (s : Stp) (f : NdF) : ixI (fun a => decide (stp a = s)) f = findIx s f := by
 unfold ixI findIx
 rw [ix_find]
 cases findN s f <;> rfl
theorem indexf_any (p : NdD → Bool) (fn : Nat) (cap : Array Value) (f : NdF) (A : Option Addr) (c : Nat) (w : World) (hk : RowT w.heap.size w (.slice A f.len c) f) (hl : f.len ≤ 1000000)
  (hq : ∀ (a : NdD) (v : Value) (W : World), v.oneCell' = true → Below w.heap.size w W → Calls Try.prog fn (#[.agg (cN a v)] ++ cap) W (Ans9 (.bool (p a)) W))
  (he : ∀ args W, (callFunc fn args).run Try.prog W = .ok (.enter fn args) W) :
  Calls Try.prog 51 #[.slice A f.len c, .func (.func fn) #[] cap] w (Ans9 (.int .i64 (ixI p f)) w) := by
 have HK : Hid (RowT w.heap.size w (.slice A f.len c) f) := hHd hk
 have HLL : Hid (f.len ≤ 1000000) := hHd hl
 have HQ := hHd hq
 clear hk hl hq
 go_enter Try.func51, Try.ntmps51
 go_wp2
 go_loopw [8] (fun i wr => ∃ k : Nat, k ≤ f.len ∧ i = .int .i64 (k : Int) ∧ Hid (∀ j, j < k → ∀ y, f.get? j = some y → p y.1 = false) ∧ Below w.heap.size w wr) (fun i _ => f.len - (intOf i).toNat)
 case atStart => exact ⟨0, Nat.zero_le _, rfl, hHd (fun j h => by omega), Below.refl _ _⟩
 case round =>
  obtain ⟨k, hk, rfl, HL, hB⟩ := hrel
  have HBr := hHd hB
  by_cases hlt : k < f.len
  ·obtain ⟨a1, q, hg⟩ := Fr.get_some hlt
   obtain ⟨b, o, A', c', rfl, -, -, hbl, -, hcl⟩ := HK.out.at hg
   have i1 : (0 : Int) ≤ (k : Int) := by omega
   have i2 : (k : Int) < (f.len : Int) := by omega
   have i3 : (f.len : Int) ≤ 1000000 := by have := HLL.out; omega
   have hcell : ∀ i u, (ndC a1 (.slice A' q.len c'))[i]? = some u → wr.cell? ⟨b, o + k * 6 + i, none⟩ = some u := fun i u hu => (hB.cell (p := ⟨b, o + k * 6 + i, none⟩) hbl).trans (hcl i u hu)
   have s0 : (wr).cell? ⟨b, o + k * 6, none⟩ = _ := hcell 0 _ rfl
   have s1 : (wr).cell? ⟨b, o + k * 6 + 1, none⟩ = _ := hcell 1 _ rfl
   have s2 : (wr).cell? ⟨b, o + k * 6 + 2, none⟩ = _ := hcell 2 _ rfl
   have s3 : (wr).cell? ⟨b, o + k * 6 + 3, none⟩ = _ := hcell 3 _ rfl
   have s4 : (wr).cell? ⟨b, o + k * 6 + 4, none⟩ = _ := hcell 4 _ rfl
   have s5 : (wr).cell? ⟨b, o + k * 6 + 5, none⟩ = _ := hcell 5 _ rfl
   obtain ⟨rb, hrb⟩ : ∃ z, z = p a1 := ⟨_, rfl⟩
   have HC : Hid (Calls Try.prog fn (#[.agg (cN a1 (.slice A' q.len c'))] ++ cap) wr (Ans9 (.bool rb) wr)) := hHd (by rw [hrb]; exact HQ.out a1 _ wr rfl hB)
   have HG := hHd hg
   have HRB := hHd hrb
   clear hcl hg hcell hB hbl hrb
   cases rb with
   | true =>
    have HF : Hid (ixI p f = (k : Int)) := hHd (by unfold ixI; rw [ix_lt HL.out ⟨_, HG.out, HRB.out.symm⟩])
    go_wp2_with fail
    refine HC.out.mono ?_
    rintro r w2 ⟨rfl, hb⟩
    have HB2 := hHd (HBr.out.trans (hb.mono HBr.out.size))
    clear hb s0 s1 s2 s3 s4 s5
    go_wp2
    go_ret
    exact ⟨by rw [HF.out]; rfl, HB2.out⟩
   | false =>
    have HL2 : Hid (∀ j, j < k + 1 → ∀ y, f.get? j = some y → p y.1 = false) := hHd (fun j hj y hy => by
     by_cases e : j = k
     ·subst e; rw [HG.out] at hy; injection hy with hy; subst hy; exact HRB.out.symm
     ·exact HL.out j (by omega) y hy)
    go_wp2_with fail
    refine HC.out.mono ?_
    rintro r w2 ⟨rfl, hb⟩
    have HB2 := hHd (HBr.out.trans (hb.mono HBr.out.size))
    clear hb s0 s1 s2 s3 s4 s5
    go_wp2
    go_roundw
    case rel => exact ⟨k + 1, by omega, by go_num, HL2, HB2.out⟩
    case measure => simp [intOf]; omega
  ·have HF : Hid (ixI p f = -1) := hHd (by unfold ixI; rw [ix_out (fun j hj y hy => HL.out j (by omega) y hy)])
   have i2 : ¬ (k : Int) < (f.len : Int) := by omega
   clear hB
   go_wp2
   go_ret
   exact ⟨by rw [HF.out]; rfl, HBr.out⟩
theorem find1_any (a : NdD) (v : Value) (s : Stp) (g : Nat) (w : World) (hg : Blk w g 47 #[.string (txt s.1), .string (txt s.2)]) :
  Calls Try.prog 52 #[.agg (cN a v), .pointer (some ⟨g, 0, none⟩)] w (Ans9 (.bool (decide (stp a = s))) w) := by
 have HQ : Hid ((Blk (w.alloc (.cells (cN a v) 27)).drew w.heap.size 27 (cN a v) ∧ Blk (w.alloc (.cells (cN a v) 27)).drew g 47 #[.string (txt s.1), .string (txt s.2)]) ∧ Below w.heap.size w (w.alloc (.cells (cN a v) 27)).drew) := hHd ⟨⟨Blk.new w 27 (cN a v), hg.alloc _⟩, bAl.drew⟩
 clear hg
 cases hs : decide (stp a = s) with
 | true =>
  have e : stp a = s := of_decide_eq_true hs
  have e1 : (txt a.name).toList = (txt s.1).toList := by rw [← e]; rfl
  have e2 : (txt a.key).toList = (txt s.2).toList := by rw [← e]; rfl
  have E1 := hHd e1
  have E2 := hHd e2
  clear e e1 e2 hs
  go_enter Try.func52, Try.ntmps52
  go_wp2_with fail
  refine wp_region_noPanic ?_
  refine wp_region_held_drew (S := fun _ => True) (by kernel_rfl) trivial (fun hS => ?_)
  refine held_more (S' := fun w' => Blk w' w.heap.size 27 (cN a v) ∧ Blk w' g 47 #[.string (txt s.1), .string (txt s.2)]) (fun _ _ => trivial) _ _ _ _ ?_
  replace hS := HQ.out.1
  refine tkH 0 hS ?_ (hy := fun w hSw => by obtain ⟨q0, q1, q2, q3, q4, q5⟩ := cl6 hSw.1; (go_simp <;> with_reducible rfl))
  refine tkH 2 hS ?_ (hy := fun w hSw => by have q0 := (hSw.2.cell 0).trans rfl; have q1 := (hSw.2.cell 1).trans rfl; (go_simp <;> with_reducible rfl))
  refine rdy1 1 fun K hK => ?_
  go_simp
  refine (stepof_any a v _).mono ?_
  rintro r w3 ⟨rfl, hb3⟩
  have HS3 := hHd (And.intro (HQ.out.1.1.below hb3 HQ.out.1.1.lt) (HQ.out.1.2.below hb3 HQ.out.1.2.lt))
  have HB3 := hHd (HQ.out.2.trans (hb3.mono HQ.out.2.size))
  clear hb3
  go_wp2_with fail
  refine hK.out _ _ ?sr_0 (fun hS => ?_)
  case sr_0 => (exact HS3.out)
  clear hK K
  (try simp only [Act.put, layS])
  refine tkH 3 hS ?_ (hy := fun w hSw => by have e1 := E1.out; have e2 := E2.out; (go_simp <;> with_reducible rfl))
  refine tkH 4 hS ?_
  refine wpAnyH_done (by kernel_rfl) ?_ _
  refine NoPanic.normal ?_
  clear hS
  go_wp2
  go_ret
  exact ⟨rfl, HB3.out⟩
 | false =>
  have hne : stp a ≠ s := of_decide_eq_false hs
  have HE : Hid (∀ (α : Type) (R1 R0 : α), (if (txt a.name).toList = (txt s.1).toList then if (txt a.key).toList = (txt s.2).toList then R1 else R0 else R0) = R0) := hHd (by
   intro α R1 R0
   simp only [txt_toList]
   split
   ·split
    ·exact absurd (Prod.ext ‹_› ‹_›) hne
    ·rfl
   ·rfl)
  clear hne hs
  go_enter Try.func52, Try.ntmps52
  go_wp2_with fail
  refine wp_region_noPanic ?_
  refine wp_region_held_drew (S := fun _ => True) (by kernel_rfl) trivial (fun hS => ?_)
  refine held_more (S' := fun w' => Blk w' w.heap.size 27 (cN a v) ∧ Blk w' g 47 #[.string (txt s.1), .string (txt s.2)]) (fun _ _ => trivial) _ _ _ _ ?_
  replace hS := HQ.out.1
  refine tkH 0 hS ?_ (hy := fun w hSw => by obtain ⟨q0, q1, q2, q3, q4, q5⟩ := cl6 hSw.1; (go_simp <;> with_reducible rfl))
  refine tkH 2 hS ?_ (hy := fun w hSw => by have q0 := (hSw.2.cell 0).trans rfl; have q1 := (hSw.2.cell 1).trans rfl; (go_simp <;> with_reducible rfl))
  refine rdy1 1 fun K hK => ?_
  go_simp
  refine (stepof_any a v _).mono ?_
  rintro r w3 ⟨rfl, hb3⟩
  have HS3 := hHd (And.intro (HQ.out.1.1.below hb3 HQ.out.1.1.lt) (HQ.out.1.2.below hb3 HQ.out.1.2.lt))
  have HB3 := hHd (HQ.out.2.trans (hb3.mono HQ.out.2.size))
  clear hb3
  go_wp2_with fail
  refine hK.out _ _ ?sr_1 (fun hS => ?_)
  case sr_1 => (exact HS3.out)
  clear hK K
  (try simp only [Act.put, layS])
  refine tkH 3 hS ?_ (hy := fun w hSw => by have he := HE.out; (go_simp <;> with_reducible rfl))
  refine tkH 4 hS ?_
  refine wpAnyH_done (by kernel_rfl) ?_ _
  refine NoPanic.normal ?_
  clear hS
  go_wp2
  go_ret
  exact ⟨rfl, HB3.out⟩
theorem find_any (s : Stp) (f : NdF) (A : Option Addr) (c : Nat) (w : World) (hk : RowT w.heap.size w (.slice A f.len c) f) (hl : f.len ≤ 1000000) :
  Calls Try.prog 44 #[.slice A f.len c, .agg #[.string (txt s.1), .string (txt s.2)]] w (Ans9 (.int .i64 (findIx s f)) w) := by
 have hb : Blk (w.alloc (.cells #[.string (txt s.1), .string (txt s.2)] 47)) w.heap.size 47 #[.string (txt s.1), .string (txt s.2)] := Blk.new _ _ _
 have hB : Below w.heap.size w (w.alloc (.cells #[.string (txt s.1), .string (txt s.2)] 47)) := bAl
 have HC : Hid (Calls Try.prog 51 #[.slice A f.len c, .func (.func 52) #[] #[.pointer (some ⟨w.heap.size, 0, none⟩)]] (w.alloc (.cells #[.string (txt s.1), .string (txt s.2)] 47)) (Ans9 (.int .i64 (findIx s f)) (w.alloc (.cells #[.string (txt s.1), .string (txt s.2)] 47)))) := hHd (by
  rw [← ixI_find]
  exact indexf_any (fun a => decide (stp a = s)) 52 #[.pointer (some ⟨w.heap.size, 0, none⟩)] f A c (w.alloc (.cells #[.string (txt s.1), .string (txt s.2)] 47)) (hk.below hB) hl
   (fun a v W _ hW => find1_any a v s w.heap.size W (hb.below hW hb.lt)) (fun _ _ => Go.Proofs.enters_of Try.func52 (by kernel_rfl) rfl _ _))
 have HB := hHd hB
 clear hb hB hk hl
 go_enter Try.func44, Try.ntmps44
 go_wp2_with fail
 refine HC.out.mono ?_
 rintro r w2 ⟨rfl, hb⟩
 have HB2 := hHd (HB.out.trans (hb.mono HB.out.size))
 clear hb
 go_wp2
 go_ret
 exact ⟨rfl, HB2.out⟩
def NodeAt (w : World) (g o : Nat) (x : Nd) : Prop := g < w.heap.size ∧ ∃ A c, (∀ j u, (ndC x.1 (.slice A x.2.len c))[j]? = some u → w.cell? ⟨g, o + j, none⟩ = some u) ∧ RowT w.heap.size w (.slice A x.2.len c) x.2
theorem NodeAt.below {w w' : World} {g o : Nat} {x : Nd} (h : NodeAt w g o x) (hb : Below w.heap.size w w') : NodeAt w' g o x := by
 obtain ⟨h0, A, c, h1, h2⟩ := h
 exact ⟨Nat.lt_of_lt_of_le h0 hb.size, A, c, fun j u hu => (hb.cell (p := ⟨g, o + j, none⟩) h0).trans (h1 j u hu), h2.below hb⟩
def PAt (w : World) : Nd → List Stp → Nat → Nat → Nat → Nat → Prop
 | _, [], g, o, g', o' => g' = g ∧ o' = o
 | x, s :: l, g, o, g', o' => ∃ i y b p n c, findN s x.2 = some i ∧ x.2.get? i = some y ∧ w.cell? ⟨g, o + 5, none⟩ = some (.slice (some ⟨b, p, none⟩) n c) ∧ PAt w y l b (p + i * 6) g' o'
def AtP (x : Nd) (l : List Stp) (g o : Nat) (w : World) (r : Ending) (w' : World) : Prop :=
 Below w.heap.size w w' ∧ ((getX x l = none ∧ r = .returned (.pointer none)) ∨ ∃ y g' o', getX x l = some y ∧ r = .returned (.pointer (some ⟨g', o', none⟩)) ∧ NodeAt w g' o' y ∧ PAt w x l g o g' o')
theorem getX_none {x : Nd} {s : Stp} {l : List Stp} (h : findN s x.2 = none) : getX x (s :: l) = none := by simp only [getX]; rw [findN_none h]
theorem getX_some {x y : Nd} {s : Stp} {l : List Stp} {i : Nat} (h : findN s x.2 = some i) (hy : x.2.get? i = some y) : getX x (s :: l) = getX y l := by
 simp only [getX]
 obtain ⟨z, h1, h2, h3⟩ := find_stp h
 rw [hy] at h1
 injection h1 with h1
 rw [h3, ← h1]
def Rest9 (w : World) (x : Nd) (l : List Stp) (g o : Nat) (y : Nd) (j g1 o1 : Nat) : Prop := getX x l = getX y (l.drop j) ∧ NodeAt w g1 o1 y ∧ y.2.size ≤ 1000000 ∧ ∀ g' o', PAt w y (l.drop j) g1 o1 g' o' → PAt w x l g o g' o'
theorem at_any (x : Nd) (l : List Stp) (g o : Nat) (v : Value) (w : World) (hx : NodeAt w g o x) (hv : WayV w.heap.size w v l) (hf : Few9 x) (hll : l.length ≤ 1000000) :
  Calls Try.prog 34 #[.pointer (some ⟨g, o, none⟩), v] w (AtP x l g o w) := by
 obtain ⟨B, m, rfl⟩ := hv.shape
 have HV : Hid (WayV w.heap.size w (.slice B l.length m) l) := hHd hv
 have HLL : Hid (l.length ≤ 1000000) := hHd hll
 have HR0 : Hid (Rest9 w x l g o x 0 g o) := hHd ⟨rfl, hx, hf, fun _ _ h => h⟩
 clear hx hv hf hll
 go_enter Try.func34, Try.ntmps34
 go_wp2
 go_loopw [0, 10] (fun n i wr => ∃ (j g1 o1 : Nat) (y : Nd), j ≤ l.length ∧ i = .int .i64 (j : Int) ∧ n = .pointer (some ⟨g1, o1, none⟩) ∧ Hid (Rest9 w x l g o y j g1 o1) ∧ Below w.heap.size w wr) (fun _ i _ => l.length - (intOf i).toNat)
 case atStart => exact ⟨0, g, o, x, Nat.zero_le _, rfl, rfl, HR0, Below.refl _ _⟩
 case round =>
  clear HR0
  obtain ⟨j, g1, o1, y, hj, rfl, rfl, HR, hB⟩ := hrel
  have HBr := hHd hB
  by_cases hlt : j < l.length
  ·obtain ⟨s, hs⟩ : ∃ s, l[j]? = some s := ⟨_, List.getElem?_eq_getElem hlt⟩
   have hdr : l.drop j = s :: l.drop (j + 1) := by
    rw [List.drop_eq_getElem_cons hlt]
    rw [List.getElem?_eq_getElem hlt] at hs
    injection hs with hs
    rw [hs]
   obtain ⟨gv, ov, rfl, -, hmm, hgv, t0, t1⟩ := HV.out.at hs
   obtain ⟨a, f⟩ := y
   obtain ⟨-, hnd, hys, hpa⟩ := HR.out
   have hnd0 := hnd
   obtain ⟨hg1, A, c, hcl, hrow⟩ := hnd
   have i1 : (0 : Int) ≤ (j : Int) := by omega
   have i2 : (j : Int) < (l.length : Int) := by omega
   have i3 : (l.length : Int) ≤ 1000000 := by have := HLL.out; omega
   have s0 : wr.cell? ⟨gv, ov + j * 2, none⟩ = some (.string (txt s.1)) := (hB.cell (p := ⟨gv, ov + j * 2, none⟩) hgv).trans t0
   have s1 : wr.cell? ⟨gv, ov + j * 2 + 1, none⟩ = some (.string (txt s.2)) := (hB.cell (p := ⟨gv, ov + j * 2 + 1, none⟩) hgv).trans t1
   have hBS : Below w.heap.size w (wr.alloc (.cells #[.string (txt s.1), .string (txt s.2)] 47)) := hB.alloc hB.size _
   have HS0 : Hid ((∀ j u, (ndC a (.slice A f.len c))[j]? = some u → (wr.alloc (.cells #[.string (txt s.1), .string (txt s.2)] 47)).drew.cell? ⟨g1, o1 + j, none⟩ = some u) ∧ Blk (wr.alloc (.cells #[.string (txt s.1), .string (txt s.2)] 47)).drew wr.heap.size 47 #[.string (txt s.1), .string (txt s.2)]) := hHd ⟨fun j u hu => (hBS.drew.cell (p := ⟨g1, o1 + j, none⟩) hg1).trans (hcl j u hu), Blk.new wr 47 #[.string (txt s.1), .string (txt s.2)]⟩
   have HFi : Hid (Calls Try.prog 44 #[.slice A f.len c, .agg #[.string (txt s.1), .string (txt s.2)]] (wr.alloc (.cells #[.string (txt s.1), .string (txt s.2)] 47)).drew (Ans9 (.int .i64 (findIx s f)) (wr.alloc (.cells #[.string (txt s.1), .string (txt s.2)] 47)).drew)) := hHd (find_any s f A c (wr.alloc (.cells #[.string (txt s.1), .string (txt s.2)] 47)).drew (hrow.under hBS.drew (Nat.le_refl _) hBS.drew.size) (Nat.le_trans (Fr.len_size f) hys))
   have HG1 := hHd hg1
   have HBS := hHd hBS.drew
   have HN := hHd hcl
   have HRW := hHd hrow
   have HYS := hHd hys
   have HDR := hHd hdr
   obtain ⟨z, hz⟩ : ∃ z, z = findIx s f := ⟨_, rfl⟩
   rw [← hz] at HFi
   have HZ := hHd hz
   clear hs t0 t1 hgv hmm hnd0 hcl hrow hys hpa hdr hBS hB hg1 hz
   go_wp2_with fail
   refine wp_region_noPanic ?_
   refine wp_region_held_drew (S := fun _ => True) (by kernel_rfl) trivial (fun hS => ?_)
   refine held_more (S' := fun w' => (∀ j u, (ndC a (.slice A f.len c))[j]? = some u → w'.cell? ⟨g1, o1 + j, none⟩ = some u) ∧ Blk w' wr.heap.size 47 #[.string (txt s.1), .string (txt s.2)]) (fun _ _ => trivial) _ _ _ _ ?_
   replace hS := HS0.out
   refine tkH 0 hS ?_
   refine tkH 1 hS ?_
   refine tkH 2 hS ?_
   refine tkH 3 hS ?_ (hy := fun w hSw => by have q5 := hSw.1 5 _ rfl; (go_simp <;> with_reducible rfl))
   refine tkH 4 hS ?_ (hy := fun w hSw => by have q0 := (hSw.2.cell 0).trans rfl; have q1 := (hSw.2.cell 1).trans rfl; (go_simp <;> with_reducible rfl))
   refine rdy1 5 fun K hK => ?_
   go_simp
   refine HFi.out.mono ?_
   rintro r w3 ⟨rfl, hb3⟩
   have HS3 := hHd (And.intro (fun j u hu => (hb3.cell (p := ⟨g1, o1 + j, none⟩) (Nat.lt_of_lt_of_le HG1.out HBS.out.size)).trans (HS0.out.1 j u hu)) (HS0.out.2.below hb3 HS0.out.2.lt))
   have HB3 := hHd (HBS.out.trans (hb3.mono HBS.out.size))
   clear hb3
   go_wp2_with fail
   refine hK.out _ _ ?sr_2 (fun hS => ?_)
   case sr_2 => (exact HS3.out)
   clear hK K
   (try simp only [Act.put, layS])
   refine tkH 6 hS ?_
   refine wpAnyH_done (by kernel_rfl) ?_ _
   refine NoPanic.normal ?_
   clear hS s0 s1
   cases hfi : findN s f with
   | none =>
    have hz2 : z = -1 := by rw [HZ.out]; unfold findIx; rw [hfi]
    have HE : Hid (getX x l = none) := hHd (by rw [HR.out.1, HDR.out]; exact getX_none hfi)
    subst hz2
    clear hfi
    go_wp2
    go_ret
    exact ⟨HB3.out, .inl ⟨HE.out, rfl⟩⟩
   | some i =>
    obtain ⟨⟨a1, q⟩, hy, -, -⟩ := find_stp hfi
    have hz2 : z = (i : Int) := by rw [HZ.out]; unfold findIx; rw [hfi]
    have hi := Fr.get_lt hy
    obtain ⟨b, p, A1, c1, rfl, -, -, hbl, hr1, hc1⟩ := HRW.out.at hy
    have j1 : (0 : Int) ≤ (i : Int) := by omega
    have j2 : (i : Int) < (f.len : Int) := by omega
    have j3 : ¬ (i : Int) < 0 := by omega
    have j4 : decide ((i : Int) < 0) = false := decide_eq_false (by omega)
    have q5 : w3.cell? ⟨g1, o1 + 5, none⟩ = some (.slice (some ⟨b, p, none⟩) f.len c) := HS3.out.1 5 _ rfl
    have HR2 : Hid (Rest9 w x l g o (a1, q) (j + 1) b (p + i * 6)) := hHd ⟨by rw [HR.out.1, HDR.out]; exact getX_some hfi hy, ⟨hbl, A1, c1, hc1, hr1⟩, by have := Fr.size_get hy; have := HYS.out; show q.size ≤ 1000000; omega, fun g' o' h => HR.out.2.2.2 g' o' (by rw [HDR.out]; exact ⟨i, (a1, q), b, p, f.len, c, hfi, hy, HN.out 5 _ rfl, h⟩)⟩
    subst hz2
    clear hfi hy hbl hr1 hc1 hi
    go_wp2
    go_roundw
    case rel => exact ⟨j + 1, b, p + i * 6, (a1, q), by omega, by go_num, rfl, HR2, HB3.out⟩
    case measure => simp [intOf]; omega
  ·have i2 : ¬ (j : Int) < (l.length : Int) := by omega
   have HE : Hid (getX x l = some y ∧ NodeAt w g1 o1 y ∧ PAt w x l g o g1 o1) := hHd (by
    obtain ⟨h1, h2, -, h3⟩ := HR.out
    rw [show l.drop j = [] from List.drop_eq_nil_of_le (by omega)] at h1 h3
    exact ⟨h1, h2, h3 _ _ ⟨rfl, rfl⟩⟩)
   clear hB
   go_wp2
   go_ret
   exact ⟨HBr.out, .inr ⟨y, g1, o1, HE.out.1, rfl, HE.out.2.1, HE.out.2.2⟩⟩
end Go.Proofs.Ythmobcaidhgeaaa
