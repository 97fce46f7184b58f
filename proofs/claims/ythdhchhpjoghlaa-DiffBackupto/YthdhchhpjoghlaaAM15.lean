/- TrvC TreGetR -/
import Derived.Test.YthdhchhpjoghlaaAM0
import Derived.Test.YthdhchhpjoghlaaAM4
import Derived.Test.YthdhchhpjoghlaaAM14
import Derived.IntWalk
import Derived.Test.YthdhchhpjoghlaaAM2
import Derived.Test.YthdhchhpjoghlaaAM13
set_option linter.unusedSimpArgs false
set_option linter.unusedVariables false
namespace Go.Proofs.Ythdhchhpjoghlaa
open Go.RowKit
def set5 (w : World) (b : Nat) (x0 x1 x2 x3 x4 : Value) : World := ((((w.setCell ⟨b, 0, none⟩ x0).setCell ⟨b, 1, none⟩ x1).setCell ⟨b, 2, none⟩ x2).setCell ⟨b, 3, none⟩ x3).setCell ⟨b, 4, none⟩ x4
theorem Blk.set5 {w : World} {b : Nat} {t : TypeId} {y0 y1 y2 y3 y4 : Value} (h : Blk w b t #[y0, y1, y2, y3, y4]) (x0 x1 x2 x3 x4 : Value) : Blk (set5 w b x0 x1 x2 x3 x4) b t #[x0, x1, x2, x3, x4] := by
 have h2 := (((((h).set_ 0 x0).set_ 1 x1).set_ 2 x2).set_ 3 x3).set_ 4 x4
 simp only [layS] at h2
 exact h2
theorem set5_below {B : Nat} {w : World} {b : Nat} {x0 x1 x2 x3 x4 : Value} (h : B ≤ b) : Below B w (set5 w b x0 x1 x2 x3 x4) :=
 (((((Below.refl B w).setCell (p := ⟨b, 0, none⟩) h x0).setCell (p := ⟨b, 1, none⟩) h x1).setCell (p := ⟨b, 2, none⟩) h x2).setCell (p := ⟨b, 3, none⟩) h x3).setCell (p := ⟨b, 4, none⟩) h x4
theorem set5_other {w : World} {b g : Nat} {x0 x1 x2 x3 x4 : Value} (h : g ≠ b) : (set5 w b x0 x1 x2 x3 x4).heap[g]? = w.heap[g]? := by
 unfold set5
 rw [Below.heap_setCell _ _ _ _ h, Below.heap_setCell _ _ _ _ h, Below.heap_setCell _ _ _ _ h, Below.heap_setCell _ _ _ _ h, Below.heap_setCell _ _ _ _ h]
set_option maxRecDepth 100000 in
set_option maxHeartbeats 2000000 in
theorem headof_any (a : NdD) (u : Value) (w : World) :
  Calls Try.prog 41 #[.agg #[.string (txt a.name), .string (txt a.key), .int .i64 a.kind, .int .u64 (a.num : Int), .string (txt a.text), u]] w (Ans9 (.agg #[.string (txt a.name), .string (txt a.key), .int .i64 a.kind, .int .u64 (a.num : Int), .string (txt a.text)]) w) := by
 have HX : Hid (Blk ((w.alloc (.cells #[.string (txt a.name), .string (txt a.key), .int .i64 a.kind, .int .u64 (a.num : Int), .string (txt a.text), u] 27)).alloc (.cells #[.string ⟨#[]⟩, .string ⟨#[]⟩, .int .i64 0, .int .u64 0, .string ⟨#[]⟩] 61)).drew w.heap.size 27 #[.string (txt a.name), .string (txt a.key), .int .i64 a.kind, .int .u64 (a.num : Int), .string (txt a.text), u]) := Lib.hid ((Blk.new w 27 #[.string (txt a.name), .string (txt a.key), .int .i64 a.kind, .int .u64 (a.num : Int), .string (txt a.text), u]).alloc (.cells #[.string ⟨#[]⟩, .string ⟨#[]⟩, .int .i64 0, .int .u64 0, .string ⟨#[]⟩] 61))
 have HH : Hid (Blk ((w.alloc (.cells #[.string (txt a.name), .string (txt a.key), .int .i64 a.kind, .int .u64 (a.num : Int), .string (txt a.text), u] 27)).alloc (.cells #[.string ⟨#[]⟩, .string ⟨#[]⟩, .int .i64 0, .int .u64 0, .string ⟨#[]⟩] 61)).drew (w.heap.size + 1) 61 #[.string ⟨#[]⟩, .string ⟨#[]⟩, .int .i64 0, .int .u64 0, .string ⟨#[]⟩]) := Lib.hid (show Blk ((w.alloc (.cells #[.string (txt a.name), .string (txt a.key), .int .i64 a.kind, .int .u64 (a.num : Int), .string (txt a.text), u] 27)).alloc (.cells #[.string ⟨#[]⟩, .string ⟨#[]⟩, .int .i64 0, .int .u64 0, .string ⟨#[]⟩] 61)) (w.heap.size + 1) 61 #[.string ⟨#[]⟩, .string ⟨#[]⟩, .int .i64 0, .int .u64 0, .string ⟨#[]⟩] from Blk.newA (by simp) _ _)
 have HB : Hid (Below w.heap.size w ((w.alloc (.cells #[.string (txt a.name), .string (txt a.key), .int .i64 a.kind, .int .u64 (a.num : Int), .string (txt a.text), u] 27)).alloc (.cells #[.string ⟨#[]⟩, .string ⟨#[]⟩, .int .i64 0, .int .u64 0, .string ⟨#[]⟩] 61)).drew) := Lib.hid (((Below.refl _ _).alloc (Nat.le_refl _) _).alloc (by simp) _).drew
 go_enter Try.func41, Try.ntmps41
 go_wp2_with fail
 refine wp_region_noPanic ?_
 refine wp_region_held_drew (S := fun _ => True) (by kernel_rfl) trivial (fun hS => ?_)
 refine held_more (S' := fun w' => Blk w' w.heap.size 27 #[.string (txt a.name), .string (txt a.key), .int .i64 a.kind, .int .u64 (a.num : Int), .string (txt a.text), u]) (fun _ _ => trivial) _ _ _ _ ?_
 replace hS := HX.out
 refine tkH 0 hS ?_ (hy := fun w hSw => by have q0 := (hSw.cell 0).trans rfl; have q1 := (hSw.cell 1).trans rfl; have q2 := (hSw.cell 2).trans rfl; have q3 := (hSw.cell 3).trans rfl; have q4 := (hSw.cell 4).trans rfl; have q5 := (hSw.cell 5).trans rfl; (go_simp <;> with_reducible rfl))
 refine tkH 2 hS ?_
 refine tkH 3 hS ?_ (hy := fun w hSw => by have q0 := (hSw.cell 0).trans rfl; have q1 := (hSw.cell 1).trans rfl; have q2 := (hSw.cell 2).trans rfl; have q3 := (hSw.cell 3).trans rfl; have q4 := (hSw.cell 4).trans rfl; have q5 := (hSw.cell 5).trans rfl; (go_simp <;> with_reducible rfl))
 refine wpAnyH_ready (rs := [1]) (by kernel_rfl) (by simp) ?_
 refine (AllReadyH.cons (o := ?or_0) ?ir_0 (fun K hK => ?str_0) AllReadyH.nil)
 case ir_0 => simp only [layG]; rfl
 rw [if_pos (by rfl)]
 go_simp
 refine (stepof_any a u _).mono ?_
 rintro r w3 ⟨rfl, hb3⟩
 have HX3 := Lib.hid (HX.out.below hb3 HX.out.lt)
 have HH3 := Lib.hid (HH.out.below hb3 HH.out.lt)
 have HB3 := Lib.hid (HB.out.trans (hb3.mono HB.out.size))
 clear hb3
 go_wp2_with fail
 refine hK.out _ _ ?sr_0 (fun hS => ?_)
 case sr_0 => (exact HX3.out)
 clear hK K
 (try simp only [Act.put, layS])
 refine tkH 4 hS ?_
 refine wpAnyH_ready (rs := [5]) (by kernel_rfl) (by simp) ?_
 refine (AllReadyH.cons (o := ?or_1) ?ir_1 (fun K hK => ?str_1) AllReadyH.nil)
 case ir_1 => simp only [layG]; rfl
 rw [if_pos (by rfl)]
 have fz0 : (w3).frozen? ⟨w.heap.size + 1, 0, none⟩ = false := HH3.out.frozen 0
 have fz1 : (w3).frozen? ⟨w.heap.size + 1, 1, none⟩ = false := HH3.out.frozen 1
 have fz2 : (w3).frozen? ⟨w.heap.size + 1, 2, none⟩ = false := HH3.out.frozen 2
 have fz3 : (w3).frozen? ⟨w.heap.size + 1, 3, none⟩ = false := HH3.out.frozen 3
 have fz4 : (w3).frozen? ⟨w.heap.size + 1, 4, none⟩ = false := HH3.out.frozen 4
 have fq0 := (HH3.out.cell 0).trans rfl
 have fq1 := (HH3.out.cell 1).trans rfl
 have fq2 := (HH3.out.cell 2).trans rfl
 have fq3 := (HH3.out.cell 3).trans rfl
 have fq4 := (HH3.out.cell 4).trans rfl
 go_simp
 refine hK.out _ _ ?sr_1 (fun hS => ?_)
 case sr_1 => (exact (set5_other (w := w3) (b := w.heap.size + 1) (by omega)).trans HX3.out)
 clear hK K
 (try simp only [Act.put, layS])
 refine wpAnyH_done (by kernel_rfl) ?_ _
 refine NoPanic.normal ?_
 clear hS
 have RZ : Hid (Blk (set5 w3 (w.heap.size + 1) (.string (txt a.name)) (.string (txt a.key)) (.int .i64 a.kind) (.int .u64 (a.num : Int)) (.string (txt a.text))) (w.heap.size + 1) 61 #[.string (txt a.name), .string (txt a.key), .int .i64 a.kind, .int .u64 (a.num : Int), .string (txt a.text)]) := Lib.hid (HH3.out.set5 _ _ _ _ _)
 have HZ : Hid (Below w.heap.size w (set5 w3 (w.heap.size + 1) (.string (txt a.name)) (.string (txt a.key)) (.int .i64 a.kind) (.int .u64 (a.num : Int)) (.string (txt a.text)))) := Lib.hid (HB3.out.trans (set5_below (by omega)))
 go_wp2
 refine bodyPost_ret (results_cell_row rfl _ _ (w.heap.size + 1) 61 _ (0, 0) _ rfl RZ.out Try.underlying61 rfl (by kernel_rfl)) rfl ?_
 exact ⟨rfl, HZ.out⟩
def DSameP (f : NdF) : Prop := ∀ (g : NdF) (a b : NdD) (A B : Option Addr) (c d : Nat) (w : World), RowT w.heap.size w (.slice A f.len c) f → RowT w.heap.size w (.slice B g.len d) g → f.size ≤ 1000000 → g.size ≤ 1000000 →
  Calls Try.prog 28 #[.agg #[.string (txt a.name), .string (txt a.key), .int .i64 a.kind, .int .u64 (a.num : Int), .string (txt a.text), .slice A f.len c], .agg #[.string (txt b.name), .string (txt b.key), .int .i64 b.kind, .int .u64 (b.num : Int), .string (txt b.text), .slice B g.len d]] w (Ans9 (.bool (decide (((a, f) : Nd) = (b, g)))) w)
set_option maxRecDepth 100000 in
set_option maxHeartbeats 1000000 in
theorem equalf_len (A B : Option Addr) (m n c d : Nat) (fv : Value) (w : World) (h : m ≠ n) :
  Calls Try.prog 42 #[.slice A m c, .slice B n d, fv] w (Ans9 (.bool false) w) := by
 have HB : Hid (Below w.heap.size w w) := Lib.hid (Below.refl _ _)
 have e1 : (m == n) = false := beq_eq_false_iff_ne.2 h
 have e2 : ((m : Int) == (n : Int)) = false := by rw [beq_eq_false_iff_ne]; omega
 have e3 : (m != n) = true := by simp [h]
 clear h
 go_enter Try.func42, Try.ntmps42
 go_wp2
 go_ret
 exact ⟨rfl, HB.out⟩
set_option maxRecDepth 100000 in
set_option maxHeartbeats 2000000 in
theorem equalf_row (f g : NdF) (hkids : ∀ n a k, f.get? n = some (a, k) → DSameP k) (A B : Option Addr) (c d L : Nat) (w : World) (hf : RowT w.heap.size w (.slice A L c) f) (hg : RowT w.heap.size w (.slice B L d) g) (hsf : f.size ≤ 1000000) (hsg : g.size ≤ 1000000) :
  Calls Try.prog 42 #[.slice A L c, .slice B L d, .func (.func 28) #[] #[]] w (Ans9 (.bool (decide (f = g))) w) := by
 have HI := Lib.hid hkids
 have HKF : Hid (RowT w.heap.size w (.slice A L c) f) := Lib.hid hf
 have HKG : Hid (RowT w.heap.size w (.slice B L d) g) := Lib.hid hg
 have HZ := Lib.hid (And.intro hsf hsg)
 have HLF : Hid (L = f.len) := Lib.hid hf.len.1
 have HLG : Hid (L = g.len) := Lib.hid hg.len.1
 have i3 : (L : Int) ≤ 1000000 := by have := HLF.out; have := Fr.len_size f; omega
 clear hkids hf hg hsf hsg
 go_enter Try.func42, Try.ntmps42
 go_wp2
 go_loopw [17] (fun i wr => ∃ j : Nat, j ≤ L ∧ i = .int .i64 (j : Int) ∧ Hid (∀ n, n < j → f.get? n = g.get? n) ∧ Below w.heap.size w wr) (fun i _ => L - (intOf i).toNat)
 case atStart => exact ⟨0, Nat.zero_le _, rfl, Lib.hid (fun n h => by omega), Below.refl _ _⟩
 case round =>
  obtain ⟨j, hj, rfl, HL, hB⟩ := hrel
  have HBr := Lib.hid hB
  by_cases hlt : j < L
  ·obtain ⟨a1, q1, hg1⟩ := Fr.get_some (f := f) (n := j) (by have := HLF.out; omega)
   obtain ⟨a2, q2, hg2⟩ := Fr.get_some (f := g) (n := j) (by have := HLG.out; omega)
   obtain ⟨b1, o1, A1, c1, rfl, -, -, hbl1, hrow1, hcl1⟩ := HKF.out.at hg1
   obtain ⟨b2, o2, A2, c2, rfl, -, -, hbl2, hrow2, hcl2⟩ := HKG.out.at hg2
   have i1 : (0 : Int) ≤ (j : Int) := by omega
   have i2 : (j : Int) < (L : Int) := by omega
   obtain ⟨rb, hrb⟩ : ∃ z, z = decide (((a1, q1) : Nd) = (a2, q2)) := ⟨_, rfl⟩
   have hBA : Below w.heap.size w (wr.alloc (.cells #[.string (txt a1.name), .string (txt a1.key), .int .i64 a1.kind, .int .u64 (a1.num : Int), .string (txt a1.text), .slice A1 q1.len c1] 27)) := hB.alloc hB.size _
   have hBB : Below w.heap.size w ((wr.alloc (.cells #[.string (txt a1.name), .string (txt a1.key), .int .i64 a1.kind, .int .u64 (a1.num : Int), .string (txt a1.text), .slice A1 q1.len c1] 27)).alloc (.cells #[.string (txt a2.name), .string (txt a2.key), .int .i64 a2.kind, .int .u64 (a2.num : Int), .string (txt a2.text), .slice A2 q2.len c2] 27)) := hBA.alloc hBA.size _
   have HI1 : Hid (Calls Try.prog 28 #[.agg #[.string (txt a1.name), .string (txt a1.key), .int .i64 a1.kind, .int .u64 (a1.num : Int), .string (txt a1.text), .slice A1 q1.len c1], .agg #[.string (txt a2.name), .string (txt a2.key), .int .i64 a2.kind, .int .u64 (a2.num : Int), .string (txt a2.text), .slice A2 q2.len c2]] ((wr.alloc (.cells #[.string (txt a1.name), .string (txt a1.key), .int .i64 a1.kind, .int .u64 (a1.num : Int), .string (txt a1.text), .slice A1 q1.len c1] 27)).alloc (.cells #[.string (txt a2.name), .string (txt a2.key), .int .i64 a2.kind, .int .u64 (a2.num : Int), .string (txt a2.text), .slice A2 q2.len c2] 27)) (Ans9 (.bool rb) ((wr.alloc (.cells #[.string (txt a1.name), .string (txt a1.key), .int .i64 a1.kind, .int .u64 (a1.num : Int), .string (txt a1.text), .slice A1 q1.len c1] 27)).alloc (.cells #[.string (txt a2.name), .string (txt a2.key), .int .i64 a2.kind, .int .u64 (a2.num : Int), .string (txt a2.text), .slice A2 q2.len c2] 27)))) := Lib.hid (by
    rw [hrb]
    exact HI.out j a1 q1 hg1 q2 a1 a2 A1 A2 c1 c2 ((wr.alloc (.cells #[.string (txt a1.name), .string (txt a1.key), .int .i64 a1.kind, .int .u64 (a1.num : Int), .string (txt a1.text), .slice A1 q1.len c1] 27)).alloc (.cells #[.string (txt a2.name), .string (txt a2.key), .int .i64 a2.kind, .int .u64 (a2.num : Int), .string (txt a2.text), .slice A2 q2.len c2] 27)) (hrow1.under hBB (Nat.le_refl _) hBB.size) (hrow2.under hBB (Nat.le_refl _) hBB.size) (by have := HZ.out.1; have := Fr.size_get hg1; omega) (by have := HZ.out.2; have := Fr.size_get hg2; omega))
   have hcell : ∀ i u, (ndC a1 (.slice A1 q1.len c1))[i]? = some u → wr.cell? ⟨b1, o1 + j * 6 + i, none⟩ = some u := fun i u hu => (hB.cell (p := ⟨b1, o1 + j * 6 + i, none⟩) hbl1).trans (hcl1 i u hu)
   have hcel2 : ∀ i u, (ndC a2 (.slice A2 q2.len c2))[i]? = some u → (wr.alloc (.cells #[.string (txt a1.name), .string (txt a1.key), .int .i64 a1.kind, .int .u64 (a1.num : Int), .string (txt a1.text), .slice A1 q1.len c1] 27)).cell? ⟨b2, o2 + j * 6 + i, none⟩ = some u := fun i u hu => (hBA.cell (p := ⟨b2, o2 + j * 6 + i, none⟩) hbl2).trans (hcl2 i u hu)
   have s0 : (wr).cell? ⟨b1, o1 + j * 6, none⟩ = _ := hcell 0 _ rfl
   have s1 : (wr).cell? ⟨b1, o1 + j * 6 + 1, none⟩ = _ := hcell 1 _ rfl
   have s2 : (wr).cell? ⟨b1, o1 + j * 6 + 2, none⟩ = _ := hcell 2 _ rfl
   have s3 : (wr).cell? ⟨b1, o1 + j * 6 + 3, none⟩ = _ := hcell 3 _ rfl
   have s4 : (wr).cell? ⟨b1, o1 + j * 6 + 4, none⟩ = _ := hcell 4 _ rfl
   have s5 : (wr).cell? ⟨b1, o1 + j * 6 + 5, none⟩ = _ := hcell 5 _ rfl
   have p0 : (wr.alloc (.cells #[.string (txt a1.name), .string (txt a1.key), .int .i64 a1.kind, .int .u64 (a1.num : Int), .string (txt a1.text), .slice A1 q1.len c1] 27)).cell? ⟨b2, o2 + j * 6, none⟩ = _ := hcel2 0 _ rfl
   have p1 : (wr.alloc (.cells #[.string (txt a1.name), .string (txt a1.key), .int .i64 a1.kind, .int .u64 (a1.num : Int), .string (txt a1.text), .slice A1 q1.len c1] 27)).cell? ⟨b2, o2 + j * 6 + 1, none⟩ = _ := hcel2 1 _ rfl
   have p2 : (wr.alloc (.cells #[.string (txt a1.name), .string (txt a1.key), .int .i64 a1.kind, .int .u64 (a1.num : Int), .string (txt a1.text), .slice A1 q1.len c1] 27)).cell? ⟨b2, o2 + j * 6 + 2, none⟩ = _ := hcel2 2 _ rfl
   have p3 : (wr.alloc (.cells #[.string (txt a1.name), .string (txt a1.key), .int .i64 a1.kind, .int .u64 (a1.num : Int), .string (txt a1.text), .slice A1 q1.len c1] 27)).cell? ⟨b2, o2 + j * 6 + 3, none⟩ = _ := hcel2 3 _ rfl
   have p4 : (wr.alloc (.cells #[.string (txt a1.name), .string (txt a1.key), .int .i64 a1.kind, .int .u64 (a1.num : Int), .string (txt a1.text), .slice A1 q1.len c1] 27)).cell? ⟨b2, o2 + j * 6 + 4, none⟩ = _ := hcel2 4 _ rfl
   have p5 : (wr.alloc (.cells #[.string (txt a1.name), .string (txt a1.key), .int .i64 a1.kind, .int .u64 (a1.num : Int), .string (txt a1.text), .slice A1 q1.len c1] 27)).cell? ⟨b2, o2 + j * 6 + 5, none⟩ = _ := hcel2 5 _ rfl
   have HG1 := Lib.hid hg1
   have HG2 := Lib.hid hg2
   have HRB := Lib.hid hrb
   have HBB := Lib.hid hBB
   clear hcl1 hcl2 hrow1 hrow2 hg1 hg2 hB hrb hbl1 hbl2 hBA hBB hcell hcel2
   cases rb with
   | false =>
    have HF : Hid (decide (f = g) = false) := Lib.hid (decide_eq_false (fun e => by
     have h1 := HG1.out
     rw [e, HG2.out] at h1
     injection h1 with h1
     have h2 := HRB.out
     rw [h1] at h2
     simp at h2))
    go_wp2_with fail
    refine HI1.out.mono ?_
    rintro r w2 ⟨rfl, hb⟩
    have HB2 := Lib.hid (HBB.out.trans (hb.mono HBB.out.size))
    clear hb s0 s1 s2 s3 s4 s5 p0 p1 p2 p3 p4 p5
    go_wp2
    go_ret
    exact ⟨by rw [HF.out]; rfl, HB2.out⟩
   | true =>
    have HL2 : Hid (∀ n, n < j + 1 → f.get? n = g.get? n) := Lib.hid (fun n hn => by
     by_cases e : n = j
     ·subst e
      have h2 : ((a1, q1) : Nd) = (a2, q2) := of_decide_eq_true HRB.out.symm
      rw [HG1.out, HG2.out, h2]
     ·exact HL.out n (by omega))
    go_wp2_with fail
    refine HI1.out.mono ?_
    rintro r w2 ⟨rfl, hb⟩
    have HB2 := Lib.hid (HBB.out.trans (hb.mono HBB.out.size))
    clear hb s0 s1 s2 s3 s4 s5 p0 p1 p2 p3 p4 p5
    go_wp2
    go_roundw
    case rel => exact ⟨j + 1, by omega, by go_num, HL2, HB2.out⟩
    case measure => simp [intOf]; omega
  ·have i2 : ¬ (j : Int) < (L : Int) := by omega
   have HF : Hid (decide (f = g) = true) := Lib.hid (decide_eq_true (Fr.ext (by have := HLF.out; have := HLG.out; omega) (fun n hn => HL.out n (by have := HLF.out; omega))))
   clear hB
   go_wp2
   go_ret
   exact ⟨by rw [HF.out]; rfl, HBr.out⟩
set_option maxRecDepth 100000 in
set_option maxHeartbeats 2000000 in
theorem dsame_not (a b : NdD) (A B : Option Addr) (m n c d : Nat) (w : World) (h : a ≠ b) :
  Calls Try.prog 28 #[.agg #[.string (txt a.name), .string (txt a.key), .int .i64 a.kind, .int .u64 (a.num : Int), .string (txt a.text), .slice A m c], .agg #[.string (txt b.name), .string (txt b.key), .int .i64 b.kind, .int .u64 (b.num : Int), .string (txt b.text), .slice B n d]] w (Ans9 (.bool false) w) := by
 have hb2 : Blk ((w.alloc (.cells #[.string (txt a.name), .string (txt a.key), .int .i64 a.kind, .int .u64 (a.num : Int), .string (txt a.text), .slice A m c] 27)).alloc (.cells #[.string (txt b.name), .string (txt b.key), .int .i64 b.kind, .int .u64 (b.num : Int), .string (txt b.text), .slice B n d] 27)) (w.heap.size + 1) 27 #[.string (txt b.name), .string (txt b.key), .int .i64 b.kind, .int .u64 (b.num : Int), .string (txt b.text), .slice B n d] := Blk.newA (by simp) _ _
 have HQ : Hid ((Blk ((w.alloc (.cells #[.string (txt a.name), .string (txt a.key), .int .i64 a.kind, .int .u64 (a.num : Int), .string (txt a.text), .slice A m c] 27)).alloc (.cells #[.string (txt b.name), .string (txt b.key), .int .i64 b.kind, .int .u64 (b.num : Int), .string (txt b.text), .slice B n d] 27)).drew w.heap.size 27 #[.string (txt a.name), .string (txt a.key), .int .i64 a.kind, .int .u64 (a.num : Int), .string (txt a.text), .slice A m c] ∧ Blk ((w.alloc (.cells #[.string (txt a.name), .string (txt a.key), .int .i64 a.kind, .int .u64 (a.num : Int), .string (txt a.text), .slice A m c] 27)).alloc (.cells #[.string (txt b.name), .string (txt b.key), .int .i64 b.kind, .int .u64 (b.num : Int), .string (txt b.text), .slice B n d] 27)).drew (w.heap.size + 1) 27 #[.string (txt b.name), .string (txt b.key), .int .i64 b.kind, .int .u64 (b.num : Int), .string (txt b.text), .slice B n d]) ∧ Below w.heap.size w ((w.alloc (.cells #[.string (txt a.name), .string (txt a.key), .int .i64 a.kind, .int .u64 (a.num : Int), .string (txt a.text), .slice A m c] 27)).alloc (.cells #[.string (txt b.name), .string (txt b.key), .int .i64 b.kind, .int .u64 (b.num : Int), .string (txt b.text), .slice B n d] 27)).drew) := Lib.hid ⟨⟨(Blk.new w 27 #[.string (txt a.name), .string (txt a.key), .int .i64 a.kind, .int .u64 (a.num : Int), .string (txt a.text), .slice A m c]).alloc _, hb2⟩, (((Below.refl _ _).alloc (Nat.le_refl _) _).alloc (by simp) _).drew⟩
 have HE : Hid (∀ (α : Type) (R1 R0 : α), (if (txt a.name).toList = (txt b.name).toList then if (txt a.key).toList = (txt b.key).toList then if a.kind = b.kind then if (a.num : Int) = (b.num : Int) then if (txt a.text).toList = (txt b.text).toList then R1 else R0 else R0 else R0 else R0 else R0) = R0) := Lib.hid (by
  intro α R1 R0
  simp only [txt_toList]
  split
  ·split
   ·split
    ·split
     ·split
      ·exact absurd (NdD.ext_ ‹_› ‹_› ‹_› (by omega) ‹_›) h
      ·rfl
     ·rfl
    ·rfl
   ·rfl
  ·rfl)
 clear hb2 h
 go_enter Try.func28, Try.ntmps28
 go_wp2_with fail
 refine wp_region_noPanic ?_
 refine wp_region_held_drew (S := fun _ => True) (by kernel_rfl) trivial (fun hS => ?_)
 refine held_more (S' := fun w' => Blk w' w.heap.size 27 #[.string (txt a.name), .string (txt a.key), .int .i64 a.kind, .int .u64 (a.num : Int), .string (txt a.text), .slice A m c] ∧ Blk w' (w.heap.size + 1) 27 #[.string (txt b.name), .string (txt b.key), .int .i64 b.kind, .int .u64 (b.num : Int), .string (txt b.text), .slice B n d]) (fun _ _ => trivial) _ _ _ _ ?_
 replace hS := HQ.out.1
 refine tkH 0 hS ?_ (hy := fun w hSw => by have q0 := (hSw.1.cell 0).trans rfl; have q1 := (hSw.1.cell 1).trans rfl; have q2 := (hSw.1.cell 2).trans rfl; have q3 := (hSw.1.cell 3).trans rfl; have q4 := (hSw.1.cell 4).trans rfl; have q5 := (hSw.1.cell 5).trans rfl; (go_simp <;> with_reducible rfl))
 refine tkH 2 hS ?_ (hy := fun w hSw => by have q0 := (hSw.2.cell 0).trans rfl; have q1 := (hSw.2.cell 1).trans rfl; have q2 := (hSw.2.cell 2).trans rfl; have q3 := (hSw.2.cell 3).trans rfl; have q4 := (hSw.2.cell 4).trans rfl; have q5 := (hSw.2.cell 5).trans rfl; (go_simp <;> with_reducible rfl))
 refine wpAnyH_ready (rs := [1]) (by kernel_rfl) (by simp) ?_
 refine (AllReadyH.cons (o := ?or_2) ?ir_2 (fun K hK => ?str_2) AllReadyH.nil)
 case ir_2 => simp only [layG]; rfl
 rw [if_pos (by rfl)]
 go_simp
 refine (headof_any a _ _).mono ?_
 rintro r w3 ⟨rfl, hb3⟩
 have HS3 := Lib.hid (And.intro (HQ.out.1.1.below hb3 HQ.out.1.1.lt) (HQ.out.1.2.below hb3 HQ.out.1.2.lt))
 have HB3 := Lib.hid (HQ.out.2.trans (hb3.mono HQ.out.2.size))
 clear hb3
 go_wp2_with fail
 refine hK.out _ _ ?sr_2 (fun hS => ?_)
 case sr_2 => (exact HS3.out)
 clear hK K
 (try simp only [Act.put, layS])
 refine wpAnyH_ready (rs := [3]) (by kernel_rfl) (by simp) ?_
 refine (AllReadyH.cons (o := ?or_3) ?ir_3 (fun K hK => ?str_3) AllReadyH.nil)
 case ir_3 => simp only [layG]; rfl
 rw [if_pos (by rfl)]
 go_simp
 refine (headof_any b _ _).mono ?_
 rintro r w4 ⟨rfl, hb4⟩
 have HS4 := Lib.hid (And.intro (HS3.out.1.below hb4 HS3.out.1.lt) (HS3.out.2.below hb4 HS3.out.2.lt))
 have HB4 := Lib.hid (HB3.out.trans (hb4.mono HB3.out.size))
 clear hb4
 go_wp2_with fail
 refine hK.out _ _ ?sr_3 (fun hS => ?_)
 case sr_3 => (exact HS4.out)
 clear hK K
 (try simp only [Act.put, layS])
 refine tkH 4 hS ?_ (hy := fun w hSw => by have he := HE.out; (go_simp <;> with_reducible rfl))
 refine tkH 5 hS ?_
 refine tkHo 6 hS ?_
 refine tkHo 7 hS ?_
 refine tkHo 8 hS ?_
 refine tkHo 9 hS ?_
 refine tkHo 10 hS ?_
 refine tkH 11 hS ?_
 refine tkH 12 hS ?_
 refine wpAnyH_done (by kernel_rfl) ?_ _
 refine NoPanic.normal ?_
 clear hS
 go_wp2
 go_ret
 exact ⟨rfl, HB4.out⟩
set_option maxRecDepth 100000 in
set_option maxHeartbeats 2000000 in
theorem dsame_heads (a : NdD) (A B : Option Addr) (m n c d : Nat) (rb : Bool) (w : World)
  (hq : ∀ W, Below w.heap.size w W → Calls Try.prog 42 #[.slice A m c, .slice B n d, .func (.func 28) #[] #[]] W (Ans9 (.bool rb) W)) :
  Calls Try.prog 28 #[.agg #[.string (txt a.name), .string (txt a.key), .int .i64 a.kind, .int .u64 (a.num : Int), .string (txt a.text), .slice A m c], .agg #[.string (txt a.name), .string (txt a.key), .int .i64 a.kind, .int .u64 (a.num : Int), .string (txt a.text), .slice B n d]] w (Ans9 (.bool rb) w) := by
 have hb2 : Blk ((w.alloc (.cells #[.string (txt a.name), .string (txt a.key), .int .i64 a.kind, .int .u64 (a.num : Int), .string (txt a.text), .slice A m c] 27)).alloc (.cells #[.string (txt a.name), .string (txt a.key), .int .i64 a.kind, .int .u64 (a.num : Int), .string (txt a.text), .slice B n d] 27)) (w.heap.size + 1) 27 #[.string (txt a.name), .string (txt a.key), .int .i64 a.kind, .int .u64 (a.num : Int), .string (txt a.text), .slice B n d] := Blk.newA (by simp) _ _
 have HQ : Hid ((Blk ((w.alloc (.cells #[.string (txt a.name), .string (txt a.key), .int .i64 a.kind, .int .u64 (a.num : Int), .string (txt a.text), .slice A m c] 27)).alloc (.cells #[.string (txt a.name), .string (txt a.key), .int .i64 a.kind, .int .u64 (a.num : Int), .string (txt a.text), .slice B n d] 27)).drew w.heap.size 27 #[.string (txt a.name), .string (txt a.key), .int .i64 a.kind, .int .u64 (a.num : Int), .string (txt a.text), .slice A m c] ∧ Blk ((w.alloc (.cells #[.string (txt a.name), .string (txt a.key), .int .i64 a.kind, .int .u64 (a.num : Int), .string (txt a.text), .slice A m c] 27)).alloc (.cells #[.string (txt a.name), .string (txt a.key), .int .i64 a.kind, .int .u64 (a.num : Int), .string (txt a.text), .slice B n d] 27)).drew (w.heap.size + 1) 27 #[.string (txt a.name), .string (txt a.key), .int .i64 a.kind, .int .u64 (a.num : Int), .string (txt a.text), .slice B n d]) ∧ Below w.heap.size w ((w.alloc (.cells #[.string (txt a.name), .string (txt a.key), .int .i64 a.kind, .int .u64 (a.num : Int), .string (txt a.text), .slice A m c] 27)).alloc (.cells #[.string (txt a.name), .string (txt a.key), .int .i64 a.kind, .int .u64 (a.num : Int), .string (txt a.text), .slice B n d] 27)).drew) := Lib.hid ⟨⟨(Blk.new w 27 #[.string (txt a.name), .string (txt a.key), .int .i64 a.kind, .int .u64 (a.num : Int), .string (txt a.text), .slice A m c]).alloc _, hb2⟩, (((Below.refl _ _).alloc (Nat.le_refl _) _).alloc (by simp) _).drew⟩
 have HC := Lib.hid hq
 clear hb2 hq
 go_enter Try.func28, Try.ntmps28
 go_wp2_with fail
 refine wp_region_noPanic ?_
 refine wp_region_held_drew (S := fun _ => True) (by kernel_rfl) trivial (fun hS => ?_)
 refine held_more (S' := fun w' => Blk w' w.heap.size 27 #[.string (txt a.name), .string (txt a.key), .int .i64 a.kind, .int .u64 (a.num : Int), .string (txt a.text), .slice A m c] ∧ Blk w' (w.heap.size + 1) 27 #[.string (txt a.name), .string (txt a.key), .int .i64 a.kind, .int .u64 (a.num : Int), .string (txt a.text), .slice B n d]) (fun _ _ => trivial) _ _ _ _ ?_
 replace hS := HQ.out.1
 refine tkH 0 hS ?_ (hy := fun w hSw => by have q0 := (hSw.1.cell 0).trans rfl; have q1 := (hSw.1.cell 1).trans rfl; have q2 := (hSw.1.cell 2).trans rfl; have q3 := (hSw.1.cell 3).trans rfl; have q4 := (hSw.1.cell 4).trans rfl; have q5 := (hSw.1.cell 5).trans rfl; (go_simp <;> with_reducible rfl))
 refine tkH 2 hS ?_ (hy := fun w hSw => by have q0 := (hSw.2.cell 0).trans rfl; have q1 := (hSw.2.cell 1).trans rfl; have q2 := (hSw.2.cell 2).trans rfl; have q3 := (hSw.2.cell 3).trans rfl; have q4 := (hSw.2.cell 4).trans rfl; have q5 := (hSw.2.cell 5).trans rfl; (go_simp <;> with_reducible rfl))
 refine wpAnyH_ready (rs := [1]) (by kernel_rfl) (by simp) ?_
 refine (AllReadyH.cons (o := ?or_4) ?ir_4 (fun K hK => ?str_4) AllReadyH.nil)
 case ir_4 => simp only [layG]; rfl
 rw [if_pos (by rfl)]
 go_simp
 refine (headof_any a _ _).mono ?_
 rintro r w3 ⟨rfl, hb3⟩
 have HS3 := Lib.hid (And.intro (HQ.out.1.1.below hb3 HQ.out.1.1.lt) (HQ.out.1.2.below hb3 HQ.out.1.2.lt))
 have HB3 := Lib.hid (HQ.out.2.trans (hb3.mono HQ.out.2.size))
 clear hb3
 go_wp2_with fail
 refine hK.out _ _ ?sr_4 (fun hS => ?_)
 case sr_4 => (exact HS3.out)
 clear hK K
 (try simp only [Act.put, layS])
 refine wpAnyH_ready (rs := [3]) (by kernel_rfl) (by simp) ?_
 refine (AllReadyH.cons (o := ?or_5) ?ir_5 (fun K hK => ?str_5) AllReadyH.nil)
 case ir_5 => simp only [layG]; rfl
 rw [if_pos (by rfl)]
 go_simp
 refine (headof_any a _ _).mono ?_
 rintro r w4 ⟨rfl, hb4⟩
 have HS4 := Lib.hid (And.intro (HS3.out.1.below hb4 HS3.out.1.lt) (HS3.out.2.below hb4 HS3.out.2.lt))
 have HB4 := Lib.hid (HB3.out.trans (hb4.mono HB3.out.size))
 clear hb4
 go_wp2_with fail
 refine hK.out _ _ ?sr_5 (fun hS => ?_)
 case sr_5 => (exact HS4.out)
 clear hK K
 (try simp only [Act.put, layS])
 refine tkH 4 hS ?_
 refine tkH 5 hS ?_
 refine tkH 6 hS ?_
 refine tkH 7 hS ?_ (hy := fun w hSw => by have q5 := (hSw.1.cell 5).trans rfl; (go_simp <;> with_reducible rfl))
 refine tkH 8 hS ?_
 refine tkH 9 hS ?_ (hy := fun w hSw => by have q5 := (hSw.2.cell 5).trans rfl; (go_simp <;> with_reducible rfl))
 refine wpAnyH_ready (rs := [10]) (by kernel_rfl) (by simp) ?_
 refine (AllReadyH.cons (o := ?or_6) ?ir_6 (fun K hK => ?str_6) AllReadyH.nil)
 case ir_6 => simp only [layG]; rfl
 rw [if_pos (by rfl)]
 go_simp
 refine (HC.out _ HB4.out).mono ?_
 rintro r w5 ⟨rfl, hb5⟩
 have HS5 := Lib.hid (And.intro (HS4.out.1.below hb5 HS4.out.1.lt) (HS4.out.2.below hb5 HS4.out.2.lt))
 have HB5 := Lib.hid (HB4.out.trans (hb5.mono HB4.out.size))
 clear hb5
 go_wp2_with fail
 refine hK.out _ _ ?sr_6 (fun hS => ?_)
 case sr_6 => (exact HS5.out)
 clear hK K
 (try simp only [Act.put, layS])
 refine tkH 11 hS ?_
 refine tkH 12 hS ?_
 refine wpAnyH_done (by kernel_rfl) ?_ _
 refine NoPanic.normal ?_
 clear hS
 go_wp2
 go_ret
 exact ⟨rfl, HB5.out⟩
theorem dsamef_any (f : NdF) : DSameP f := by
 refine Fr.byKids (P := DSameP) ?_ f
 clear f
 intro f hkids g a b A B c d w hf hg hsf hsg
 by_cases h1 : a = b
 ·subst h1
  refine (dsame_heads a A B _ _ c d (decide (f = g)) w (fun W hW => ?_)).mono fun _ _ h => h.bool ?_
  ·by_cases h4 : f.len = g.len
   ·rw [← h4] at hg ⊢
    exact equalf_row f g hkids A B c d f.len W (hf.under hW (Nat.le_refl _) hW.size) (hg.under hW (Nat.le_refl _) hW.size) hsf hsg
   ·exact (equalf_len A B _ _ c d _ W h4).mono fun _ _ h => h.bool (decide_eq_false (fun e => h4 (by rw [e]))).symm
  ·by_cases e : f = g
   ·rw [e, decide_eq_true rfl, decide_eq_true rfl]
   ·rw [decide_eq_false e, decide_eq_false (fun h => e (Prod.ext_iff.1 h).2)]
 ·exact (dsame_not a b A B _ _ c d w h1).mono fun _ _ h => h.bool (decide_eq_false (fun e => h1 (Prod.ext_iff.1 e).1)).symm
theorem sameT (W0 : World) : SameTC W0 := by
 intro x y cs ds w hx hy hf hg _
 obtain ⟨A, c, rfl, hk⟩ := hx.shape
 obtain ⟨B, d, rfl, hk2⟩ := hy.shape
 exact dsamef_any x.2 y.2 x.1 y.1 A B c d w hk hk2 hf hg
end Go.Proofs.Ythdhchhpjoghlaa
namespace Go.Proofs.Ythdhchhpjoghlaa
open Go.RowKit
def Stp0 (w : World) (g o : Nat) (s : Stp) : Prop := w.cell? ⟨g, o, none⟩ = some (.string (txt s.1)) ∧ w.cell? ⟨g, o + 1, none⟩ = some (.string (txt s.2))
theorem Stp0.below {w w' : World} {g o B : Nat} {s : Stp} (h : Stp0 w g o s) (hg : g < B) (hb : Below B w w') : Stp0 w' g o s := ⟨(hb.cell (p := ⟨g, o, none⟩) hg).trans h.1, (hb.cell (p := ⟨g, o + 1, none⟩) hg).trans h.2⟩
theorem get_boxes (a : NdD) (f : NdF) (A : Option Addr) (c : Nat) (w : World) (hx : LieN w (ndC a (.slice A f.len c)) (a, f)) :
  Blk ((w.alloc (.cells #[.string (txt a.name), .string (txt a.key), .int .i64 a.kind, .int .u64 (a.num : Int), .string (txt a.text), .slice A f.len c] 27)).alloc (.cells #[.string ⟨#[]⟩, .string ⟨#[]⟩, .int .i64 0, .int .u64 0, .string ⟨#[]⟩, .slice none 0 0] 27)) w.heap.size 27 #[.string (txt a.name), .string (txt a.key), .int .i64 a.kind, .int .u64 (a.num : Int), .string (txt a.text), .slice A f.len c] ∧ Blk ((w.alloc (.cells #[.string (txt a.name), .string (txt a.key), .int .i64 a.kind, .int .u64 (a.num : Int), .string (txt a.text), .slice A f.len c] 27)).alloc (.cells #[.string ⟨#[]⟩, .string ⟨#[]⟩, .int .i64 0, .int .u64 0, .string ⟨#[]⟩, .slice none 0 0] 27)) (w.heap.size + 1) 27 #[.string ⟨#[]⟩, .string ⟨#[]⟩, .int .i64 0, .int .u64 0, .string ⟨#[]⟩, .slice none 0 0] ∧ Below w.heap.size w ((w.alloc (.cells #[.string (txt a.name), .string (txt a.key), .int .i64 a.kind, .int .u64 (a.num : Int), .string (txt a.text), .slice A f.len c] 27)).alloc (.cells #[.string ⟨#[]⟩, .string ⟨#[]⟩, .int .i64 0, .int .u64 0, .string ⟨#[]⟩, .slice none 0 0] 27)) ∧ LieN ((w.alloc (.cells #[.string (txt a.name), .string (txt a.key), .int .i64 a.kind, .int .u64 (a.num : Int), .string (txt a.text), .slice A f.len c] 27)).alloc (.cells #[.string ⟨#[]⟩, .string ⟨#[]⟩, .int .i64 0, .int .u64 0, .string ⟨#[]⟩, .slice none 0 0] 27)).drew (ndC a (.slice A f.len c)) (a, f) := by
 have hb2 : Blk ((w.alloc (.cells #[.string (txt a.name), .string (txt a.key), .int .i64 a.kind, .int .u64 (a.num : Int), .string (txt a.text), .slice A f.len c] 27)).alloc (.cells #[.string ⟨#[]⟩, .string ⟨#[]⟩, .int .i64 0, .int .u64 0, .string ⟨#[]⟩, .slice none 0 0] 27)) (w.heap.size + 1) 27 #[.string ⟨#[]⟩, .string ⟨#[]⟩, .int .i64 0, .int .u64 0, .string ⟨#[]⟩, .slice none 0 0] := by
  have h := Blk.new (w.alloc (.cells #[.string (txt a.name), .string (txt a.key), .int .i64 a.kind, .int .u64 (a.num : Int), .string (txt a.text), .slice A f.len c] 27)) 27 #[.string ⟨#[]⟩, .string ⟨#[]⟩, .int .i64 0, .int .u64 0, .string ⟨#[]⟩, .slice none 0 0]
  rw [show (w.alloc (.cells #[.string (txt a.name), .string (txt a.key), .int .i64 a.kind, .int .u64 (a.num : Int), .string (txt a.text), .slice A f.len c] 27)).heap.size = w.heap.size + 1 by simp] at h
  exact h
 have hB : Below w.heap.size w ((w.alloc (.cells #[.string (txt a.name), .string (txt a.key), .int .i64 a.kind, .int .u64 (a.num : Int), .string (txt a.text), .slice A f.len c] 27)).alloc (.cells #[.string ⟨#[]⟩, .string ⟨#[]⟩, .int .i64 0, .int .u64 0, .string ⟨#[]⟩, .slice none 0 0] 27)) := ((Below.refl _ _).alloc (Nat.le_refl _) _).alloc (by simp) _
 exact ⟨(Blk.new _ _ _).alloc _, hb2, hB, LieB.below hx hB.drew⟩
end Go.Proofs.Ythdhchhpjoghlaa
