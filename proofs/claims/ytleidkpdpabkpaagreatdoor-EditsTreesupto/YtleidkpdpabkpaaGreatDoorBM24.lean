/- VadRefF VadRefG PakSub -/
import Derived.Test.YtleidkpdpabkpaaGreatDoorBM23
set_option linter.unusedSimpArgs false
set_option linter.unusedVariables false
set_option maxRecDepth 100000
set_option maxHeartbeats 8000000
namespace Go.Proofs.YtleidkpdpabkpaaGreatDoor
open Go.RowKit
section
attribute [local go_sem] Oper.semAt_some
theorem kidX_err {y : Sp} {a : NdD} {k : NdF} {n : Nat} {b : Bad} (h : kidX1 y a k n = some b) : b.1 ≠ 0 := by
 unfold kidX1 at h
 cases hh : headX y.1 a k n with
 | some e =>
  rw [hh] at h
  injection h with h
  subst h
  have := head_err hh
  simp only
  omega
 | none =>
  rw [hh] at h
  simp only at h
  split at h
  ·cases h
  ·have := (scan_err (show scanF k y.2 (zeros y.2) = some b from h)).1
   omega
structure WthR (f : NdF) (sf : SpF) (cs bx : Array Value) (w : World) (i : Nat) (cnt : List Nat) (V : World) : Prop where
 len : cnt.length = sf.len
 scan : insideX sf f = scanF (Fr.drop i f) sf cnt
 bel : Below w.heap.size w V
 b1 : Blk V w.heap.size 109 cs
 b2 : Blk V (w.heap.size + 1) 42 bx
 bh : Blk V (w.heap.size + 2) 3 (cntC cnt)
 cnt : ∀ j, cnt.getD j 0 ≤ i
theorem rwithin_in (f : NdF) (hkids : ∀ n a k, f.get? n = some (a, k) → RInP k) (sd : SpD) (sf : SpF) (B0 : Option Addr) (m0 : Nat) (A0 : Option Addr) (c0 : Nat) (a : NdD) (A : Option Addr) (c : Nat) (l : List Stp) (Aw : Option Addr) (cw : Nat) (w : World)
  (hs : SpL w.heap.size w ((cT sd.name sd.kind sd.typ sd.low sd.high sd.names sd.must sd.most B0 m0 A0 sf.len c0) : Array Value).toList (sd, sf)) (hsrow : FrV SpcD 9 8 w (fun g => g < w.heap.size) (fun g => g < w.heap.size) (.slice A0 sf.len c0) sf) (hso : SpOk sf) (hsl : sf.len ≤ 1000000) (hrow : RowT w.heap.size w (.slice A f.len c) f) (hway : WayV w.heap.size w (.slice Aw l.length cw) l) (hll : l.length + f.size ≤ 1000000) (hkf : OkF f) :
  Calls Tryz.prog 67 #[.agg (cT sd.name sd.kind sd.typ sd.low sd.high sd.names sd.must sd.most B0 m0 A0 sf.len c0), .agg (cN a (.slice A f.len c)), .slice Aw l.length cw] w (FirstP (wayO l (insideX sf f)) w) := by
 have hx1 : Below w.heap.size w (w.alloc (.cells (cT sd.name sd.kind sd.typ sd.low sd.high sd.names sd.must sd.most B0 m0 A0 sf.len c0) 109)) := bAl
 have hx2 : Below w.heap.size w ((w.alloc (.cells (cT sd.name sd.kind sd.typ sd.low sd.high sd.names sd.must sd.most B0 m0 A0 sf.len c0) 109)).alloc (.cells (cN a (.slice A f.len c)) 42)) := hx1.alloc hx1.size _
 have hx3 : Below w.heap.size w (((w.alloc (.cells (cT sd.name sd.kind sd.typ sd.low sd.high sd.names sd.must sd.most B0 m0 A0 sf.len c0) 109)).alloc (.cells (cN a (.slice A f.len c)) 42)).alloc (.cells (cntC (List.replicate sf.len 0)) 3)) := hx2.alloc hx2.size _
 have hr0 : WthR f sf (cT sd.name sd.kind sd.typ sd.low sd.high sd.names sd.must sd.most B0 m0 A0 sf.len c0) (cN a (.slice A f.len c)) w 0 (List.replicate sf.len 0) (((w.alloc (.cells (cT sd.name sd.kind sd.typ sd.low sd.high sd.names sd.must sd.most B0 m0 A0 sf.len c0) 109)).alloc (.cells (cN a (.slice A f.len c)) 42)).alloc (.cells (cntC (List.replicate sf.len 0)) 3)) := ⟨by simp, inside_zero sf f, hx3, ((Blk.new w 109 (cT sd.name sd.kind sd.typ sd.low sd.high sd.names sd.must sd.most B0 m0 A0 sf.len c0)).alloc _).alloc _, (Blk.newA (w := (w.alloc (.cells (cT sd.name sd.kind sd.typ sd.low sd.high sd.names sd.must sd.most B0 m0 A0 sf.len c0) 109))) (by simp) _ _).alloc _, Blk.newA (w := ((w.alloc (.cells (cT sd.name sd.kind sd.typ sd.low sd.high sd.names sd.must sd.most B0 m0 A0 sf.len c0) 109)).alloc (.cells (cN a (.slice A f.len c)) 42))) (by simp) _ _, fun j => by
  rw [List.getD_eq_getElem?_getD, List.getElem?_replicate]
  split <;> simp⟩
 have hz2 : (((w.alloc (.cells (cT sd.name sd.kind sd.typ sd.low sd.high sd.names sd.must sd.most B0 m0 A0 sf.len c0) 109)).alloc (.cells (cN a (.slice A f.len c)) 42))).heap.size = w.heap.size + 2 := by simp
 have hmk := run_had ((w.alloc (.cells (cT sd.name sd.kind sd.typ sd.low sd.high sd.names sd.must sd.most B0 m0 A0 sf.len c0) 109)).alloc (.cells (cN a (.slice A f.len c)) 42)) sf.len hsl
 rw [hz2] at hmk
 have y8 := (((Blk.new w 109 (cT sd.name sd.kind sd.typ sd.low sd.high sd.names sd.must sd.most B0 m0 A0 sf.len c0)).alloc (.cells (cN a (.slice A f.len c)) 42)).cell 8).trans rfl
 have HR0 := hHd hr0
 have HK := hHd hkids
 have HS := hHd (And.intro hs (And.intro hsrow hso))
 have HROW := hHd hrow
 have HWAY := hHd hway
 have HLL := hHd (And.intro hll hkf)
 have hlen : f.len ≤ 1000000 := by have := Fr.len_size f; omega
 have hl0 : (f.len : Int) ≤ 1000000 := by omega
 have hl1 : (sf.len : Int) ≤ 1000000 := by omega
 clear hkids hs hsrow hso hrow hway hll hkf hr0 hx1 hx2 hx3 hz2
 go_enter Tryz.func67, Tryz.ntmps67
 go_wp2_with fail
 clear hmk y8
 go_loopw [9] (fun v wr => ∃ (i : Nat) (cnt : List Nat), i ≤ f.len ∧ v = .int .i64 (i : Int) ∧ Hid (WthR f sf (cT sd.name sd.kind sd.typ sd.low sd.high sd.names sd.must sd.most B0 m0 A0 sf.len c0) (cN a (.slice A f.len c)) w i cnt wr)) (fun v _ => f.len - (intOf v).toNat)
 case atStart => exact ⟨0, List.replicate sf.len 0, Nat.zero_le _, rfl, HR0⟩
 case round =>
  obtain ⟨i, cnt, hi, rfl, HR⟩ := hrel
  obtain ⟨w0, hw0⟩ : ∃ w0, w0 = wr := ⟨_, rfl⟩
  subst hw0
  have i1 : (0 : Int) ≤ (i : Int) := by omega
  have r5 := (HR.out.b2.cell 5).trans rfl
  by_cases hlt : i < f.len
  ·obtain ⟨y, k, hg⟩ := Fr.get_some hlt
   obtain ⟨g, o, Ay, cy, rfl, -, hnc, hgb, hrk, hcell⟩ := HROW.out.at hg
   have hco : ∀ j u, (ndC y (.slice Ay k.len cy))[j]? = some u → w0.cell? ⟨g, o + i * 6 + j, none⟩ = some u := fun j u hu => (World.cell?_of_block (w := w) (a := ⟨g, o + i * 6 + j, none⟩) (HR.out.bel.block g hgb)).trans (hcell j u hu)
   have q0 : (w0).cell? ⟨g, o + i * 6, none⟩ = _ := hco 0 _ rfl
   have q1 : (w0).cell? ⟨g, o + i * 6 + 1, none⟩ = _ := hco 1 _ rfl
   have q2 : (w0).cell? ⟨g, o + i * 6 + 2, none⟩ = _ := hco 2 _ rfl
   have q3 : (w0).cell? ⟨g, o + i * 6 + 3, none⟩ = _ := hco 3 _ rfl
   have q4 : (w0).cell? ⟨g, o + i * 6 + 4, none⟩ = _ := hco 4 _ rfl
   have q5 : (w0).cell? ⟨g, o + i * 6 + 5, none⟩ = _ := hco 5 _ rfl
   have q0' : w0.cell? ⟨g, o + i * 6, none⟩ = some (.string (txt y.name)) := q0
   have i2 : (i : Int) < (f.len : Int) := by omega
   have HG := hHd (And.intro hg (And.intro hrk (Fr.size_get hg)))
   have HLT := hHd hlt
   clear hcell hco hrk hg hlt
   have HKB := hHd (Blk.new w0 42 (cN y (.slice Ay k.len cy)))
   obtain ⟨p0, p1, p2, p3, p4, p5⟩ := cl6 HKB.out
   have HY1 : Hid (Below w.heap.size w (w0.alloc (.cells (cN y (.slice Ay k.len cy)) 42))) := hHd (HR.out.bel.alloc HR.out.bel.size _)
   have HB1 : Hid (Blk (w0.alloc (.cells (cN y (.slice Ay k.len cy)) 42)) w.heap.size 109 (cT sd.name sd.kind sd.typ sd.low sd.high sd.names sd.must sd.most B0 m0 A0 sf.len c0)) := hHd (HR.out.b1.alloc _)
   have HFI := hHd (rfind_any y.name (fun q => q < w.heap.size) (fun q => q < w.heap.size) ((cT sd.name sd.kind sd.typ sd.low sd.high sd.names sd.must sd.most B0 m0 A0 sf.len c0) : Array Value).toList (sd, sf) (w0.alloc (.cells (cN y (.slice Ay k.len cy)) 42)) (HS.out.1.keep (fun q hq => HY1.out.block q hq) (Nat.le_refl _)) (fun q hq => Nat.lt_of_lt_of_le hq HY1.out.size) hsl)
   obtain ⟨y0, y1, y2, y3, y4, y5, y6, y7, y8⟩ := cl9 HB1.out
   go_wp2_with fail
   refine HFI.out.mono ?_
   rintro r w1 ⟨rfl, hb1⟩
   have HB2 := hHd hb1
   have HK2 := hHd (HKB.out.below hb1 HKB.out.lt)
   have HW2 : Hid (Below w.heap.size w w1) := hHd (HY1.out.trans (hb1.mono HY1.out.size))
   have HS2 := hHd (HB1.out.below hb1 HB1.out.lt)
   have HH1 : Hid (Blk (w0.alloc (.cells (cN y (.slice Ay k.len cy)) 42)) (w.heap.size + 2) 3 (cntC cnt)) := hHd (HR.out.bh.alloc _)
   have HH2 := hHd (HH1.out.below hb1 HH1.out.lt)
   have HWY := hHd (HWAY.out.under HW2.out (Nat.le_refl _) HW2.out.size)
   have HND : Hid (Blk w1 (w.heap.size + 1) 42 (cN a (.slice (some ⟨g, o, none⟩) f.len c))) := hHd ((HR.out.b2.alloc (.cells (cN y (.slice Ay k.len cy)) 42)).below hb1 (HR.out.b2.alloc (.cells (cN y (.slice Ay k.len cy)) 42)).lt)
   clear hb1 y0 y1 y2 y3 y4 y5 y6 y7 y8 p0 p1 p2 p3 p4 p5 q0 q1 q2 q3 q4 q5 q0' r5
   obtain ⟨p0, p1, p2, p3, p4, p5⟩ := cl6 HK2.out
   cases hf : findX y.name sf with
   | none =>
    have e1 : findI y.name sf = -1 := by unfold findI; rw [hf]
    rw [e1]
    have HX : Hid (insideX sf f = some (22, [stp y])) := hHd (by rw [HR.out.scan, scan_drop HG.out.1]; unfold kidO10; rw [hf]; rfl)
    clear hf e1
    go_wp2_with fail
    refine (rway10_any l (.slice Aw l.length cw) y (.slice Ay k.len cy) _ HWY.out (by have := HLL.out.1; omega)).mono ?_
    rintro r w3 ⟨v3, rfl, ho3, hb3⟩
    obtain ⟨A3, c3, e3⟩ := ho3.shape
    simp only [List.length_append, List.length_cons, List.length_nil, Nat.zero_add] at e3
    subst e3
    have HV3 := hHd ho3.way
    have HB3 := hHd (HW2.out.trans (hb3.mono HW2.out.size))
    clear ho3 hb3
    go_wp2
    go_ret2
    rw [HX.out]
    exact ⟨_, rfl, HV3.out, HB3.out⟩
   | some q =>
    have e1 : findI y.name sf = (q : Int) := by unfold findI; rw [hf]
    rw [e1]
    obtain ⟨⟨yd, yf⟩, hgs, -, hql⟩ := sp_get hf
    obtain ⟨nm, kd, ty, lo, up, ns, mu, mo⟩ := yd
    have HKO : Hid (kidO10 sf y k cnt = kidX1 ((⟨nm, kd, ty, lo, up, ns, mu, mo⟩ : SpD), yf) y k (cnt.getD q 0) ∧ kidC10 sf y cnt = bump cnt q) := hHd (by unfold kidO10 kidC10; rw [hf]; simp only [hgs]; exact ⟨trivial, trivial⟩)
    have j1 : ¬ (q : Int) < 0 := by omega
    obtain ⟨g1, o1, c', cs', e, -, hgb1, hN, hcl⟩ := HS.out.2.1.at hgs
    injection e with f1 f2 f3
    subst f1 f3
    obtain ⟨B1, m1, A1, c1, d1, rfl, hvn, -, -⟩ := SpN.shape (x := ((⟨nm, kd, ty, lo, up, ns, mu, mo⟩ : SpD), yf)) hN
    simp only at hvn
    have HCL : Hid (∀ V, Below w1.heap.size w1 V → ∀ j u, ((cT nm kd ty lo up ns mu mo B1 m1 A1 yf.len c1) : Array Value).toList[j]? = some u → V.cell? ⟨g1, o1 + q * 9 + j, none⟩ = some u) := hHd (fun V hV j u hu =>
     (World.cell?_of_block (w := w) (a := ⟨g1, o1 + q * 9 + j, none⟩) ((HW2.out.trans (hV.mono HW2.out.size)).block g1 hgb1)).trans (hcl j u (by simpa using hu)))
    have hsy := HS.out.2.2.at hgs
    simp only at hsy
    have HNV := hHd (And.intro hN (And.intro hvn hsy))
    obtain ⟨x, hx⟩ : ∃ x : Nat, x = cnt.getD q 0 := ⟨_, rfl⟩
    have HX1 : Hid (x ≤ 1000000) := hHd (by have := HR.out.cnt q; omega)
    have HCQ : Hid ((cntC cnt)[q]? = some (.int .i64 (x : Int))) := hHd (by rw [hx]; exact cnt_at (by rw [HR.out.len]; exact hql))
    rw [← hx] at HKO
    obtain ⟨oo, hoo⟩ : ∃ oo, oo = kidX1 ((⟨nm, kd, ty, lo, up, ns, mu, mo⟩ : SpD), yf) y k x := ⟨_, rfl⟩
    rw [← hoo] at HKO
    have HOO := hHd hoo
    have HXE := hHd hx
    have HD1 : Hid (Below w1.heap.size w1 w1.drew) := hHd (Below.refl _ _).drew
    have i3 : (q : Int) < (sf.len : Int) := by omega
    have i4 : (0 : Int) ≤ (q : Int) := by omega
    have hql2 : q < sf.len := hql
    have hwdr : l.length ≤ 1000000 := by have := HLL.out.1; omega
    have HKKS : Hid (k.size < f.size) := hHd HG.out.2.2
    clear hf e1 hN hcl hgs f2 hvn hsy hx hoo
    go_wp2_with fail
    refine wp_region_noPanic ?_
    refine wp_region_held_drew (S := fun _ => True) (by kernel_rfl) trivial (fun hS => ?_)
    refine tkH 0 hS ?_
    refine held_more (S' := fun w' => Below w1.heap.size w1 w') (fun _ _ => trivial) _ _ _ _ ?_
    replace hS := HD1.out
    refine tkH 1 hS ?_ (hy := fun w hSw => by have y8 := ((HS2.out.below hSw HS2.out.lt).cell 8).trans rfl; (go_simp <;> with_reducible rfl))
    refine tkH 2 hS ?_
    refine tkH 3 hS ?_
    refine tkH 4 hS ?_ (hy := fun w hSw => by have z0 : w.cell? ⟨g1, o1 + q * 9, none⟩ = some (.string (txt nm)) := HCL.out _ hSw 0 _ rfl; have z1 := HCL.out _ hSw 1 _ rfl; have z2 := HCL.out _ hSw 2 _ rfl; have z3 := HCL.out _ hSw 3 _ rfl; have z4 := HCL.out _ hSw 4 _ rfl; have z5 := HCL.out _ hSw 5 _ rfl; have z6 := HCL.out _ hSw 6 _ rfl; have z7 := HCL.out _ hSw 7 _ rfl; have z8 := HCL.out _ hSw 8 _ rfl; (go_simp <;> with_reducible rfl))
    refine tkH 5 hS ?_ (hy := fun w hSw => by have hKx := HK2.out.below hSw HK2.out.lt; obtain ⟨p0, p1, p2, p3, p4, p5⟩ := cl6 hKx; (go_simp <;> with_reducible rfl))
    refine tkH 6 hS ?_
    refine tkH 7 hS ?_
    refine tkH 8 hS ?_
    refine tkH 9 hS ?_ (hy := fun w hSw => by have th := ((HH2.out.below hSw HH2.out.lt).cell q).trans HCQ.out; (go_simp <;> with_reducible rfl))
    refine tkH 10 hS ?_
    refine tkH 11 hS ?_ (hy := fun w hSw => by have hKx := HK2.out.below hSw HK2.out.lt; obtain ⟨p0, p1, p2, p3, p4, p5⟩ := cl6 hKx; (go_simp <;> with_reducible rfl))
    refine rdy1 12 fun K hK => ?_
    go_simp
    refine (rway10_any l (.slice Aw l.length cw) y (.slice Ay k.len cy) _ (HWY.out.under HD1.out (Nat.le_refl _) HD1.out.size) hwdr).mono ?_
    rintro r w5 ⟨v5, rfl, ho5, hb5⟩
    obtain ⟨A5, c5, e5⟩ := ho5.shape
    simp only [List.length_append, List.length_cons, List.length_nil, Nat.zero_add] at e5
    subst e5
    have HO5 := hHd ho5.way
    have HD5 : Hid (Below w1.heap.size w1 w5) := hHd (HD1.out.trans (hb5.mono HD1.out.size))
    clear ho5 hb5
    go_wp2_with fail
    refine hK.out _ _ ?sr_0 (fun hS => ?_)
    case sr_0 => (exact HD5.out)
    clear hK K
    (try simp only [Act.put, layS])
    refine rdy1 13 fun K hK => ?_
    go_simp
    have HN5 : Hid (SpL w5.heap.size w5 ((cT nm kd ty lo up ns mu mo B1 m1 A1 yf.len c1) : Array Value).toList ((⟨nm, kd, ty, lo, up, ns, mu, mo⟩ : SpD), yf)) := hHd (SpL.keep (b := w.heap.size) (w := w) HNV.out.1 (fun q' hq' => (HW2.out.trans (HD5.out.mono HW2.out.size)).block q' hq') (HW2.out.trans (HD5.out.mono HW2.out.size)).size)
    have HV5 : Hid (Vals w5 d1 (.slice B1 ns.length m1) (txts ns)) := hHd (HNV.out.2.1.heap (fun h0 => by obtain ⟨_, _, _, _, h2⟩ := HNV.out.2.1; exact (HW2.out.trans (HD5.out.mono HW2.out.size)).block d1 (h2 h0).1))
    have HR5 : Hid (RowT w5.heap.size w5 (.slice Ay k.len cy) k) := hHd (HG.out.2.1.under (HW2.out.trans (HD5.out.mono HW2.out.size)) (Nat.le_refl _) (HW2.out.trans (HD5.out.mono HW2.out.size)).size)
    have hone := rone_any nm kd ty lo up ns mu mo yf B1 m1 A1 c1 d1 y k Ay cy x (l ++ [stp y]) A5 c5 w5 HN5.out HNV.out.2.2.2.2 HNV.out.2.2.2.1 HV5.out HNV.out.2.2.1 HR5.out (by rw [List.length_append]; exact HO5.out) (by rw [List.length_append]; have h1 := HLL.out.1; have h2 := HKKS.out; simp only [List.length_cons, List.length_nil]; omega) (HLL.out.2.at HG.out.1).1 (HLL.out.2.at HG.out.1).2 HX1.out (HK.out _ _ _ HG.out.1)
    simp only [List.length_append, List.length_cons, List.length_nil, Nat.zero_add] at hone
    rw [← HOO.out] at hone
    refine hone.mono ?_
    clear hone
    rintro r w6 ⟨v6, rfl, hv6, hb6⟩
    have HV6 := hHd hv6
    have HD6 : Hid (Below w1.heap.size w1 w6) := hHd (HD5.out.trans (hb6.mono HD5.out.size))
    clear hv6 hb6
    go_wp2_with fail
    refine hK.out _ _ ?sr_1 (fun hS => ?_)
    case sr_1 => (exact HD6.out)
    clear hK K
    (try simp only [Act.put, layS])
    refine tkH 14 hS ?_
    refine tkH 15 hS ?_
    refine tkH 16 hS ?_
    refine tkH 17 hS ?_
    refine tkH 18 hS ?_
    refine wpAnyH_done (by kernel_rfl) ?_ _
    refine NoPanic.normal ?_
    clear hS
    have HW6 : Hid (Below w.heap.size w w6) := hHd (HW2.out.trans (HD6.out.mono HW2.out.size))
    cases oo with
    | some bb =>
     have HX : Hid (insideX sf f = some (bb.1, stp y :: bb.2)) := hHd (by rw [HR.out.scan, scan_drop HG.out.1, HKO.out.1]; rfl)
     have k0 : ((bb.1 : Int) != 0) = true := by unfold bne; rw [beq_eq_false_iff_ne.2 (by have := kidX_err HOO.out.symm; omega)]; rfl
     have HV7 : Hid (WayV w6.heap.size w6 v6 (l ++ stp y :: bb.2)) := hHd (by have h := HV6.out; unfold wayO at h; simpa using h)
     unfold wayO
     simp only
     go_wp2
     go_ret2
     rw [HX.out]
     exact ⟨_, rfl, HV7.out, HW6.out⟩
    | none =>
     unfold wayO
     simp only
     have hb6 : Blk w6 (w.heap.size + 2) 3 (cntC cnt) := HH2.out.below HD6.out HH2.out.lt
     have th := (hb6.cell q).trans HCQ.out
     have tf : w6.frozen? ⟨w.heap.size + 2, q, none⟩ = false := hb6.frozen q
     have j2 : (x : Int) ≤ 1000000 := by have := HX1.out; omega
     have j0 : (0 : Int) ≤ (x : Int) := by omega
     have HNX : Hid (WthR f sf (cS (txt sd.name) sd.kind sd.typ sd.low sd.high (.slice B0 sd.names.length m0) sd.must sd.most (.slice (some ⟨g1, o1, none⟩) sf.len c0)) (cN a (.slice (some ⟨g, o, none⟩) f.len c)) w (i + 1) (bump cnt q) (w6.setCell ⟨w.heap.size + 2, q, none⟩ (.int .i64 ((x : Int) + 1)))) := hHd (by
      refine ⟨by rw [bump_len]; exact HR.out.len, ?_, HW6.out.setCell (p := ⟨w.heap.size + 2, q, none⟩) (by simp) _, ?_, ?_, ?_, fun j => ?_⟩
      ·rw [HR.out.scan, scan_drop HG.out.1, HKO.out.1, HKO.out.2]; rfl
      ·exact (HS2.out.below HD6.out HS2.out.lt).far (p := ⟨w.heap.size + 2, q, none⟩) (by simp) _
      ·exact (HND.out.below HD6.out HND.out.lt).far (p := ⟨w.heap.size + 2, q, none⟩) (by simp) _
      ·have h1 := hb6.set_ q (.int .i64 ((x : Int) + 1))
       rw [HXE.out] at h1 ⊢
       rw [cnt_bump (by rw [HR.out.len]; omega)] at h1
       exact h1
      ·rw [bump_get j (by rw [HR.out.len]; omega)]
       split
       ·have := HR.out.cnt q; omega
       ·have := HR.out.cnt j; omega)
     clear hb6
     go_wp2
     go_roundw
     case rel => exact ⟨i + 1, bump cnt q, HLT.out, by go_num, HNX⟩
     case measure => have := HLT.out; simp [intOf]; omega
  ·have i2 : ¬ (i : Int) < (f.len : Int) := by omega
   have hie : i = f.len := Nat.le_antisymm hi (Nat.le_of_not_lt hlt)
   have HSC : Hid (insideX sf f = lackX sf cnt) := hHd (by rw [HR.out.scan, hie, Fr.drop_all, scan_nil])
   have HCA : Hid (∀ j, j < sf.len → (cntC cnt)[j]? = some (.int .i64 ((cnt.getD j 0 : Nat) : Int))) := hHd (fun j hj => cnt_at (by rw [HR.out.len]; exact hj))
   have hCB : ∀ j, cnt.getD j 0 ≤ 1000000 := fun j => by have := HR.out.cnt j; omega
   have HCB := hHd hCB
   have HBW := hHd HR.out.bel
   have HB1 := hHd HR.out.b1
   have HBH := hHd HR.out.bh
   clear hie hCB
   go_wp2_with fail
   clear r5
   go_loopw [14] (fun v wr => ∃ j : Nat, j ≤ sf.len ∧ v = .int .i64 (j : Int) ∧ Hid (lackX sf cnt = lackX (Fr.drop j sf) (cnt.drop j)) ∧ Hid (Below w0.heap.size w0 wr)) (fun v _ => sf.len - (intOf v).toNat)
   case atStart => exact ⟨0, Nat.zero_le _, rfl, hHd (by rw [List.drop_zero]; cases sf <;> rfl), hHd (Below.refl _ _)⟩
   case round =>
    obtain ⟨j, hj, rfl, HE, HB⟩ := hrel
    have j1 : (0 : Int) ≤ (j : Int) := by omega
    have HWR : Hid (Below w.heap.size w wr) := hHd (HBW.out.trans (HB.out.mono HBW.out.size))
    have y8 := ((HB1.out.below HB.out HB1.out.lt).cell 8).trans rfl
    by_cases hltj : j < sf.len
    ·obtain ⟨yd, yf, hg⟩ := Fr.get_some hltj
     obtain ⟨nm, kd, ty, lo, up, ns, mu, mo⟩ := yd
     obtain ⟨g, o, c', cs', e, -, hgb, hN, hcl⟩ := HS.out.2.1.at hg
     injection e with e1 e2 e3
     subst e1 e3
     obtain ⟨B1, m1, A1, c1, d1, rfl, -, -, -⟩ := SpN.shape (x := ((⟨nm, kd, ty, lo, up, ns, mu, mo⟩ : SpD), yf)) hN
     have hcl' : ∀ j' u, ((cT nm kd ty lo up ns mu mo B1 m1 A1 yf.len c1) : Array Value).toList[j']? = some u → wr.cell? ⟨g, o + j * 9 + j', none⟩ = some u := fun j' u hu =>
      (World.cell?_of_block (w := w) (a := ⟨g, o + j * 9 + j', none⟩) (HWR.out.block g hgb)).trans (hcl j' u (by simpa using hu))
     have z0 : wr.cell? ⟨g, o + j * 9, none⟩ = some (.string (txt nm)) := hcl' 0 _ rfl
     have z6 := hcl' 6 _ rfl
     have j2 : (j : Int) < (sf.len : Int) := by omega
     have hltn : j < sf.len := hltj
     obtain ⟨x, hx⟩ : ∃ x : Nat, x = cnt.getD j 0 := ⟨_, rfl⟩
     have th : wr.cell? ⟨w.heap.size + 2, j, none⟩ = some (.int .i64 (x : Int)) := by rw [hx]; exact ((HBH.out.below HB.out HBH.out.lt).cell j).trans (HCA.out j hltj)
     have HLD : Hid (lackX sf cnt = if mu = true ∧ x = 0 then some (25, [(nm, [])]) else lackX (Fr.drop (j + 1) sf) (cnt.drop (j + 1))) := hHd (by rw [HE.out, lack_drop hg, hx])
     have HJ1 : Hid (j + 1 ≤ sf.len) := hHd hltj
     have HWY := hHd (HWAY.out.under HWR.out (Nat.le_refl _) HWR.out.size)
     have hwdr : l.length ≤ 1000000 := by have := HLL.out.1; omega
     clear hcl hcl' hN hg hltj hj e2 hx
     cases mu with
     | false =>
      go_wp2
      go_roundw
      case rel => exact ⟨j + 1, HJ1.out, by go_num, hHd (by rw [HLD.out]; simp), HB⟩
      case measure => have := HJ1.out; simp [intOf]; omega
     | true =>
      by_cases h0 : x = 0
      ·have k0 : ((x : Int) == 0) = true := beq_iff_eq.2 (by omega)
       have HIN : Hid (insideX sf f = some (25, [(nm, [])])) := hHd (by rw [HSC.out, HLD.out, if_pos ⟨rfl, h0⟩])
       clear h0
       go_wp2_with fail
       refine (rway10_any l (.slice Aw l.length cw) ⟨nm, [], 0, 0, []⟩ (.slice none 0 0) _ HWY.out hwdr).mono ?_
       rintro r w3 ⟨v3, rfl, ho3, hb3⟩
       have HV3 := hHd ho3.way
       have HB3 := hHd (HWR.out.trans (hb3.mono HWR.out.size))
       clear ho3 hb3
       go_wp2
       go_ret2
       rw [HIN.out]
       exact ⟨_, rfl, HV3.out, HB3.out⟩
      ·have k0 : ((x : Int) == 0) = false := beq_eq_false_iff_ne.2 (by omega)
       go_wp2
       go_roundw
       case rel => exact ⟨j + 1, HJ1.out, by go_num, hHd (by rw [HLD.out, if_neg (by intro h; exact h0 h.2)]), HB⟩
       case measure => have := HJ1.out; simp [intOf]; omega
    ·have j2 : ¬ (j : Int) < (sf.len : Int) := by omega
     have HIN : Hid (insideX sf f = none) := hHd (by rw [HSC.out, HE.out, show j = sf.len by omega, Fr.drop_all]; rfl)
     go_wp2
     go_ret2
     rw [HIN.out]
     exact ⟨_, rfl, WayV.nil _ _ _ _, HWR.out⟩
theorem rInP : ∀ f : NdF, RInP f := by
 refine Fr.byKids fun f ih => ?_
 intro s cs a A c l vw w hs hso hsl hrow hway hll hkf
 obtain ⟨sd, sf⟩ := s
 obtain ⟨B0, m0, A0, c0, d0, rfl, -, -, hsrow⟩ := SpN.shape (x := (sd, sf)) hs
 obtain ⟨Aw, cw, rfl⟩ := hway.shape
 exact rwithin_in f (fun n a' k hg => ih n a' k hg) sd sf B0 m0 A0 c0 a A c l Aw cw w hs hsrow hso hsl hrow hway hll hkf
end
section
attribute [local go_sem] Oper.semAt_some
theorem val_neq0 (a : NdD) (W : World) : (binOp .neq 39 (.agg #[.int .i64 a.kind, .int .u64 (a.num : Int), .string (txt a.text)]) (.agg #[.int .i64 0, .int .u64 0, .string ⟨#[]⟩])).run Tryz.prog W = .ok (.bool (!decide (a.kind = 0 ∧ a.num = 0 ∧ a.text = []))) W := by
 rw [show Value.string ⟨#[]⟩ = Value.string (txt []) from rfl, run_neq_struct, show (10000 : Nat) = 9999 + 1 from rfl, run_equalIn_agg W 9999 39 _ _ (by simp only [Program.fieldsOf, Tryz.underlying39]) (by kernel_rfl)]
 simp only [Program.fieldsOf, Tryz.underlying39]
 simp only [Op.eqFields]
 go_simp
 simp only [txt_toList]
 by_cases h1 : a.kind = 0 <;> by_cases h2 : a.num = 0 <;> by_cases h3 : a.text = [] <;> simp [h1, h2, h3]
theorem check_r (v : Int) (x : Nd) {sd : SpD} {sf : SpF} {er : Nat} (h : rootX v = ((sd, sf), er)) : CheckX v x = if er ≠ 0 then (er, []) else if rootB x = false then (1, []) else match insideX sf x.2 with
 | some b => b
 | none => RefsX x := by
 unfold CheckX
 rw [h]
 rfl
theorem rcheck10_any (v : Int) (a : NdD) (f : NdF) (A : Option Addr) (c : Nat) (w : World) (hrow : RowT w.heap.size w (.slice A f.len c) f) (hf : f.size ≤ 1000000) (hok : OkF f) :
  Calls Tryz.prog 37 #[.int .i64 v, .agg (cN a (.slice A f.len c))] w (FirstP (CheckX v (a, f)) w) := by
 have hx1 : Below w.heap.size w (w.alloc (.cells (cN a (.slice A f.len c)) 42)) := bAl
 have HX1 := hHd hx1
 have HBK := hHd (Blk.new w 42 (cN a (.slice A f.len c)))
 have HROW := hHd hrow
 have HSZ := hHd (And.intro hf hok)
 have HRT := hHd (rroot_any v (w.alloc (.cells (cN a (.slice A f.len c)) 42)))
 have HSO := hHd (root_ok v)
 obtain ⟨rx, hrx⟩ : ∃ rx, rx = rootX v := ⟨_, rfl⟩
 rw [← hrx] at HRT HSO
 obtain ⟨⟨sd, sf⟩, er⟩ := rx
 have HC := hHd (check_r v (a, f) hrx.symm)
 simp only at HSO HC
 clear hx1 hrow hf hok hrx
 go_enter Tryz.func37, Tryz.ntmps37
 go_wp2_with fail
 refine HRT.out.mono ?_
 rintro r w2 ⟨cs, rfl, hnew, hb2⟩
 have hsl : SpL w2.heap.size w2 cs (sd, sf) := FrN.kept stay_spc hnew (fun g _ => rfl) (fun g hg => hg.2) (fun g _ => rfl) (fun g hg => hg.2)
 obtain ⟨B0, m0, A0, c0, d0, rfl, -, -, -⟩ := SpN.shape (x := (sd, sf)) hsl
 have hvq : Below w.heap.size w (w2.alloc (.cells (cT sd.name sd.kind sd.typ sd.low sd.high sd.names sd.must sd.most B0 m0 A0 sf.len c0) 109)) := (HX1.out.trans (hb2.mono HX1.out.size)).alloc (Nat.le_trans HX1.out.size hb2.size) _
 have HVQ := hHd hvq
 have HNQ : Hid (Blk (w2.alloc (.cells (cT sd.name sd.kind sd.typ sd.low sd.high sd.names sd.must sd.most B0 m0 A0 sf.len c0) 109)) w.heap.size 42 (cN a (.slice A f.len c))) := hHd ((HBK.out.below hb2 HBK.out.lt).alloc _)
 have HSQ : Hid (SpL w2.heap.size (w2.alloc (.cells (cT sd.name sd.kind sd.typ sd.low sd.high sd.names sd.must sd.most B0 m0 A0 sf.len c0) 109)) ((cT sd.name sd.kind sd.typ sd.low sd.high sd.names sd.must sd.most B0 m0 A0 sf.len c0) : Array Value).toList (sd, sf) ∧ Blk (w2.alloc (.cells (cT sd.name sd.kind sd.typ sd.low sd.high sd.names sd.must sd.most B0 m0 A0 sf.len c0) 109)) w2.heap.size 109 (cT sd.name sd.kind sd.typ sd.low sd.high sd.names sd.must sd.most B0 m0 A0 sf.len c0)) := hHd ⟨hsl.keep (fun g hg => Below.heap_alloc _ _ _ hg) (Nat.le_refl _), Blk.new _ _ _⟩
 clear hnew hb2 hsl hvq HRT
 by_cases he : er = 0
 ·subst he
  have k1 : (((0 : Nat) : Int) != 0) = false := rfl
  have HCC : Hid (CheckX v (a, f) = if rootB (a, f) = false then (1, []) else match insideX sf f with | some b => b | none => RefsX (a, f)) := hHd (by rw [HC.out, if_neg (by simp)])
  have HRI := hHd (rright_any (a, f) _ (w2.alloc (.cells (cT sd.name sd.kind sd.typ sd.low sd.high sd.names sd.must sd.most B0 m0 A0 sf.len c0) 109)) (LieB.make (HROW.out.under HVQ.out (Nat.le_refl _) HVQ.out.size)) HSZ.out.1)
  unfold ndC at HRI
  obtain ⟨q0, q1, q2, q3, q4, q5⟩ := cl6 HNQ.out
  go_wp2_with fail
  refine HRI.out.mono ?_
  rintro r w3 ⟨rfl, hb3⟩
  have HB3 := hHd (HVQ.out.trans (hb3.mono HVQ.out.size))
  have HN3 := hHd (HNQ.out.below hb3 HNQ.out.lt)
  have HS3 : Hid (SpL w2.heap.size w3 ((cT sd.name sd.kind sd.typ sd.low sd.high sd.names sd.must sd.most B0 m0 A0 sf.len c0) : Array Value).toList (sd, sf) ∧ Blk w3 w2.heap.size 109 (cT sd.name sd.kind sd.typ sd.low sd.high sd.names sd.must sd.most B0 m0 A0 sf.len c0)) := hHd ⟨HSQ.out.1.keep (fun g hg => hb3.block g (Nat.lt_trans hg HSQ.out.2.lt)) (Nat.le_refl _), HSQ.out.2.below hb3 HSQ.out.2.lt⟩
  clear hb3 q0 q1 q2 q3 q4 q5
  obtain ⟨q0, q1, q2, q3, q4, q5⟩ := cl6 HN3.out
  cases hg : rgtX (a, f) with
  | false =>
   have HX : Hid (CheckX v (a, f) = (1, [])) := hHd (by rw [HCC.out, if_pos (by unfold rootB; rw [hg]; rfl)])
   clear hg
   go_wp2
   go_ret2
   rw [HX.out]
   exact ⟨_, rfl, WayV.nil _ _ _ _, HB3.out⟩
  | true =>
   have HRB := hHd (root_dec a f hg)
   clear hg
   have e3 := fun W => val_neq0 a W
   by_cases hn : a.name = []
   ·have e1 : ((txt a.name).toList == []) = true := by rw [txt_toList, hn]; rfl
    by_cases hk : a.key = []
    ·have e2 : ((txt a.key).toList == []) = true := by rw [txt_toList, hk]; rfl
     have HNK : Hid (decide (a.name = [] ∧ a.key = []) = true) := hHd (decide_eq_true ⟨hn, hk⟩)
     clear hn hk
     cases hz : decide (a.kind = 0 ∧ a.num = 0 ∧ a.text = []) with
     | false =>
      have HX : Hid (CheckX v (a, f) = (1, [])) := hHd (by rw [HCC.out, if_pos (by rw [HRB.out, HNK.out, hz]; rfl)])
      simp only [hz] at e3
      clear hz
      go_wp2
      go_ret2
      rw [HX.out]
      exact ⟨_, rfl, WayV.nil _ _ _ _, HB3.out⟩
     | true =>
      have HCD : Hid (CheckX v (a, f) = match insideX sf f with | some b => b | none => RefsX (a, f)) := hHd (by rw [HCC.out, if_neg (by rw [HRB.out, HNK.out, hz]; simp)])
      simp only [hz] at e3
      clear hz
      have HIN := hHd (rInP f (sd, sf) ((cT sd.name sd.kind sd.typ sd.low sd.high sd.names sd.must sd.most B0 m0 A0 sf.len c0) : Array Value).toList a A c [] (.slice none 0 0) w3 (HS3.out.1.keep (fun g _ => rfl) (Nat.le_of_lt HS3.out.2.lt)) HSO.out.1 HSO.out.2 (HROW.out.under HB3.out (Nat.le_refl _) HB3.out.size) (WayV.nil _ _ _ _) (by have := HSZ.out.1; simpa using this) HSZ.out.2)
      have HRW := hHd (HROW.out.under HB3.out (Nat.le_refl _) HB3.out.size)
      obtain ⟨y0, y1, y2, y3, y4, y5, y6, y7, y8⟩ := cl9 HS3.out.2
      obtain ⟨oo, hoo⟩ : ∃ oo, oo = insideX sf f := ⟨_, rfl⟩
      simp only at HIN
      rw [← hoo] at HIN HCD
      go_wp2_with fail
      refine HIN.out.mono ?_
      rintro r w4 ⟨v4, rfl, hv4, hb4⟩
      have HB4 := hHd (HB3.out.trans (hb4.mono HB3.out.size))
      have HN4 := hHd (HN3.out.below hb4 HN3.out.lt)
      have HV4 := hHd hv4
      have HR4 := hHd (HRW.out.below hb4)
      clear hb4 hv4 y0 y1 y2 y3 y4 y5 y6 y7 y8 q0 q1 q2 q3 q4 q5
      cases oo with
      | some bb =>
       have k2 : ((bb.1 : Int) != 0) = true := by
        have h := (scan_err (show scanF f sf (zeros sf) = some bb from hoo.symm)).1
        unfold bne
        rw [beq_eq_false_iff_ne.2 (by omega)]
        rfl
       have HX : Hid (CheckX v (a, f) = bb) := hHd (by rw [HCD.out])
       clear hoo
       unfold wayO
       simp only
       go_wp2
       go_ret2
       rw [HX.out]
       exact ⟨_, rfl, HV4.out, HB4.out⟩
      | none =>
       have HX : Hid (CheckX v (a, f) = RefsX (a, f)) := hHd (by rw [HCD.out])
       clear hoo
       unfold wayO
       simp only
       obtain ⟨q0, q1, q2, q3, q4, q5⟩ := cl6 HN4.out
       go_wp2_with fail
       refine (rrefs10_any a f A c _ HR4.out HSZ.out.1).mono ?_
       rintro r w5 ⟨v5, rfl, hv5, hb5⟩
       have HV5 := hHd hv5
       have HB5 := hHd (HB4.out.trans (hb5.mono HB4.out.size))
       clear hv5 hb5 q0 q1 q2 q3 q4 q5
       go_wp2
       go_ret2
       rw [HX.out]
       exact ⟨_, rfl, HV5.out, HB5.out⟩
    ·have e2 : ((txt a.key).toList == []) = false := by rw [txt_toList]; exact beq_eq_false_iff_ne.2 hk
     have HX : Hid (CheckX v (a, f) = (1, [])) := hHd (by rw [HCC.out, if_pos (by rw [HRB.out, decide_eq_false (fun h => hk h.2)]; rfl)])
     clear hn hk
     go_wp2
     go_ret2
     rw [HX.out]
     exact ⟨_, rfl, WayV.nil _ _ _ _, HB3.out⟩
   ·have e1 : ((txt a.name).toList == []) = false := by rw [txt_toList]; exact beq_eq_false_iff_ne.2 hn
    have HX : Hid (CheckX v (a, f) = (1, [])) := hHd (by rw [HCC.out, if_pos (by rw [HRB.out, decide_eq_false (fun h => hn h.1)]; rfl)])
    clear hn
    go_wp2
    go_ret2
    rw [HX.out]
    exact ⟨_, rfl, WayV.nil _ _ _ _, HB3.out⟩
 ·have k1 : ((er : Int) != 0) = true := by unfold bne; rw [beq_eq_false_iff_ne.2 (by omega)]; rfl
  have HX : Hid (CheckX v (a, f) = (er, [])) := hHd (by rw [HC.out, if_pos he])
  clear he
  go_wp2
  go_ret2
  rw [HX.out]
  exact ⟨_, rfl, WayV.nil _ _ _ _, HVQ.out⟩
end
theorem rmay10_any (v : Int) (a : NdD) (f : NdF) (A : Option Addr) (c : Nat) (w : World) (hrow : RowT w.heap.size w (.slice A f.len c) f) (hf : f.size ≤ 1000000) (hok : OkF f) :
  Calls Tryz.prog 17 #[.int .i64 v, .agg (cN a (.slice A f.len c))] w (Ans9 (.bool (MayX v (a, f))) w) := by
 have hx1 : Below w.heap.size w (w.alloc (.cells (cN a (.slice A f.len c)) 42)) := bAl
 have HBK := hHd (Blk.new w 42 (cN a (.slice A f.len c)))
 have HX1 := hHd hx1
 have HCK := hHd (rcheck10_any v a f A c (w.alloc (.cells (cN a (.slice A f.len c)) 42)) (hrow.under hx1 (Nat.le_refl _) hx1.size) hf hok)
 have HM : Hid (MayX v (a, f) = ((((CheckX v (a, f)).1 : Nat) : Int) == 0)) := hHd (by
  unfold MayX
  by_cases h : (CheckX v (a, f)).1 = 0
  ·rw [h]; rfl
  ·rw [decide_eq_false h]; exact (beq_eq_false_iff_ne.2 (by omega)).symm)
 clear hx1 hrow hf hok
 obtain ⟨q0, q1, q2, q3, q4, q5⟩ := cl6 HBK.out
 go_enter Tryz.func17, Tryz.ntmps17
 go_wp2_with fail
 refine HCK.out.mono ?_
 rintro r w3 ⟨vv, rfl, hv, hb3⟩
 obtain ⟨A3, c3, rfl⟩ := hv.shape
 have HB3 := hHd (HX1.out.trans (hb3.mono HX1.out.size))
 clear hv hb3 q0 q1 q2 q3 q4 q5
 go_wp2
 go_ret
 exact ⟨by rw [HM.out]; rfl, HB3.out⟩
end Go.Proofs.YtleidkpdpabkpaaGreatDoor
