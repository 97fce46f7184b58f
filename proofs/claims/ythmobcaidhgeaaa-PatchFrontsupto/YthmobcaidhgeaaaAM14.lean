/- Law17D TreOpen -/
import Derived.Test.YthmobcaidhgeaaaAM12
import Derived.Test.YthmobcaidhgeaaaAM13
import Derived.Deep.Fields
import Derived.SliceStrings
set_option linter.unusedSimpArgs false
set_option linter.unusedVariables false
set_option maxRecDepth 100000
set_option maxHeartbeats 8000000
namespace Go.Proofs.Ythmobcaidhgeaaa
open Go.RowKit
section
attribute [local go_sem] Oper.semAt_some
theorem patchOnce_not (a b : NdD) (f g : NdF) (A B : Option Addr) (c d : Nat) (w : World) (hx : LieN w (ndC a (.slice A f.len c)) (a, f)) (hy : LieN w (ndC b (.slice B g.len d)) (b, g)) (hf : f.size ≤ 1000000) (hg : g.size ≤ 1000000) (C : PatC w) (HA : Awake17 w) (hs : smallX a b f g = false) : Calls Try.prog 6 #[.agg (cN a (.slice A f.len c)), .agg (cN b (.slice B g.len d))] w (Ans9 (.bool true) w) := by
 have hb2 : Blk ((w.alloc (.cells (cN a (.slice A f.len c)) 27)).alloc (.cells (cN b (.slice B g.len d)) 27)) (w.heap.size + 1) 27 (cN b (.slice B g.len d)) := by
  have h := Blk.new (w.alloc (.cells (cN a (.slice A f.len c)) 27)) 27 (cN b (.slice B g.len d))
  rwa [show (w.alloc (.cells (cN a (.slice A f.len c)) 27)).heap.size = w.heap.size + 1 by simp] at h
 have hb1 : Blk ((w.alloc (.cells (cN a (.slice A f.len c)) 27)).alloc (.cells (cN b (.slice B g.len d)) 27)) w.heap.size 27 (cN a (.slice A f.len c)) := (Blk.new w 27 (cN a (.slice A f.len c))).alloc (.cells (cN b (.slice B g.len d)) 27)
 have hbw : Below w.heap.size w ((w.alloc (.cells (cN a (.slice A f.len c)) 27)).alloc (.cells (cN b (.slice B g.len d)) 27)) := bAl.alloc (by simp) _
 have hc1 : ∀ W, Below w.heap.size w W → Hid (Calls Try.prog 8 #[.agg (cN a (.slice A f.len c)), .agg (cN b (.slice B g.len d))] W (Ans9 (.bool (smallX a b f g)) W)) := fun W h => hHd (small17_any a b f g A B c d W (hx.below h) (hy.below h) (by omega) (by omega))
 have HX := hHd hb1
 have HY := hHd hb2
 have HB := hHd hbw
 have HAW := hHd (HA _ hbw)
 rw [hs] at hc1
 have C1 := hHd hc1
 clear hx hy hf hg hc1 hb1 hb2 hbw HA C hs
 go_enter Try.func6, Try.ntmps6
 go_wp2_with fail
 refine HAW.out.mono ?_
 rintro r w1 ⟨rfl, hb⟩
 have HX1 := hHd (HX.out.below hb HX.out.lt)
 have HY1 := hHd (HY.out.below hb HY.out.lt)
 have HB1 := hHd (HB.out.trans (hb.mono HB.out.size))
 clear hb
 obtain ⟨q0, q1, q2, q3, q4, q5⟩ := cl6 HX1.out
 obtain ⟨x0, x1, x2, x3, x4, x5⟩ := cl6 HY1.out
 go_wp2_with fail
 refine (C1.out _ HB1.out).out.mono ?_
 rintro r w2 ⟨rfl, hb⟩
 have HX2 := hHd (HX1.out.below hb HX1.out.lt)
 have HY2 := hHd (HY1.out.below hb HY1.out.lt)
 have HB2 := hHd (HB1.out.trans (hb.mono HB1.out.size))
 clear hb
 obtain ⟨q0, q1, q2, q3, q4, q5⟩ := cl6 HX2.out
 obtain ⟨x0, x1, x2, x3, x4, x5⟩ := cl6 HY2.out
 go_wp2
 go_ret
 exact ⟨rfl, HB2.out⟩
theorem patchOnce_yes (a b : NdD) (f g : NdF) (A B : Option Addr) (c d : Nat) (w : World) (hx : LieN w (ndC a (.slice A f.len c)) (a, f)) (hy : LieN w (ndC b (.slice B g.len d)) (b, g)) (hf : f.size ≤ 1000000) (hg : g.size ≤ 1000000) (C : PatC w) (HA : Awake17 w) (hs : smallX a b f g = true) : Calls Try.prog 6 #[.agg (cN a (.slice A f.len c)), .agg (cN b (.slice B g.len d))] w (Ans9 (.bool true) w) := by
 have hb2 : Blk ((w.alloc (.cells (cN a (.slice A f.len c)) 27)).alloc (.cells (cN b (.slice B g.len d)) 27)) (w.heap.size + 1) 27 (cN b (.slice B g.len d)) := by
  have h := Blk.new (w.alloc (.cells (cN a (.slice A f.len c)) 27)) 27 (cN b (.slice B g.len d))
  rwa [show (w.alloc (.cells (cN a (.slice A f.len c)) 27)).heap.size = w.heap.size + 1 by simp] at h
 have hb1 : Blk ((w.alloc (.cells (cN a (.slice A f.len c)) 27)).alloc (.cells (cN b (.slice B g.len d)) 27)) w.heap.size 27 (cN a (.slice A f.len c)) := (Blk.new w 27 (cN a (.slice A f.len c))).alloc (.cells (cN b (.slice B g.len d)) 27)
 have hbw : Below w.heap.size w ((w.alloc (.cells (cN a (.slice A f.len c)) 27)).alloc (.cells (cN b (.slice B g.len d)) 27)) := bAl.alloc (by simp) _
 have hc1 : ∀ W, Below w.heap.size w W → Hid (Calls Try.prog 8 #[.agg (cN a (.slice A f.len c)), .agg (cN b (.slice B g.len d))] W (Ans9 (.bool (smallX a b f g)) W)) := fun W h => hHd (small17_any a b f g A B c d W (hx.below h) (hy.below h) (by omega) (by omega))
 have HX := hHd hb1
 have HY := hHd hb2
 have HB := hHd hbw
 have HAW := hHd (HA _ hbw)
 rw [hs] at hc1
 obtain ⟨⟨⟨⟨⟨s1, s2⟩, s3⟩, s4⟩, s5⟩, s6⟩ : ((((f.size + 1 ≤ 300 ∧ g.size + 1 ≤ 300) ∧ a.kind = 0) ∧ b.kind = 0) ∧ rgtX (a, f) = true) ∧ rgtX (b, g) = true := by simpa [smallX] using hs
 obtain ⟨r1, r2, r3⟩ := rgt_kind0 s5 s6 s3 s4
 obtain ⟨t1, t2⟩ := ed_there s3 s5 r2
 have hrn := ed_rgt f g [] r3 r2
 obtain ⟨n1, n2⟩ := few_ed s1 s2
 obtain ⟨l, hl⟩ : ∃ l, l = edF f g [] := ⟨_, rfl⟩
 rw [← hl] at t1 t2 hrn n1 n2
 have RU1 : Hid (runXE (a, f) l 0 = ((a, g), 0, 0)) := hHd (t1 0)
 have FW1 : Hid (FewR (a, f) l) := hHd ⟨by simp only; omega, by omega, n2⟩
 have RG1 : Hid (rgtX (a, f) = true ∧ ∀ e ∈ l, rgtX e.node = true) := hHd ⟨s5, fun e he => (hrn e he).1⟩
 have LL : Hid (l.length ≤ 1000000) := hHd (by omega)
 have CE : ∀ W, Below w.heap.size w W → Hid (Calls Try.prog 15 #[.agg (cN a (.slice A f.len c)), .agg (cN b (.slice B g.len d))] W (InvP l W)) := fun W h => hHd (by rw [hl]; exact rEdits16_any a b f g A B c d W (hx.below h) (hy.below h) (by omega))
 have CS : ∀ W, Below w.heap.size w W → Hid (Calls Try.prog 18 #[.agg (cN a (.slice A f.len c))] W (RTreP1 (a, f) W)) := fun W h => hHd (by
  have h1 := rsort_any (a, f) _ W (hx.below h) hf
  rw [sortX_right s5] at h1
  exact h1.mono fun r W' ⟨cs, h1, h2, h3⟩ => ⟨cs, h1, h2.lies (Nat.zero_le _), h3⟩)
 have S1 : ∀ W cs, LieN W cs (a, f) → Below w.heap.size w W → Hid (Calls Try.prog 12 #[.agg cs.toArray, .agg (cN a (.slice A f.len c))] W (Ans9 (.bool true) W)) := fun W cs hc hW => hHd (by
  have h := rsamet_any (a, f) (a, f) cs _ W hc (hx.below hW) hf hf
  rw [decide_eq_true rfl] at h
  exact h)
 have ONC : Hid (∀ x, l.getLast? = some x → rgtX (a, g) = true ∧ FewO x ∧ rgtX x.node = true ∧ ((x.kind = 1 ∧ (oneX (a, g) x).2 = 24) ∨ (x.kind = 2 ∧ (oneX (a, g) x).2 = 30) ∨ (x.kind = 3 ∧ (oneX (a, g) x).2 = 23))) := hHd (fun x hx => by
  obtain ⟨l0, e0⟩ : ∃ l0, l = l0 ++ [x] := by
   rcases List.eq_nil_or_concat l with e | ⟨l0, y, e⟩
   ·rw [e] at hx; cases hx
   ·rw [e] at hx
    have e1 : y = x := by simpa using hx
    exact ⟨l0, by rw [e, e1]; simp⟩
  have hm : x ∈ l := by rw [e0]; simp
  rw [e0] at t1
  obtain ⟨k, h1, h2⟩ := goes_last t1
  have hk := rgt_goes s5 (fun e he => (hrn e (by rw [e0]; exact List.mem_append_left _ he)).1) h1
  exact ⟨r1, n2 x hm, (hrn x hm).1, one_once hk (by rw [hl] at hm; exact ed_diff f g [] x hm) h2⟩)
 have gsz : g.size ≤ 299 := by omega
 have HC := hHd C
 have HXL := hHd hx
 have C1 := hHd hc1
 have ll : l.length ≤ 598 := n1
 clear hx hy hf hg hc1 hb1 hb2 hbw HA C hs s1 s2 s3 s4 s5 s6 r1 r2 r3 t1 t2 hrn n1 n2 hl
 go_enter Try.func6, Try.ntmps6
 go_wp2_with fail
 refine HAW.out.mono ?_
 rintro r w1 ⟨rfl, hb⟩
 have HX1 := hHd (HX.out.below hb HX.out.lt)
 have HY1 := hHd (HY.out.below hb HY.out.lt)
 have HB1 := hHd (HB.out.trans (hb.mono HB.out.size))
 clear hb
 obtain ⟨q0, q1, q2, q3, q4, q5⟩ := cl6 HX1.out
 obtain ⟨x0, x1, x2, x3, x4, x5⟩ := cl6 HY1.out
 go_wp2_with fail
 refine (C1.out _ HB1.out).out.mono ?_
 rintro r w2 ⟨rfl, hb⟩
 have HX2 := hHd (HX1.out.below hb HX1.out.lt)
 have HY2 := hHd (HY1.out.below hb HY1.out.lt)
 have HB2 := hHd (HB1.out.trans (hb.mono HB1.out.size))
 clear hb
 obtain ⟨q0, q1, q2, q3, q4, q5⟩ := cl6 HX2.out
 obtain ⟨x0, x1, x2, x3, x4, x5⟩ := cl6 HY2.out
 go_wp2_with fail
 refine (CE _ HB2.out).out.mono ?_
 rintro r w3 ⟨v, rfl, hv, hb⟩
 obtain ⟨Av, cv, rfl⟩ := hv.shape
 have HV3 : Hid (ESub w3.heap.size w3 (.slice Av l.length cv) l) := hHd (EdsV.keep hv (fun _ _ => rfl) (fun _ h => h))
 have HX3 := hHd (HX2.out.below hb HX2.out.lt)
 have HB3 := hHd (HB2.out.trans (hb.mono HB2.out.size))
 clear hv hb q0 q1 q2 q3 q4 q5 x0 x1 x2 x3 x4 x5
 obtain ⟨q0, q1, q2, q3, q4, q5⟩ := cl6 HX3.out
 go_wp2_with fail
 refine (CS _ HB3.out).out.mono ?_
 intro r w4 hr
 obtain ⟨cs, rfl, hl4, hb⟩ := hr
 obtain ⟨A4, c4, rfl, -⟩ := LieB.shape hl4
 have hba : Below w4.heap.size w4 (w4.alloc (.cells (cN a (.slice A4 f.len c4)) 27)) := bAl
 have hb34 : Below w3.heap.size w3 (w4.alloc (.cells (cN a (.slice A4 f.len c4)) 27)) := hb.trans (hba.mono hb.size)
 have HX4 := hHd (HX3.out.below hb34 HX3.out.lt)
 have HS4 : Hid (Blk (w4.alloc (.cells (cN a (.slice A4 f.len c4)) 27)) w4.heap.size 27 (cN a (.slice A4 f.len c4))) := hHd (Blk.new _ _ _)
 have LS4 : Hid (LieN (w4.alloc (.cells (cN a (.slice A4 f.len c4)) 27)) (ndC a (.slice A4 f.len c4)) (a, f)) := hHd (hl4.below hba)
 have HV4 := hHd (HV3.out.below hb34 (Nat.le_refl _))
 have HB4 := hHd (HB3.out.trans (hb34.mono HB3.out.size))
 have HZ4 : Hid (w3.heap.size ≤ (w4.alloc (.cells (cN a (.slice A4 f.len c4)) 27)).heap.size) := hHd hb34.size
 clear hl4 hb hba hb34 q0 q1 q2 q3 q4 q5
 obtain ⟨q0, q1, q2, q3, q4, q5⟩ := cl6 HX4.out
 go_wp2_with fail
 refine (HC.out.apply w.heap.size (a, f) l _ _ _ HB4.out.size (HXL.out.under HB4.out (Nat.le_refl _) (Nat.le_refl _)) (HV4.out.bel HZ4.out) FW1.out RG1.out.1 RG1.out.2 HB4.out).mono ?_
 intro r w6 hr
 obtain ⟨A6, c6, rfl, hl6, hb⟩ := hr.flat RU1.out
 have hba : Below w6.heap.size w6 (w6.alloc (.cells (cN a (.slice A6 g.len c6)) 27)) := bAl
 have hb46 := hb.trans (hba.mono hb.size)
 have HX6 := hHd (HX4.out.below hb46 HX4.out.lt)
 have HS6 := hHd (HS4.out.below hb46 HS4.out.lt)
 have LS6 := hHd (LS4.out.below hb46)
 have HM6 : Hid (Blk (w6.alloc (.cells (cN a (.slice A6 g.len c6)) 27)) w6.heap.size 27 (cN a (.slice A6 g.len c6))) := hHd (Blk.new _ _ _)
 have LM6 : Hid (LieN (w6.alloc (.cells (cN a (.slice A6 g.len c6)) 27)) (ndC a (.slice A6 g.len c6)) (a, g)) := hHd ((hl6.lies (Nat.le_trans HB4.out.size hb.size)).below hba)
 have HV6 := hHd (HV4.out.below hb46 HZ4.out)
 have HB6 := hHd (HB4.out.trans (hb46.mono HB4.out.size))
 have HZ6 : Hid (w3.heap.size ≤ (w6.alloc (.cells (cN a (.slice A6 g.len c6)) 27)).heap.size) := hHd (Nat.le_trans HZ4.out hb46.size)
 have D7 := S1 _ _ LS6.out HB6.out
 clear hr hl6 hb hba hb46 q0 q1 q2 q3 q4 q5
 obtain ⟨q0, q1, q2, q3, q4, q5⟩ := cl6 HS6.out
 obtain ⟨x0, x1, x2, x3, x4, x5⟩ := cl6 HX6.out
 go_wp2_with fail
 refine D7.out.mono ?_
 rintro r w7 ⟨rfl, hb⟩
 have HM7 := hHd (HM6.out.below hb HM6.out.lt)
 have LM7 := hHd (LM6.out.below hb)
 have HV7 := hHd (HV6.out.below hb HZ6.out)
 have HZ7 : Hid (w3.heap.size ≤ w7.heap.size) := hHd (Nat.le_trans HZ6.out hb.size)
 have HB7 := hHd (HB6.out.trans (hb.mono HB6.out.size))
 clear hb D7 q0 q1 q2 q3 q4 q5 x0 x1 x2 x3 x4 x5
 by_cases h0 : l.length = 0
 ·have j0 : ((l.length : Int) == 0) = true := beq_iff_eq.2 (by omega)
  have j1 : (l.length == 0) = true := beq_iff_eq.2 h0
  clear h0
  go_wp2
  go_ret
  exact ⟨rfl, HB7.out⟩
 ·have j0 : ((l.length : Int) == 0) = false := beq_eq_false_iff_ne.2 (by omega)
  have j1 : (l.length == 0) = false := beq_eq_false_iff_ne.2 h0
  obtain ⟨KL, hK⟩ : ∃ KL, KL = l.length - 1 := ⟨_, rfl⟩
  have hKl : (l.length : Int) - 1 = (KL : Int) := by omega
  have hKw : IntKind.i64.wrap (KL : Int) = (KL : Int) := IntWalk.i64_in _ (by omega)
  have hKn : KL < l.length := by omega
  have i1 : (0 : Int) ≤ (KL : Int) := by omega
  have i2 : (KL : Int) < (l.length : Int) := by omega
  obtain ⟨x, hx⟩ : ∃ x, l[KL]? = some x := ⟨_, List.getElem?_eq_getElem hKn⟩
  obtain ⟨z1, z2, z3, z4⟩ := ONC.out x (by rw [List.getLast?_eq_getElem?, ← hK]; exact hx)
  obtain ⟨g9, o9, Aw, cw, An, cn, Ao, co, rfl, -, -, hg9, hw9, hn9, ho9, hcl⟩ := HV7.out.at hx
  obtain ⟨xk, xw, ⟨xp, xpf⟩, ⟨xo, xof⟩⟩ := x
  simp only at z2 z3 z4 hw9 hn9 ho9 hcl
  have HE7 : Hid (EdS (Bel w7) w7 (edC xk (.slice Aw xw.length cw) xp (.slice An xpf.len cn) xo (.slice Ao xof.len co)) ⟨xk, xw, (xp, xpf), (xo, xof)⟩) := hHd ⟨_, _, _, rfl, hw9.keep (fun _ _ => rfl) (fun g hg => Nat.lt_of_lt_of_le hg HZ7.out), RowS.keep hn9 (fun _ _ => rfl) (fun g hg => Nat.lt_of_lt_of_le hg HZ7.out), RowS.keep ho9 (fun _ _ => rfl) (fun g hg => Nat.lt_of_lt_of_le hg HZ7.out)⟩
  have HCL : Hid (∀ i u, (edC xk (.slice Aw xw.length cw) xp (.slice An xpf.len cn) xo (.slice Ao xof.len co))[i]? = some u → w7.cell? ⟨g9, o9 + KL * 14 + i, none⟩ = some u) := hHd hcl
  have HG9 : Hid (g9 < w7.heap.size) := hHd (Nat.lt_of_lt_of_le hg9 HZ7.out)
  obtain ⟨E, hE⟩ : ∃ E, E = (oneX (a, g) ⟨xk, xw, (xp, xpf), (xo, xof)⟩).2 := ⟨_, rfl⟩
  obtain ⟨⟨ra, rf⟩, hR⟩ : ∃ R, R = (oneX (a, g) ⟨xk, xw, (xp, xpf), (xo, xof)⟩).1 := ⟨_, rfl⟩
  have HMW : Hid (Blk w7.drew w6.heap.size 27 (cN a (.slice A6 g.len c6))) := hHd (HM7.out.below (Below.refl _ _).drew HM7.out.lt)
  have HO : ∀ W, Below w7.heap.size w7 W → Hid (Calls Try.prog 10 #[.agg (cN a (.slice A6 g.len c6)), .agg #[.int .i64 xk, .slice Aw xw.length cw, .string (txt xp.name), .string (txt xp.key), .int .i64 xp.kind, .int .u64 (xp.num : Int), .string (txt xp.text), .slice An xpf.len cn, .string (txt xo.name), .string (txt xo.key), .int .i64 xo.kind, .int .u64 (xo.num : Int), .string (txt xo.text), .slice Ao xof.len co]] W (RTreP (ra, rf) (.int .i64 (E : Int)) W)) := fun W hW => hHd (by
   have h := (HC.out.one W.heap.size (a, g) ⟨xk, xw, (xp, xpf), (xo, xof)⟩ (ndC a (.slice A6 g.len c6)) _ W (Nat.le_refl _) (LM7.out.below hW) (EdS.keep HE7.out (fun g hg => hW.block g hg) (fun g hg => Nat.lt_of_lt_of_le hg hW.size)) (by simp only; omega) z2 z1 z3 (HB7.out.trans (hW.mono HB7.out.size))).mono (fun _ _ k => PTreP.r k)
   rw [← hE, ← hR] at h
   exact h)
  rw [← hE] at z4
  have Z4 := hHd z4
  clear z1 z2 z3 z4 hw9 hn9 ho9 hcl hx hg9 hE hR h0 hK gsz
  go_upto_region 14 with (fail)
  go_cut [12, 13] (fun t12 t13 wx => (∃ b12 : Nat, t12 = .pointer (some ⟨b12, 0, none⟩)) ∧ t13 = .int .i64 (E : Int) ∧ Hid (Below w.heap.size w wx ∧ wx.cell? ⟨g9, o9 + KL * 14, none⟩ = some (.int .i64 xk)))
  case first =>
   have HWW : Hid (Below w7.heap.size w7 w7.drew) := hHd (Below.refl _ _).drew
   have HCW : Hid (∀ i u, (edC xk (.slice Aw xw.length cw) xp (.slice An xpf.len cn) xo (.slice Ao xof.len co))[i]? = some u → w7.drew.cell? ⟨g9, o9 + KL * 14 + i, none⟩ = some u) := HCL
   refine wp_region_noPanic ?_
   refine wp_region_held_drew (S := fun _ => True) (by kernel_rfl) trivial (fun hS => ?_)
   refine held_more (S' := fun w' => Blk w' w6.heap.size 27 (cN a (.slice A6 g.len c6)) ∧ (∀ i u, (edC xk (.slice Aw xw.length cw) xp (.slice An xpf.len cn) xo (.slice Ao xof.len co))[i]? = some u → w'.cell? ⟨g9, o9 + KL * 14 + i, none⟩ = some u)) (fun _ _ => trivial) _ _ _ _ ?_
   replace hS := And.intro HMW.out HCW.out
   refine tkH 0 hS ?_ (hy := fun w hSw => by obtain ⟨q0, q1, q2, q3, q4, q5⟩ := cl6 hSw.1; (go_simp <;> with_reducible rfl))
   refine tkH 1 hS ?_
   refine tkH 2 hS ?_
   refine tkH 3 hS ?_
   refine tkH 4 hS ?_
   refine tkH 5 hS ?_
   refine tkH 6 hS ?_ (hy := fun w hSw => by have p0 : w.cell? ⟨g9, o9 + KL * 14, none⟩ = _ := hSw.2 0 _ rfl; have p1 := hSw.2 1 _ rfl; have p2 := hSw.2 2 _ rfl; have p3 := hSw.2 3 _ rfl; have p4 := hSw.2 4 _ rfl; have p5 := hSw.2 5 _ rfl; have p6 := hSw.2 6 _ rfl; have p7 := hSw.2 7 _ rfl; have p8 := hSw.2 8 _ rfl; have p9 := hSw.2 9 _ rfl; have p10 := hSw.2 10 _ rfl; have p11 := hSw.2 11 _ rfl; have p12 := hSw.2 12 _ rfl; have p13 := hSw.2 13 _ rfl; (go_simp <;> with_reducible rfl))
   refine rdy [7, 11] (rdC (fun K hK => ?str_0) (rdC (fun K hK => ?str_1) .nil))
   case' str_0 =>
    go_simp
    refine (HO _ HWW.out).out.mono ?_
    intro r w16 hr
    obtain ⟨A9, c9, rfl, hl9, hb⟩ := hr.flatR
    have HWW := hHd (HWW.out.trans (hb.mono HWW.out.size))
    have HS7 := hHd (hS.1.below hb hS.1.lt)
    clear hb hr hl9
    go_wp2_with fail
    refine hK.out _ _ ?sr_0 (fun hS => ?_)
    case sr_0 => (exact ⟨HS7.out, fun i u hu => (HWW.out.cell (p := ⟨g9, o9 + KL * 14 + i, none⟩) HG9.out).trans (HCL.out i u hu)⟩)
    clear hK K
    (try simp only [Act.put, layS])
    refine tkH 8 hS ?_
    refine tkH 9 hS ?_
    refine tkH 10 hS ?_
    refine rdy1 11 fun K hK => ?_
    have HZ : Hid (Blk ((w16).alloc (.cells #[.string ⟨#[]⟩, .string ⟨#[]⟩, .int .i64 0, .int .u64 0, .string ⟨#[]⟩, .slice none 0 0] 27)) (w16.heap.size) 27 #[.string ⟨#[]⟩, .string ⟨#[]⟩, .int .i64 0, .int .u64 0, .string ⟨#[]⟩, .slice none 0 0]) := hHd (blk_at17 rfl _ _)
    have HZB : Hid (w7.heap.size ≤ (w16.heap.size)) := hHd (by first | exact Nat.le_refl _ | exact HWW.out.size)
    have hb : Below (w16).heap.size (w16) ((w16).alloc (.cells #[.string ⟨#[]⟩, .string ⟨#[]⟩, .int .i64 0, .int .u64 0, .string ⟨#[]⟩, .slice none 0 0] 27)) := bAl
    have HQ9 : Veil17 (Below w7.heap.size w7 ((w16).alloc (.cells (cN ra (.slice A9 rf.len c9)) 27))) := .mk (HWW.out.alloc HWW.out.size _)
    have HWW := hHd (HWW.out.trans (hb.mono HWW.out.size))
    clear hb
    go_simp
    refine hK.out _ _ ?sr_2 (fun hS => ?_)
    case sr_2 => (exact ⟨hS.1.below bAl hS.1.lt, fun i u hu => (HWW.out.cell (p := ⟨g9, o9 + KL * 14 + i, none⟩) HG9.out).trans (HCL.out i u hu)⟩)
    clear hK K
    (try simp only [Act.put, layS])
    refine rdy1 12 fun K hK => ?_
    have g0 := HZ.out.frozen 0
    have g1 := HZ.out.frozen 1
    have g2 := HZ.out.frozen 2
    have g3 := HZ.out.frozen 3
    have g4 := HZ.out.frozen 4
    have g5 := HZ.out.frozen 5
    obtain ⟨k0, k1, k2, k3, k4, k5⟩ := cl6 HZ.out
    clear HWW HZ
    go_simp
    refine hK.out _ _ ?sr_3 (fun hS => ?_)
    case sr_3 => (refine ⟨?_, fun i u hu => (HQ9.out.cell (p := ⟨g9, o9 + KL * 14 + i, none⟩) HG9.out).trans (HCL.out i u hu)⟩; exact (HQ9.out.block w6.heap.size HM7.out.lt).trans HM7.out)
    clear hK K
    (try simp only [Act.put, layS])
    refine tkH 13 hS ?_
    refine wpAnyH_done (by kernel_rfl) ?_ _
    refine NoPanic.normal ?_
   case' str_1 =>
    have HZ : Hid (Blk ((w7.drew).alloc (.cells #[.string ⟨#[]⟩, .string ⟨#[]⟩, .int .i64 0, .int .u64 0, .string ⟨#[]⟩, .slice none 0 0] 27)) (w7.heap.size) 27 #[.string ⟨#[]⟩, .string ⟨#[]⟩, .int .i64 0, .int .u64 0, .string ⟨#[]⟩, .slice none 0 0]) := hHd (blk_at17 rfl _ _)
    have HZB : Hid (w7.heap.size ≤ (w7.heap.size)) := hHd (by first | exact Nat.le_refl _ | exact HWW.out.size)
    have hb : Below (w7.drew).heap.size (w7.drew) ((w7.drew).alloc (.cells #[.string ⟨#[]⟩, .string ⟨#[]⟩, .int .i64 0, .int .u64 0, .string ⟨#[]⟩, .slice none 0 0] 27)) := bAl
    have HWW := hHd (HWW.out.trans (hb.mono HWW.out.size))
    clear hb
    go_simp
    refine hK.out _ _ ?sr_1 (fun hS => ?_)
    case sr_1 => (exact ⟨hS.1.below bAl hS.1.lt, fun i u hu => (HWW.out.cell (p := ⟨g9, o9 + KL * 14 + i, none⟩) HG9.out).trans (HCL.out i u hu)⟩)
    clear hK K
    (try simp only [Act.put, layS])
    refine rdy1 7 fun K hK => ?_
    go_simp
    refine (HO _ HWW.out).out.mono ?_
    intro r w16 hr
    obtain ⟨A9, c9, rfl, hl9, hb⟩ := hr.flatR
    have HWW := hHd (HWW.out.trans (hb.mono HWW.out.size))
    have HZ := hHd (HZ.out.below hb HZ.out.lt)
    have HS7 := hHd (hS.1.below hb hS.1.lt)
    clear hb hr hl9
    go_wp2_with fail
    refine hK.out _ _ ?sr_4 (fun hS => ?_)
    case sr_4 => (exact ⟨HS7.out, fun i u hu => (HWW.out.cell (p := ⟨g9, o9 + KL * 14 + i, none⟩) HG9.out).trans (HCL.out i u hu)⟩)
    clear hK K
    (try simp only [Act.put, layS])
    refine tkH 8 hS ?_
    refine tkH 9 hS ?_
    refine tkH 10 hS ?_
    refine rdy1 12 fun K hK => ?_
    have HQ9 : Veil17 (Below w7.heap.size w7 (set6 w16 w7.heap.size (.string (txt ra.name)) (.string (txt ra.key)) (.int .i64 ra.kind) (.int .u64 (ra.num : Int)) (.string (txt ra.text)) (.slice A9 rf.len c9))) := .mk (HWW.out.trans (set6_below HZB.out))
    have g0 := HZ.out.frozen 0
    have g1 := HZ.out.frozen 1
    have g2 := HZ.out.frozen 2
    have g3 := HZ.out.frozen 3
    have g4 := HZ.out.frozen 4
    have g5 := HZ.out.frozen 5
    obtain ⟨k0, k1, k2, k3, k4, k5⟩ := cl6 HZ.out
    clear HWW HZ
    go_simp
    refine hK.out _ _ ?sr_5 (fun hS => ?_)
    case sr_5 => (refine ⟨?_, fun i u hu => (HQ9.out.cell (p := ⟨g9, o9 + KL * 14 + i, none⟩) HG9.out).trans (HCL.out i u hu)⟩; exact (HQ9.out.block w6.heap.size HM7.out.lt).trans HM7.out)
    clear hK K
    (try simp only [Act.put, layS])
    refine tkH 13 hS ?_
    refine wpAnyH_done (by kernel_rfl) ?_ _
    refine NoPanic.normal ?_
   all_goals (go_wp2_with fail; go_meet; exact ⟨⟨_, rfl⟩, rfl, hHd ⟨HB7.out.trans (HQ9.out.mono HB7.out.size), (HQ9.out.cell (p := ⟨g9, o9 + KL * 14, none⟩) HG9.out).trans (HCL.out 0 _ rfl)⟩⟩)
  case rest =>
   obtain ⟨⟨b12, rfl⟩, rfl, Q9⟩ := hcut
   obtain ⟨w9, hw9⟩ : ∃ w9, w9 = wc := ⟨_, rfl⟩
   subst hw9
   have ck : w9.cell? ⟨g9, o9 + KL * 14, none⟩ = some (.int .i64 xk) := Q9.out.2
   clear HMW
   rcases Z4.out with ⟨z5, z6⟩ | ⟨z5, z6⟩ | ⟨z5, z6⟩
   all_goals
    subst z5 z6
    go_wp2
    go_ret
    exact ⟨rfl, Q9.out.1⟩
theorem patchOnce_walk (a b : NdD) (f g : NdF) (A B : Option Addr) (c d : Nat) (w : World) (hx : LieN w (ndC a (.slice A f.len c)) (a, f)) (hy : LieN w (ndC b (.slice B g.len d)) (b, g)) (hf : f.size ≤ 1000000) (hg : g.size ≤ 1000000) (C : PatC w) (HA : Awake17 w) : Calls Try.prog 6 #[.agg (cN a (.slice A f.len c)), .agg (cN b (.slice B g.len d))] w (Ans9 (.bool true) w) := by
 cases hs : smallX a b f g with
 | true => exact patchOnce_yes a b f g A B c d w hx hy hf hg C HA hs
 | false => exact patchOnce_not a b f g A B c d w hx hy hf hg C HA hs
end
section
open Go.ChangeShapes Go.WideShapes Go.Deep
theorem bulk_one9 {H : Type} (d : DataW H) : 1 ≤ Rows.uptoBulk d := by
 cases d with
 | lit l => cases l <;> simp [Rows.uptoBulk]
 | nil => simp [Rows.uptoBulk]
 | ptr d => simp [Rows.uptoBulk]
 | slice elems spare => simp [Rows.uptoBulk]
 | agg parts => simp [Rows.uptoBulk]
 | iface t d => simp [Rows.uptoBulk]
 | map entries => simp [Rows.uptoBulk]
 | held h => simp [Rows.uptoBulk]
theorem add_bare9 (b o j : Nat) : (⟨b, o, none⟩ : Addr).add j = ⟨b, o + j, none⟩ := by unfold Addr.add; split <;> simp_all
theorem cellsNode : Try.prog.cellsOf 27 = 6 := by kernel_rfl
theorem cellsVal : Try.prog.cellsOf 24 = 3 := by kernel_rfl
theorem cellsStr9 : Try.prog.cellsOf 9 = 1 := by kernel_rfl
theorem cellsInt9 : Try.prog.cellsOf 3 = 1 := by kernel_rfl
theorem cellsU64 : Try.prog.cellsOf 22 = 1 := by kernel_rfl
theorem cellsNds : Try.prog.cellsOf 25 = 1 := by kernel_rfl
theorem node_cells {H : Type} {enc : TypeId × Value → H} {W : World} {n : Nat} {cs : List Value} {x : DataW H × List MemPlace} (h : DataW.trod enc Try.prog W 0 (fun _ => true) true n 27 cs = some x) :
  ∃ (a : NdD) (c5 : Value) (n' : Nat) (y : DataW H × List MemPlace), n = n' + 1 ∧ cs = ndC a c5 ∧ DataW.trod enc Try.prog W 0 (fun _ => true) true n' 25 [c5] = some y ∧ Rows.uptoBulk y.1 + 4 ≤ Rows.uptoBulk x.1 := by
 obtain ⟨ys, k, hk, hy, hlen, hyl, hf⟩ := DataW.trod_struct Try.underlying27 h
 rw [cellsNode] at hlen
 have hyl' : ys.length = 4 := hyl
 match cs, hlen, ys, hyl', hy with
 | [v0, v1, v2, v3, v4, v5], _, [y0, y1, y2, y3], _, hy =>
  have f0 : DataW.trod enc Try.prog W 0 (fun _ => true) true k 9 (List.take (Try.prog.cellsOf 9) (List.drop 0 [v0, v1, v2, v3, v4, v5])) = some _ := (hf 0 _ rfl).trans rfl
  have f1 : DataW.trod enc Try.prog W 0 (fun _ => true) true k 9 (List.take (Try.prog.cellsOf 9) (List.drop 1 [v0, v1, v2, v3, v4, v5])) = some _ := (hf 1 _ rfl).trans rfl
  have f2 : DataW.trod enc Try.prog W 0 (fun _ => true) true k 24 (List.take (Try.prog.cellsOf 24) (List.drop 2 [v0, v1, v2, v3, v4, v5])) = some _ := (hf 2 _ rfl).trans rfl
  have f3 : DataW.trod enc Try.prog W 0 (fun _ => true) true k 25 (List.take (Try.prog.cellsOf 25) (List.drop 5 [v0, v1, v2, v3, v4, v5])) = some _ := (hf 3 _ rfl).trans rfl
  rw [cellsStr9] at f0 f1
  rw [cellsVal] at f2
  rw [cellsNds] at f3
  simp only [List.drop_zero, List.drop_succ_cons, List.take_succ_cons, List.take_zero] at f0 f1 f2 f3
  obtain ⟨s0, e0, _, _⟩ := DataW.trod_string Try.underlying9 f0
  obtain ⟨s1, e1, _, _⟩ := DataW.trod_string Try.underlying9 f1
  obtain ⟨zs, k', hk', hz, _, hzl, hg⟩ := DataW.trod_struct Try.underlying24 f2
  have hzl' : zs.length = 3 := hzl
  match zs, hzl', hz with
  | [z0, z1, z2], _, hz =>
   have g0 : DataW.trod enc Try.prog W 0 (fun _ => true) true k' 3 (List.take (Try.prog.cellsOf 3) (List.drop 0 [v2, v3, v4])) = some _ := (hg 0 _ rfl).trans rfl
   have g1 : DataW.trod enc Try.prog W 0 (fun _ => true) true k' 22 (List.take (Try.prog.cellsOf 22) (List.drop 1 [v2, v3, v4])) = some _ := (hg 1 _ rfl).trans rfl
   have g2 : DataW.trod enc Try.prog W 0 (fun _ => true) true k' 9 (List.take (Try.prog.cellsOf 9) (List.drop 2 [v2, v3, v4])) = some _ := (hg 2 _ rfl).trans rfl
   rw [cellsInt9] at g0
   rw [cellsU64] at g1
   rw [cellsStr9] at g2
   simp only [List.drop_zero, List.drop_succ_cons, List.take_succ_cons, List.take_zero] at g0 g1 g2
   obtain ⟨kd, e2, _, _⟩ := DataW.trod_int Try.underlying3 g0
   obtain ⟨nu, e3, _, hw⟩ := DataW.trod_int Try.underlying22 g1
   obtain ⟨s2, e4, _, _⟩ := DataW.trod_string Try.underlying9 g2
   have hb := bounds_u64 hw
   simp at e0 e1 e2 e3 e4
   subst e0 e1 e2 e3 e4
   refine ⟨⟨s0.data.toList, s1.data.toList, kd, nu.toNat, s2.data.toList⟩, v5, k, y3, hk, ?_, f3, ?_⟩
   ·show _ = [Value.string (txt s0.data.toList), Value.string (txt s1.data.toList), Value.int .i64 kd, Value.int .u64 (nu.toNat : Int), Value.string (txt s2.data.toList), v5]
    rw [show txt s0.data.toList = s0 from txt_ext (txt_data _), show txt s1.data.toList = s1 from txt_ext (txt_data _), show txt s2.data.toList = s2 from txt_ext (txt_data _), Int.toNat_of_nonneg (by omega)]
   ·have hx : x.1 = .agg [y0.1, y1.1, y2.1, y3.1] := congrArg Prod.fst hy
    rw [hx]
    have := bulk_one9 y0.1
    have := bulk_one9 y1.1
    have := bulk_one9 y2.1
    simp only [Rows.uptoBulk, Rows.uptoBulkAll]
    omega
theorem open_nodes {H : Type} {enc : TypeId × Value → H} {W : World} (N : Nat) :
  ∀ {fuel : Nat} {v : Value} {x : DataW H × List MemPlace}, fuel ≤ N → DataW.trod enc Try.prog W 0 (fun _ => true) true fuel 25 [v] = some x → ∃ f, RowT W.heap.size W v f ∧ 2 * f.size ≤ Rows.uptoBulk x.1 := by
 induction N with
 | zero =>
  intro fuel v x hN h
  obtain rfl : fuel = 0 := by omega
  simp [DataW.trod] at h
 | succ N ih =>
  intro fuel v x hN h
  rcases DataW.trod_slice Try.underlying25 h with ⟨hcs, rfl⟩ | ⟨a, len, cap, elems, rest, n, rfl, hcs, rfl, hb, hl, hm, hlen, hel, -, -⟩
  ·simp at hcs
   subst hcs
   exact ⟨.nil, FrV.empty _ _ _, Nat.zero_le _⟩
  ·simp at hcs
   subst hcs
   by_cases h0 : 0 < len
   ·have hcell0 : ∃ u, W.cell? a = some u := by
     have h1 := hel 0 h0
     rw [List.getElem?_eq_getElem (by omega)] at h1
     obtain ⟨cs', h2, _⟩ := Option.bind_eq_some_iff.1 h1
     rw [cellsNode] at h2
     obtain ⟨_, h3, h4⟩ := World.cells?_some h2
     have h5 := h4 0 (by omega)
     rw [List.getElem?_eq_getElem (by omega)] at h5
     exact ⟨_, by simpa [Addr.add] using h5⟩
    obtain ⟨u0, hu0⟩ := hcell0
    have hsp0 : a.spot = none := World.cell?_spot hu0
    have hlt : a.block < W.heap.size := World.block_lt_of_cell? W _ hu0
    obtain ⟨b, off, sp⟩ := a
    have hsp : sp = none := hsp0
    subst hsp
    have rows : ∀ m, m ≤ len → ∃ f : NdF, f.len = m ∧ FrAt NdT 6 5 W (fun g => g < W.heap.size) noB f b (off + (len - m) * 6) ∧ 2 * f.size ≤ Rows.uptoBulkAll ((elems.drop (len - m)).map (·.1)) := by
     intro m
     induction m with
     | zero => intro _; exact ⟨.nil, rfl, trivial, Nat.zero_le _⟩
     | succ m ihm =>
      intro hm'
      obtain ⟨r, hr1, hr2, hr3⟩ := ihm (by omega)
      obtain ⟨i, hi⟩ : ∃ i, i = len - (m + 1) := ⟨_, rfl⟩
      have hi1 : len - m = i + 1 := by omega
      have hil : i < len := by omega
      rw [hi1] at hr2 hr3
      rw [← hi]
      have h1 := hel i hil
      have hie : i < elems.length := by omega
      rw [List.getElem?_eq_getElem hie] at h1
      obtain ⟨cs', h2, h3⟩ := Option.bind_eq_some_iff.1 h1
      rw [cellsNode] at h2
      obtain ⟨_, hcl, hat⟩ := World.cells?_some h2
      have hcc : ∀ j, j < 6 → W.cell? ⟨b, off + i * 6 + j, none⟩ = cs'[j]? := fun j hj => by
       have h5 := hat j hj
       rw [add_bare9, add_bare9] at h5
       exact h5
      obtain ⟨nd, c5, n', y, hn', rfl, hy, hyb⟩ := node_cells h3
      obtain ⟨k, hk1, hk2⟩ := ih (by omega) hy
      have hdrop : (elems.drop i).map (·.1) = (elems[i]).1 :: (elems.drop (i + 1)).map (·.1) := by rw [List.drop_eq_getElem_cons hie]; rfl
      obtain ⟨A, c, rfl⟩ := FrV.shape hk1
      obtain ⟨A', c', e, hkc, hkr⟩ := hk1
      injection e with e1 e2 e3
      subst e1 e3
      refine ⟨.cons nd k r, by simp only [Fr.len, hr1], ⟨⟨ndC nd (.slice A k.len c), rfl, fun j u hu => ?_, ⟨_, rfl, rfl⟩, A, c, rfl, hkc, hkr⟩, ?_⟩, ?_⟩
      ·have hj : j < 6 := (List.getElem?_eq_some_iff.1 hu).1
       rw [hcc j hj, hu]
      ·have h9 : off + i * 6 + 6 = off + (i + 1) * 6 := by omega
       rw [h9]; exact hr2
      ·rw [hdrop]
       simp only [Fr.size, Rows.uptoBulkAll]
       omega
    obtain ⟨f, hf1, hf2, hf3⟩ := rows len (Nat.le_refl _)
    rw [Nat.sub_self, Nat.zero_mul, Nat.add_zero] at hf2
    rw [Nat.sub_self, List.drop_zero] at hf3
    refine ⟨f, ⟨_, cap, by rw [hf1], by omega, fun _ => ⟨b, off, rfl, hlt, hf2⟩⟩, ?_⟩
    simp only [Rows.uptoBulk]
    omega
   ·obtain rfl : len = 0 := by omega
    exact ⟨.nil, FrV.none_ _ _, Nat.zero_le _⟩
theorem open_node {H : Type} {enc : TypeId × Value → H} {W : World} {v : Value} {d : DataW H} {p : List MemPlace} (h : DataW.Trod enc Try.prog W 0 (fun _ => true) true 27 v d p) (hv : ∃ cs : Array Value, v = .agg cs) :
  ∃ (a : NdD) (f : NdF) (A : Option Addr) (c : Nat), v = .agg (ndC a (.slice A f.len c)).toArray ∧ LieN W (ndC a (.slice A f.len c)) (a, f) ∧ 2 * f.size ≤ Rows.uptoBulk d := by
 obtain ⟨fuel, hf⟩ := h
 obtain ⟨cs, rfl⟩ := hv
 have hf' : DataW.trod enc Try.prog W 0 (fun _ => true) true fuel 27 cs.toList = some (d, p) := hf
 obtain ⟨a, c5, n', y, _, he, hy, hb⟩ := node_cells hf'
 obtain ⟨f, h1, h2⟩ := open_nodes n' (Nat.le_refl _) hy
 obtain ⟨A, c, rfl⟩ := FrV.shape h1
 refine ⟨a, f, A, c, ?_, LieB.make h1, by simp only at hb; omega⟩
 rw [← he]
theorem cellsStep : Try.prog.cellsOf 47 = 2 := by kernel_rfl
theorem open_way {H : Type} {enc : TypeId × Value → H} {W : World} {fuel : Nat} {v : Value} {x : DataW H × List MemPlace} (h : DataW.trod enc Try.prog W 0 (fun _ => true) true fuel 35 [v] = some x) : ∃ l, WayV W.heap.size W v l ∧ l.length ≤ Rows.uptoBulk x.1 := by
 rcases DataW.trod_slice Try.underlying35 h with ⟨hcs, rfl⟩ | ⟨a, len, cap, elems, rest, n, rfl, hcs, rfl, hb, hl, hm, hlen, hel, -, -⟩
 ·simp at hcs
  subst hcs
  exact ⟨[], WayV.nil _ _ _ _, Nat.zero_le _⟩
 ·simp at hcs
  subst hcs
  have hbl : len ≤ Rows.uptoBulkAll (elems.map (·.1)) := by
   have hl2 : ∀ l : List (DataW H), l.length ≤ Rows.uptoBulkAll l := by
    intro l
    induction l with
    | nil => simp [Rows.uptoBulkAll]
    | cons x r ih => have := bulk_one9 x; simp only [Rows.uptoBulkAll, List.length_cons]; omega
   have := hl2 (elems.map (·.1))
   simp at this
   omega
  by_cases h0 : 0 < len
  ·have hcell0 : ∃ u, W.cell? a = some u := by
    have h1 := hel 0 h0
    rw [List.getElem?_eq_getElem (by omega)] at h1
    obtain ⟨cs', h2, _⟩ := Option.bind_eq_some_iff.1 h1
    rw [cellsStep] at h2
    obtain ⟨_, h3, h4⟩ := World.cells?_some h2
    have h5 := h4 0 (by omega)
    rw [List.getElem?_eq_getElem (by omega)] at h5
    exact ⟨_, by simpa [Addr.add] using h5⟩
   obtain ⟨u0, hu0⟩ := hcell0
   have hsp0 : a.spot = none := World.cell?_spot hu0
   have hlt : a.block < W.heap.size := World.block_lt_of_cell? W _ hu0
   obtain ⟨b, off, sp⟩ := a
   have hsp : sp = none := hsp0
   subst hsp
   have rows : ∀ m, m ≤ len → ∃ l : List Stp, l.length = m ∧ ∀ j s, l[j]? = some s → W.cell? ⟨b, off + (len - m + j) * 2, none⟩ = some (.string (txt s.1)) ∧ W.cell? ⟨b, off + (len - m + j) * 2 + 1, none⟩ = some (.string (txt s.2)) := by
    intro m
    induction m with
    | zero => intro _; exact ⟨[], rfl, fun j s h => by simp at h⟩
    | succ m ihm =>
     intro hm'
     obtain ⟨r, hr1, hr2⟩ := ihm (by omega)
     obtain ⟨i, hi⟩ : ∃ i, i = len - (m + 1) := ⟨_, rfl⟩
     have hi1 : len - m = i + 1 := by omega
     have hil : i < len := by omega
     rw [hi1] at hr2
     rw [← hi]
     have h1 := hel i hil
     have hie : i < elems.length := by omega
     rw [List.getElem?_eq_getElem hie] at h1
     obtain ⟨cs', h2, h3⟩ := Option.bind_eq_some_iff.1 h1
     rw [cellsStep] at h2
     obtain ⟨_, hcl, hat⟩ := World.cells?_some h2
     have hcc : ∀ j, j < 2 → W.cell? ⟨b, off + i * 2 + j, none⟩ = cs'[j]? := fun j hj => by
      have h5 := hat j hj
      rw [add_bare9, add_bare9] at h5
      exact h5
     obtain ⟨ys, k, hk, hy, hlen', hyl, hf⟩ := DataW.trod_struct Try.underlying47 h3
     have hyl' : ys.length = 2 := hyl
     match cs', hcl, ys, hyl' with
     | [v0, v1], _, [y0, y1], _ =>
      have f0 : DataW.trod enc Try.prog W 0 (fun _ => true) true k 9 (List.take (Try.prog.cellsOf 9) (List.drop 0 [v0, v1])) = some _ := (hf 0 _ rfl).trans rfl
      have f1 : DataW.trod enc Try.prog W 0 (fun _ => true) true k 9 (List.take (Try.prog.cellsOf 9) (List.drop 1 [v0, v1])) = some _ := (hf 1 _ rfl).trans rfl
      rw [cellsStr9] at f0 f1
      simp only [List.drop_zero, List.drop_succ_cons, List.take_succ_cons, List.take_zero] at f0 f1
      obtain ⟨s0, e0, _, _⟩ := DataW.trod_string Try.underlying9 f0
      obtain ⟨s1, e1, _, _⟩ := DataW.trod_string Try.underlying9 f1
      simp at e0 e1
      subst e0 e1
      refine ⟨(s0.data.toList, s1.data.toList) :: r, by simp [hr1], fun j s hj => ?_⟩
      cases j with
      | zero =>
       simp at hj
       subst hj
       have g0 := hcc 0 (by omega)
       have g1 := hcc 1 (by omega)
       simp only [Nat.add_zero, List.getElem?_cons_zero, List.getElem?_cons_succ] at g0 g1
       refine ⟨?_, ?_⟩
       ·rw [show i + 0 = i from rfl, g0, show txt s0.data.toList = s0 from txt_ext (txt_data _)]
       ·rw [show i + 0 = i from rfl, g1, show txt s1.data.toList = s1 from txt_ext (txt_data _)]
      | succ j =>
       have h9 := hr2 j s (by simpa using hj)
       rw [show i + 1 + j = i + (j + 1) by omega] at h9
       exact h9
   obtain ⟨l, hl1, hl2⟩ := rows len (Nat.le_refl _)
   rw [Nat.sub_self] at hl2
   subst hl1
   refine ⟨l, ⟨_, cap, rfl, by omega, fun _ => ⟨b, off, rfl, hlt, fun j s hs => ?_⟩⟩, ?_⟩
   ·have h9 := hl2 j s hs
    rw [Nat.zero_add] at h9
    exact h9
   ·simp only [Rows.uptoBulk]
    omega
  ·obtain rfl : len = 0 := by omega
   exact ⟨[], WayV.nil _ _ _ _, Nat.zero_le _⟩
end
end Go.Proofs.Ythmobcaidhgeaaa
