/- Law17B PatOnc -/
import Derived.Test.YthmobcaidhgeaaaAM9
set_option linter.unusedSimpArgs false
set_option linter.unusedVariables false
set_option maxRecDepth 100000
set_option maxHeartbeats 8000000
namespace Go.Proofs.Ythmobcaidhgeaaa
open Go.RowKit
section
attribute [local go_sem] Oper.semAt_some
theorem patchMakes_not (a b : NdD) (f g : NdF) (A B : Option Addr) (c d : Nat) (w : World) (hx : LieN w (ndC a (.slice A f.len c)) (a, f)) (hy : LieN w (ndC b (.slice B g.len d)) (b, g)) (hf : f.size ≤ 1000000) (hg : g.size ≤ 1000000) (C : PatC w) (HA : Awake17 w) (hs : smallX a b f g = false) : Calls Try.prog 4 #[.agg (cN a (.slice A f.len c)), .agg (cN b (.slice B g.len d))] w (Ans9 (.bool true) w) := by
 have hb2 : Blk ((w.alloc (.cells (cN a (.slice A f.len c)) 27)).alloc (.cells (cN b (.slice B g.len d)) 27)) (w.heap.size + 1) 27 (cN b (.slice B g.len d)) := by
  have h := Blk.new (w.alloc (.cells (cN a (.slice A f.len c)) 27)) 27 (cN b (.slice B g.len d))
  rwa [show (w.alloc (.cells (cN a (.slice A f.len c)) 27)).heap.size = w.heap.size + 1 by simp] at h
 have hb1 : Blk ((w.alloc (.cells (cN a (.slice A f.len c)) 27)).alloc (.cells (cN b (.slice B g.len d)) 27)) w.heap.size 27 (cN a (.slice A f.len c)) := (Blk.new w 27 (cN a (.slice A f.len c))).alloc (.cells (cN b (.slice B g.len d)) 27)
 have hbw : Below w.heap.size w ((w.alloc (.cells (cN a (.slice A f.len c)) 27)).alloc (.cells (cN b (.slice B g.len d)) 27)) := bAl.alloc (by simp) _
 have hc1 : ∀ W, Below w.heap.size w W → Hid (Calls Try.prog 8 #[.agg (cN a (.slice A f.len c)), .agg (cN b (.slice B g.len d))] W (Ans9 (.bool (smallX a b f g)) W)) := fun W h => hHd (small17_any a b f g A B c d W (hx.below h) (hy.below h) (by omega) (by omega))
 have HX := hHd hb1
 have HY := hHd hb2
 have HB := hHd hbw
 have HAW := hHd (HA _ hbw)
 rw [hs] at hc1
 have C1 := hHd hc1
 clear hx hy hf hg hc1 hb1 hb2 hbw HA C hs
 go_enter Try.func4, Try.ntmps4
 go_wp2_with fail
 refine HAW.out.mono ?_
 rintro r w1 ⟨rfl, hb⟩
 have HX1 := hHd (HX.out.below hb HX.out.lt)
 have HY1 := hHd (HY.out.below hb HY.out.lt)
 have HB1 := hHd (HB.out.trans (hb.mono HB.out.size))
 clear hb
 obtain ⟨q0, q1, q2, q3, q4, q5⟩ := cl6 HX1.out
 obtain ⟨x0, x1, x2, x3, x4, x5⟩ := cl6 HY1.out
 go_wp2_with fail
 refine (C1.out _ HB1.out).out.mono ?_
 rintro r w2 ⟨rfl, hb⟩
 have HX2 := hHd (HX1.out.below hb HX1.out.lt)
 have HY2 := hHd (HY1.out.below hb HY1.out.lt)
 have HB2 := hHd (HB1.out.trans (hb.mono HB1.out.size))
 clear hb
 obtain ⟨q0, q1, q2, q3, q4, q5⟩ := cl6 HX2.out
 obtain ⟨x0, x1, x2, x3, x4, x5⟩ := cl6 HY2.out
 go_wp2
 go_ret
 exact ⟨rfl, HB2.out⟩
def set5 (w : World) (b : Nat) (x0 x1 x2 x3 x4 : Value) : World := ((((w.setCell ⟨b, 0, none⟩ x0).setCell ⟨b, 1, none⟩ x1).setCell ⟨b, 2, none⟩ x2).setCell ⟨b, 3, none⟩ x3).setCell ⟨b, 4, none⟩ x4
theorem Blk.set5 {w : World} {b : Nat} {t : TypeId} {y0 y1 y2 y3 y4 y5 : Value} (h : Blk w b t #[y0, y1, y2, y3, y4, y5]) (x0 x1 x2 x3 x4 : Value) : Blk (set5 w b x0 x1 x2 x3 x4) b t #[x0, x1, x2, x3, x4, y5] := by
 have h2 := (((((h).set_ 0 x0).set_ 1 x1).set_ 2 x2).set_ 3 x3).set_ 4 x4
 simp only [layS] at h2
 exact h2
theorem set5_below {B : Nat} {w : World} {b : Nat} {x0 x1 x2 x3 x4 : Value} (h : B ≤ b) : Below B w (set5 w b x0 x1 x2 x3 x4) :=
 (((((Below.refl B w).setCell (p := ⟨b, 0, none⟩) h x0).setCell (p := ⟨b, 1, none⟩) h x1).setCell (p := ⟨b, 2, none⟩) h x2).setCell (p := ⟨b, 3, none⟩) h x3).setCell (p := ⟨b, 4, none⟩) h x4
theorem set5_other {w : World} {b g : Nat} {x0 x1 x2 x3 x4 : Value} (h : g ≠ b) : (set5 w b x0 x1 x2 x3 x4).heap[g]? = w.heap[g]? := by
 unfold set5
 rw [Below.heap_setCell _ _ _ _ h, Below.heap_setCell _ _ _ _ h, Below.heap_setCell _ _ _ _ h, Below.heap_setCell _ _ _ _ h, Below.heap_setCell _ _ _ _ h]
theorem rgt_noN : rgtX noN = true := by decide
theorem rgt_inv {l : List EdD} (h : ∀ e ∈ l, rgtX e.node = true ∧ rgtX e.old = true) : ∀ e ∈ invX l, rgtX e.node = true := by
 intro e he
 unfold invX at he
 obtain ⟨x, hx, hi⟩ := List.mem_filterMap.1 he
 obtain ⟨h1, h2⟩ := h x (by simpa using hx)
 unfold inv1 at hi
 split at hi
 ·injection hi with hi; subst hi; exact rgt_noN
 ·split at hi
  ·injection hi with hi; subst hi; exact h2
  ·split at hi
   ·injection hi with hi; subst hi; exact h2
   ·cases hi
theorem rgt_kind0 {a b : NdD} {f g : NdF} (h : rgtX (a, f) = true) (h2 : rgtX (b, g) = true) (ha : a.kind = 0) (hb : b.kind = 0) : rgtX (a, g) = true ∧ rgtF g = true ∧ rgtF f = true := by
 have h3 := (right_kind0 h ha)
 have h4 := (right_kind0 h2 hb)
 refine ⟨?_, h4.2.2, h3.2.2⟩
 unfold rgtX at h h2 ⊢
 simp only [ha, hb] at h h2 ⊢
 simp_all
def LieX (W : World) (bz : Nat) (cs : List Value) (x : Nd) : Prop := FrN NdT 6 5 W (fun g => g < W.heap.size ∧ g ≠ bz) noB cs x.1 x.2
theorem LieP.avoid {D Bs bz : Nat} {W : World} {cs : List Value} {x : Nd} (h : LieP D Bs W cs x) (h1 : D ≤ bz) (h2 : bz < Bs) (h3 : D ≤ W.heap.size) : LieX W bz cs x :=
 FrN.mono stay_nd h (fun g hg => by rcases hg with hg | hg <;> exact ⟨by omega, by omega⟩) (fun _ h => h)
theorem LieN.avoid {W : World} {cs : List Value} {x : Nd} (h : LieN W cs x) (o : Obj) : LieX (W.alloc o) W.heap.size cs x :=
 FrN.kept stay_nd h (fun g hg => Below.heap_alloc W o g hg) (fun g hg => ⟨by simp; exact Nat.lt_succ_of_lt hg, Nat.ne_of_lt hg⟩) (fun _ h => h.elim) (fun _ h => h)
theorem LieX.set6 {W : World} {bz : Nat} {cs : List Value} {x : Nd} (h : LieX W bz cs x) (x0 x1 x2 x3 x4 x5 : Value) : LieN (set6 W bz x0 x1 x2 x3 x4 x5) cs x :=
 FrN.kept stay_nd h (fun g hg => set6_other hg.2) (fun g hg => by show g < _; rw [set6_size]; exact hg.1) (fun _ h => h.elim) (fun _ h => h)
def Mk9 (w : World) (m8 bz : Nat) (a : NdD) (f g : NdF) (A B A4 A9 : Option Addr) (c d c4 c9 : Nat) (W : World) : Prop :=
 Below w.heap.size w W ∧ Blk W w.heap.size 27 (cN a (.slice A f.len c)) ∧ Blk W (w.heap.size + 1) 27 (cN a (.slice B g.len d)) ∧ Blk W m8 27 (cN a (.slice A4 g.len c4)) ∧ LieN W (ndC a (.slice A4 g.len c4)) (a, g) ∧ Blk W bz 27 (cN a (.slice A9 f.len c9)) ∧ LieN W (ndC a (.slice A9 f.len c9)) (a, f)
theorem mk9_of {w W : World} {m8 bz : Nat} {a : NdD} {f g : NdF} {A B A4 A9 : Option Addr} {c d c4 c9 : Nat} (h1 : Below w.heap.size w W) (h2 : Blk W w.heap.size 27 (cN a (.slice A f.len c))) (h3 : Blk W (w.heap.size + 1) 27 (cN a (.slice B g.len d))) (h4 : Blk W m8 27 (cN a (.slice A4 g.len c4))) (h5 : LieB m8 W (ndC a (.slice A4 g.len c4)) (a, g)) (h6 : Blk W bz 27 #[.string ⟨#[]⟩, .string ⟨#[]⟩, .int .i64 0, .int .u64 0, .string ⟨#[]⟩, .slice none 0 0]) (h7 : LieX W bz (ndC a (.slice A9 f.len c9)) (a, f)) (hm : m8 < bz) (hw : w.heap.size + 1 < m8) :
  Mk9 w m8 bz a f g A B A4 A9 c d c4 c9 (set6 W bz (.string (txt a.name)) (.string (txt a.key)) (.int .i64 a.kind) (.int .u64 (a.num : Int)) (.string (txt a.text)) (.slice A9 f.len c9)) :=
 ⟨h1.trans (set6_below (by omega)), (set6_other (by omega)).trans h2, (set6_other (by omega)).trans h3, (set6_other (by omega)).trans h4,
  h5.keep (fun k hk => set6_other (by omega)) (by rw [set6_size]; exact Nat.le_of_lt h4.lt), h6.set6 _ _ _ _ _ _, h7.set6 _ _ _ _ _ _⟩
theorem mk9_al {w W : World} {m8 : Nat} {a : NdD} {f g : NdF} {A B A4 A9 : Option Addr} {c d c4 c9 : Nat} (h1 : Below w.heap.size w W) (h2 : Blk W w.heap.size 27 (cN a (.slice A f.len c))) (h3 : Blk W (w.heap.size + 1) 27 (cN a (.slice B g.len d))) (h4 : Blk W m8 27 (cN a (.slice A4 g.len c4))) (h5 : LieB m8 W (ndC a (.slice A4 g.len c4)) (a, g)) (h7 : LieN W (ndC a (.slice A9 f.len c9)) (a, f)) :
  Mk9 w m8 W.heap.size a f g A B A4 A9 c d c4 c9 (W.alloc (.cells (cN a (.slice A9 f.len c9)) 27)) :=
 have hb : Below W.heap.size W (W.alloc (.cells (cN a (.slice A9 f.len c9)) 27)) := bAl
 ⟨h1.trans (hb.mono h1.size), h2.alloc _, h3.alloc _, h4.alloc _, h5.under hb (Nat.le_of_lt h4.lt) (Nat.le_trans (Nat.le_of_lt h4.lt) hb.size), Blk.new _ _ _, h7.below hb⟩
theorem blk_at17 {w : World} {g : Nat} (h : w.heap.size = g) (t : TypeId) (cs : Array Value) : Blk (w.alloc (.cells cs t)) g t cs := by subst h; exact Blk.new w t cs
inductive Veil17 (P : Prop) : Prop
 | mk (h : P)
theorem Veil17.out {P : Prop} (h : Veil17 P) : P := by cases h; assumption
theorem patchMakes_yes (a b : NdD) (f g : NdF) (A B : Option Addr) (c d : Nat) (w : World) (hx : LieN w (ndC a (.slice A f.len c)) (a, f)) (hy : LieN w (ndC b (.slice B g.len d)) (b, g)) (hf : f.size ≤ 1000000) (hg : g.size ≤ 1000000) (C : PatC w) (HA : Awake17 w) (hs : smallX a b f g = true) : Calls Try.prog 4 #[.agg (cN a (.slice A f.len c)), .agg (cN b (.slice B g.len d))] w (Ans9 (.bool true) w) := by
 have hb2 : Blk ((w.alloc (.cells (cN a (.slice A f.len c)) 27)).alloc (.cells (cN b (.slice B g.len d)) 27)) (w.heap.size + 1) 27 (cN b (.slice B g.len d)) := by
  have h := Blk.new (w.alloc (.cells (cN a (.slice A f.len c)) 27)) 27 (cN b (.slice B g.len d))
  rwa [show (w.alloc (.cells (cN a (.slice A f.len c)) 27)).heap.size = w.heap.size + 1 by simp] at h
 have hb1 : Blk ((w.alloc (.cells (cN a (.slice A f.len c)) 27)).alloc (.cells (cN b (.slice B g.len d)) 27)) w.heap.size 27 (cN a (.slice A f.len c)) := (Blk.new w 27 (cN a (.slice A f.len c))).alloc (.cells (cN b (.slice B g.len d)) 27)
 have hbw : Below w.heap.size w ((w.alloc (.cells (cN a (.slice A f.len c)) 27)).alloc (.cells (cN b (.slice B g.len d)) 27)) := bAl.alloc (by simp) _
 have hc1 : ∀ W, Below w.heap.size w W → Hid (Calls Try.prog 8 #[.agg (cN a (.slice A f.len c)), .agg (cN b (.slice B g.len d))] W (Ans9 (.bool (smallX a b f g)) W)) := fun W h => hHd (small17_any a b f g A B c d W (hx.below h) (hy.below h) (by omega) (by omega))
 have HX := hHd hb1
 have HY := hHd hb2
 have HB := hHd hbw
 have HAW := hHd (HA _ hbw)
 rw [hs] at hc1
 obtain ⟨⟨⟨⟨⟨s1, s2⟩, s3⟩, s4⟩, s5⟩, s6⟩ : ((((f.size + 1 ≤ 300 ∧ g.size + 1 ≤ 300) ∧ a.kind = 0) ∧ b.kind = 0) ∧ rgtX (a, f) = true) ∧ rgtX (b, g) = true := by simpa [smallX] using hs
 obtain ⟨r1, r2, r3⟩ := rgt_kind0 s5 s6 s3 s4
 obtain ⟨t1, t2⟩ := ed_there s3 s5 r2
 have hrn := ed_rgt f g [] r3 r2
 obtain ⟨n1, n2⟩ := few_ed s1 s2
 obtain ⟨l, hl⟩ : ∃ l, l = edF f g [] := ⟨_, rfl⟩
 rw [← hl] at t1 t2 hrn n1 n2
 have RU1 : Hid (runXE (a, f) l 0 = ((a, g), 0, 0)) := hHd (t1 0)
 have RU2 : Hid (runXE (a, g) (invX l) 0 = ((a, f), 0, 0)) := hHd (t2 0)
 have FW1 : Hid (FewR (a, f) l) := hHd ⟨by simp only; omega, by omega, n2⟩
 have FW2 : Hid (FewR (a, g) (invX l)) := hHd ⟨by simp only; omega, by have := inv_len l; omega, few_inv n2⟩
 have RG1 : Hid (rgtX (a, f) = true ∧ ∀ e ∈ l, rgtX e.node = true) := hHd ⟨s5, fun e he => (hrn e he).1⟩
 have RG2 : Hid (rgtX (a, g) = true ∧ ∀ e ∈ invX l, rgtX e.node = true) := hHd ⟨r1, rgt_inv hrn⟩
 have LL : Hid (l.length ≤ 1000000) := hHd (by omega)
 have CE : ∀ W, Below w.heap.size w W → Hid (Calls Try.prog 15 #[.agg (cN a (.slice A f.len c)), .agg (cN a (.slice B g.len d))] W (InvP l W)) := fun W h => hHd (by rw [hl]; exact rEdits16_any a a f g A B c d W (hx.below h) (LieB.below (LieB.make (RowS.bel hy)) h) (by omega))
 have S1 : ∀ W cs, LieN W cs (a, g) → Below w.heap.size w W → Hid (Calls Try.prog 12 #[.agg cs.toArray, .agg (cN a (.slice B g.len d))] W (Ans9 (.bool true) W)) := fun W cs hc hW => hHd (by
  have h := rsamet_any (a, g) (a, g) cs _ W hc (LieB.below (LieB.make (a := a) (RowS.bel hy)) hW) hg hg
  rw [decide_eq_true rfl] at h
  exact h)
 have S2 : ∀ W cs, LieN W cs (a, f) → Below w.heap.size w W → Hid (Calls Try.prog 12 #[.agg cs.toArray, .agg (cN a (.slice A f.len c))] W (Ans9 (.bool true) W)) := fun W cs hc hW => hHd (by
  have h := rsamet_any (a, f) (a, f) cs _ W hc (hx.below hW) hf hf
  rw [decide_eq_true rfl] at h
  exact h)
 have HC := hHd C
 have HXL := hHd hx
 have C1 := hHd hc1
 clear hx hy hf hg hc1 hb1 hb2 hbw HA C hs s1 s2 s3 s4 s5 s6 r1 r2 r3 t1 t2 hrn n1 n2 hl
 go_enter Try.func4, Try.ntmps4
 go_wp2_with fail
 refine HAW.out.mono ?_
 rintro r w1 ⟨rfl, hb⟩
 have HX1 := hHd (HX.out.below hb HX.out.lt)
 have HY1 := hHd (HY.out.below hb HY.out.lt)
 have HB1 := hHd (HB.out.trans (hb.mono HB.out.size))
 clear hb
 obtain ⟨q0, q1, q2, q3, q4, q5⟩ := cl6 HX1.out
 obtain ⟨x0, x1, x2, x3, x4, x5⟩ := cl6 HY1.out
 go_wp2_with fail
 refine (C1.out _ HB1.out).out.mono ?_
 rintro r w2 ⟨rfl, hb⟩
 have HX2 := hHd (HX1.out.below hb HX1.out.lt)
 have HY2 := hHd (HY1.out.below hb HY1.out.lt)
 have HB2 := hHd (HB1.out.trans (hb.mono HB1.out.size))
 clear hb
 obtain ⟨q0, q1, q2, q3, q4, q5⟩ := cl6 HX2.out
 obtain ⟨x0, x1, x2, x3, x4, x5⟩ := cl6 HY2.out
 have V3 : Veil17 (Below w.heap.size w (set5 w2 (w.heap.size + 1) (.string (txt a.name)) (.string (txt a.key)) (.int .i64 a.kind) (.int .u64 (a.num : Int)) (.string (txt a.text))) ∧ Blk (set5 w2 (w.heap.size + 1) (.string (txt a.name)) (.string (txt a.key)) (.int .i64 a.kind) (.int .u64 (a.num : Int)) (.string (txt a.text))) w.heap.size 27 (cN a (.slice A f.len c)) ∧ Blk (set5 w2 (w.heap.size + 1) (.string (txt a.name)) (.string (txt a.key)) (.int .i64 a.kind) (.int .u64 (a.num : Int)) (.string (txt a.text))) (w.heap.size + 1) 27 (cN a (.slice B g.len d))) :=
  .mk ⟨HB2.out.trans (set5_below (Nat.le_succ _)), (set5_other (by omega)).trans HX2.out, HY2.out.set5 _ _ _ _ _⟩
 have f0 : w2.frozen? ⟨w.heap.size + 1, 0, none⟩ = false := HY2.out.frozen 0
 have f1 : w2.frozen? ⟨w.heap.size + 1, 1, none⟩ = false := HY2.out.frozen 1
 have f2 : w2.frozen? ⟨w.heap.size + 1, 2, none⟩ = false := HY2.out.frozen 2
 have f3 : w2.frozen? ⟨w.heap.size + 1, 3, none⟩ = false := HY2.out.frozen 3
 have f4 : w2.frozen? ⟨w.heap.size + 1, 4, none⟩ = false := HY2.out.frozen 4
 go_upto_region 9 with (fail)
 go_cut [] (fun wx => Hid (Below w.heap.size w wx ∧ Blk wx w.heap.size 27 (cN a (.slice A f.len c)) ∧ Blk wx (w.heap.size + 1) 27 (cN a (.slice B g.len d))))
 case first =>
  go_wp2_with fail
  go_meet
  exact hHd V3.out
 case rest =>
  obtain ⟨w3, hw3⟩ : ∃ w3, w3 = wc := ⟨_, rfl⟩
  subst hw3
  have Q3 := hcut
  clear hcut f0 f1 f2 f3 f4 V3 q0 q1 q2 q3 q4 q5 x0 x1 x2 x3 x4 x5
  obtain ⟨q0, q1, q2, q3, q4, q5⟩ := cl6 Q3.out.2.1
  obtain ⟨x0, x1, x2, x3, x4, x5⟩ := cl6 Q3.out.2.2
  go_wp2_with fail
  refine (CE _ Q3.out.1).out.mono ?_
  rintro r w5 ⟨v, rfl, hv, hb⟩
  obtain ⟨Av, cv, rfl⟩ := hv.shape
  have HV5 := hHd hv
  have HX5 := hHd (Q3.out.2.1.below hb Q3.out.2.1.lt)
  have HY5 := hHd (Q3.out.2.2.below hb Q3.out.2.2.lt)
  have HB5 := hHd (Q3.out.1.trans (hb.mono Q3.out.1.size))
  have HZ5 : Hid (w.heap.size + 1 < w5.heap.size) := hHd HY5.out.lt
  clear hv hb q0 q1 q2 q3 q4 q5 x0 x1 x2 x3 x4 x5
  obtain ⟨q0, q1, q2, q3, q4, q5⟩ := cl6 HX5.out
  go_upto_region 12 with (fail)
  refine (HC.out.apply w.heap.size (a, f) l _ _ w5 HB5.out.size (HXL.out.under HB5.out (Nat.le_refl _) (Nat.le_refl _)) HV5.out FW1.out RG1.out.1 RG1.out.2 HB5.out).mono ?_
  intro r w4 hr
  obtain ⟨A4, c4, rfl, hl4, hb⟩ := hr.flat RU1.out
  have hbm : Below w4.heap.size w4 (w4.alloc (.cells (cN a (.slice A4 g.len c4)) 27)).drew := bAl.drew
  have hb45 : Below w5.heap.size w5 (w4.alloc (.cells (cN a (.slice A4 g.len c4)) 27)).drew := hb.trans (hbm.mono hb.size)
  have HXM : Hid (Blk (w4.alloc (.cells (cN a (.slice A4 g.len c4)) 27)).drew w.heap.size 27 (cN a (.slice A f.len c))) := hHd (HX5.out.below hb45 HX5.out.lt)
  have HYM : Hid (Blk (w4.alloc (.cells (cN a (.slice A4 g.len c4)) 27)).drew (w.heap.size + 1) 27 (cN a (.slice B g.len d))) := hHd (HY5.out.below hb45 HY5.out.lt)
  have HMM : Hid (Blk (w4.alloc (.cells (cN a (.slice A4 g.len c4)) 27)).drew w4.heap.size 27 (cN a (.slice A4 g.len c4))) := hHd (by have h := Blk.new w4 27 (cN a (.slice A4 g.len c4)); exact h.below (Below.refl _ _).drew h.lt)
  have LMM : Hid (LieB w4.heap.size (w4.alloc (.cells (cN a (.slice A4 g.len c4)) 27)).drew (ndC a (.slice A4 g.len c4)) (a, g)) := hHd ((hl4.lies (Nat.le_trans HB5.out.size hb.size)).under hbm (Nat.le_refl _) (Nat.le_refl _))
  have HVM : Hid (EdsV (Bel (w4.alloc (.cells (cN a (.slice A4 g.len c4)) 27)).drew) (w4.alloc (.cells (cN a (.slice A4 g.len c4)) 27)).drew (.slice Av l.length cv) l) := hHd (HV5.out.below hb45)
  have HWM : Hid (Below w.heap.size w (w4.alloc (.cells (cN a (.slice A4 g.len c4)) 27)).drew) := hHd (HB5.out.trans (hb45.mono HB5.out.size))
  have HZ4 : Hid (w.heap.size + 1 < w4.heap.size) := hHd (Nat.lt_of_lt_of_le HZ5.out hb.size)
  clear hr hl4 hb hbm hb45 q0 q1 q2 q3 q4 q5
  go_wp2_with fail
  go_cut [11, 12, 13] (fun t11 t12 t13 wx => ∃ (bz : Nat) (A9 : Option Addr) (c9 : Nat), t11 = .pointer (some ⟨bz, 0, none⟩) ∧ t12 = .int .i64 0 ∧ t13 = .int .i64 0 ∧ Hid (Mk9 w w4.heap.size bz a f g A B A4 A9 c d c4 c9 wx))
  case first =>
   generalize (w4.alloc (.cells (cN a (.slice A4 g.len c4)) 27)) = wm at HXM HYM HMM LMM HVM HWM ⊢
   refine wp_region_noPanic ?_
   refine wp_region_held_drew (S := fun _ => True) (by kernel_rfl) trivial (fun hS => ?_)
   refine held_more (S' := fun w' => Blk w' w4.heap.size 27 (cN a (.slice A4 g.len c4))) (fun _ _ => trivial) _ _ _ _ ?_
   replace hS := HMM.out
   refine tkH 0 hS ?_ (hy := fun w hSw => by obtain ⟨q0, q1, q2, q3, q4, q5⟩ := cl6 hSw; (go_simp <;> with_reducible rfl))
   refine tkH 1 hS ?_
   refine rdy [2, 8] (rdC (fun K hK => ?str_0) (rdC (fun K hK => ?str_1) .nil))
   case' str_0 =>
    go_simp
    refine (rinv16_any l _ _ HVM.out LL.out).mono ?_
    rintro r w15 ⟨v15, rfl, hv15, hb⟩
    obtain ⟨Ai, ci, rfl⟩ := hv15.shape
    have HVI := hHd hv15
    have HXM := hHd (HXM.out.below hb HXM.out.lt)
    have HYM := hHd (HYM.out.below hb HYM.out.lt)
    have LMM := hHd (LMM.out.under hb (Nat.le_of_lt HMM.out.lt) (Nat.le_refl _))
    have HMM := hHd (HMM.out.below hb HMM.out.lt)
    have HWM := hHd (HWM.out.trans (hb.mono HWM.out.size))
    clear hb hv15 HVM
    go_wp2_with fail
    refine hK.out _ _ ?sr_0 (fun hS => ?_)
    case sr_0 => (exact HMM.out)
    clear hK K
    (try simp only [Act.put, layS])
    refine rdy [3, 8] (rdC (fun K hK => ?str_2) (rdC (fun K hK => ?str_3) .nil))
    case' str_2 =>
     go_simp
     refine (HC.out.apply w4.heap.size (a, g) (invX l) _ _ _ (Nat.le_of_lt HMM.out.lt) LMM.out HVI.out FW2.out RG2.out.1 RG2.out.2 HWM.out).mono ?_
     intro r w16 hr
     obtain ⟨A9, c9, rfl, hl9, hb⟩ := hr.flat RU2.out
     have HL9 := hHd hl9
     have HLS : Hid (w4.heap.size ≤ w16.heap.size) := hHd (Nat.le_trans (Nat.le_of_lt HMM.out.lt) hb.size)
     have HXM := hHd (HXM.out.below hb HXM.out.lt)
     have HYM := hHd (HYM.out.below hb HYM.out.lt)
     have LMM := hHd (LMM.out.under hb (Nat.le_of_lt HMM.out.lt) (Nat.le_refl _))
     have HMM := hHd (HMM.out.below hb HMM.out.lt)
     have HWM := hHd (HWM.out.trans (hb.mono HWM.out.size))
     clear hb hr hl9 HVI
     go_wp2_with fail
     refine hK.out _ _ ?sr_2 (fun hS => ?_)
     case sr_2 => (exact HMM.out)
     clear hK K
     (try simp only [Act.put, layS])
     refine tkH 4 hS ?_
     refine tkH 5 hS ?_
     refine tkH 6 hS ?_
     refine tkH 7 hS ?_
     refine rdy1 8 fun K hK => ?_
     have HQ9 := Veil17.mk (mk9_al HWM.out HXM.out HYM.out HMM.out LMM.out (LieP.lies HL9.out HLS.out))
     have HZ : Hid (Blk ((w16).alloc (.cells #[.string ⟨#[]⟩, .string ⟨#[]⟩, .int .i64 0, .int .u64 0, .string ⟨#[]⟩, .slice none 0 0] 27)) (w16.heap.size) 27 #[.string ⟨#[]⟩, .string ⟨#[]⟩, .int .i64 0, .int .u64 0, .string ⟨#[]⟩, .slice none 0 0]) := hHd (blk_at17 rfl _ _)
     have HZB : Hid (w4.heap.size < (w16.heap.size)) := hHd HMM.out.lt
     have hb : Below (w16).heap.size (w16) ((w16).alloc (.cells #[.string ⟨#[]⟩, .string ⟨#[]⟩, .int .i64 0, .int .u64 0, .string ⟨#[]⟩, .slice none 0 0] 27)) := bAl
     have HXM := hHd (HXM.out.below hb HXM.out.lt)
     have HYM := hHd (HYM.out.below hb HYM.out.lt)
     have LMM := hHd (LMM.out.under hb (Nat.le_of_lt HMM.out.lt) (Nat.le_refl _))
     have HMM := hHd (HMM.out.below hb HMM.out.lt)
     have HWM := hHd (HWM.out.trans (hb.mono HWM.out.size))
     try (have HVI := hHd (HVI.out.below hb))
     have HK9 := hHd (LieN.avoid (LieP.lies HL9.out HLS.out) (.cells #[.string ⟨#[]⟩, .string ⟨#[]⟩, .int .i64 0, .int .u64 0, .string ⟨#[]⟩, .slice none 0 0] 27))
     clear hb
     go_simp
     refine hK.out _ _ ?sr_4 (fun hS => ?_)
     case sr_4 => (exact HMM.out)
     clear hK K
     (try simp only [Act.put, layS])
     refine rdy1 9 fun K hK => ?_
     have g0 := HZ.out.frozen 0
     have g1 := HZ.out.frozen 1
     have g2 := HZ.out.frozen 2
     have g3 := HZ.out.frozen 3
     have g4 := HZ.out.frozen 4
     have g5 := HZ.out.frozen 5
     obtain ⟨k0, k1, k2, k3, k4, k5⟩ := cl6 HZ.out
     have HM9 := HMM.out
     clear HWM HXM HYM HMM LMM HZ HK9 HL9
     go_simp
     refine hK.out _ _ ?sr_5 (fun hS => ?_)
     case sr_5 => (exact HQ9.out.2.2.2.1)
     clear hK K
     (try simp only [Act.put, layS])
     refine tkH 10 hS ?_
     refine tkH 11 hS ?_
     refine wpAnyH_done (by kernel_rfl) ?_ _
     refine NoPanic.normal ?_
    case' str_3 =>
     have HZ : Hid (Blk ((w15).alloc (.cells #[.string ⟨#[]⟩, .string ⟨#[]⟩, .int .i64 0, .int .u64 0, .string ⟨#[]⟩, .slice none 0 0] 27)) (w15.heap.size) 27 #[.string ⟨#[]⟩, .string ⟨#[]⟩, .int .i64 0, .int .u64 0, .string ⟨#[]⟩, .slice none 0 0]) := hHd (blk_at17 rfl _ _)
     have HZB : Hid (w4.heap.size < (w15.heap.size)) := hHd HMM.out.lt
     have hb : Below (w15).heap.size (w15) ((w15).alloc (.cells #[.string ⟨#[]⟩, .string ⟨#[]⟩, .int .i64 0, .int .u64 0, .string ⟨#[]⟩, .slice none 0 0] 27)) := bAl
     have HXM := hHd (HXM.out.below hb HXM.out.lt)
     have HYM := hHd (HYM.out.below hb HYM.out.lt)
     have LMM := hHd (LMM.out.under hb (Nat.le_of_lt HMM.out.lt) (Nat.le_refl _))
     have HMM := hHd (HMM.out.below hb HMM.out.lt)
     have HWM := hHd (HWM.out.trans (hb.mono HWM.out.size))
     try (have HVI := hHd (HVI.out.below hb))
     clear hb
     go_simp
     refine hK.out _ _ ?sr_3 (fun hS => ?_)
     case sr_3 => (exact HMM.out)
     clear hK K
     (try simp only [Act.put, layS])
     refine rdy1 3 fun K hK => ?_
     go_simp
     refine (HC.out.apply w4.heap.size (a, g) (invX l) _ _ _ (Nat.le_of_lt HMM.out.lt) LMM.out HVI.out FW2.out RG2.out.1 RG2.out.2 HWM.out).mono ?_
     intro r w16 hr
     obtain ⟨A9, c9, rfl, hl9, hb⟩ := hr.flat RU2.out
     have HL9 := hHd hl9
     have HLS : Hid (w4.heap.size ≤ w16.heap.size) := hHd (Nat.le_trans (Nat.le_of_lt HMM.out.lt) hb.size)
     have HK9 := hHd (LieP.avoid hl9 (Nat.le_of_lt HZB.out) HZ.out.lt HLS.out)
     have HXM := hHd (HXM.out.below hb HXM.out.lt)
     have HYM := hHd (HYM.out.below hb HYM.out.lt)
     have LMM := hHd (LMM.out.under hb (Nat.le_of_lt HMM.out.lt) (Nat.le_refl _))
     have HMM := hHd (HMM.out.below hb HMM.out.lt)
     have HWM := hHd (HWM.out.trans (hb.mono HWM.out.size))
     have HZ := hHd (HZ.out.below hb HZ.out.lt)
     clear hb hr hl9 HVI
     go_wp2_with fail
     refine hK.out _ _ ?sr_6 (fun hS => ?_)
     case sr_6 => (exact HMM.out)
     clear hK K
     (try simp only [Act.put, layS])
     refine tkH 4 hS ?_
     refine tkH 5 hS ?_
     refine tkH 6 hS ?_
     refine tkH 7 hS ?_
     refine rdy1 9 fun K hK => ?_
     have HQ9 := Veil17.mk (mk9_of HWM.out HXM.out HYM.out HMM.out LMM.out HZ.out HK9.out HZB.out HZ4.out)
     have g0 := HZ.out.frozen 0
     have g1 := HZ.out.frozen 1
     have g2 := HZ.out.frozen 2
     have g3 := HZ.out.frozen 3
     have g4 := HZ.out.frozen 4
     have g5 := HZ.out.frozen 5
     obtain ⟨k0, k1, k2, k3, k4, k5⟩ := cl6 HZ.out
     have HM9 := HMM.out
     clear HWM HXM HYM HMM LMM HZ HK9 HL9
     go_simp
     refine hK.out _ _ ?sr_7 (fun hS => ?_)
     case sr_7 => (exact HQ9.out.2.2.2.1)
     clear hK K
     (try simp only [Act.put, layS])
     refine tkH 10 hS ?_
     refine tkH 11 hS ?_
     refine wpAnyH_done (by kernel_rfl) ?_ _
     refine NoPanic.normal ?_
   case' str_1 =>
    have HZ : Hid (Blk ((wm.drew).alloc (.cells #[.string ⟨#[]⟩, .string ⟨#[]⟩, .int .i64 0, .int .u64 0, .string ⟨#[]⟩, .slice none 0 0] 27)) (wm.heap.size) 27 #[.string ⟨#[]⟩, .string ⟨#[]⟩, .int .i64 0, .int .u64 0, .string ⟨#[]⟩, .slice none 0 0]) := hHd (blk_at17 rfl _ _)
    have HZB : Hid (w4.heap.size < (wm.heap.size)) := hHd HMM.out.lt
    have hb : Below (wm.drew).heap.size (wm.drew) ((wm.drew).alloc (.cells #[.string ⟨#[]⟩, .string ⟨#[]⟩, .int .i64 0, .int .u64 0, .string ⟨#[]⟩, .slice none 0 0] 27)) := bAl
    have HXM := hHd (HXM.out.below hb HXM.out.lt)
    have HYM := hHd (HYM.out.below hb HYM.out.lt)
    have LMM := hHd (LMM.out.under hb (Nat.le_of_lt HMM.out.lt) (Nat.le_refl _))
    have HMM := hHd (HMM.out.below hb HMM.out.lt)
    have HWM := hHd (HWM.out.trans (hb.mono HWM.out.size))
    have HVM := hHd (HVM.out.below hb)
    clear hb
    go_simp
    refine hK.out _ _ ?sr_1 (fun hS => ?_)
    case sr_1 => (exact HMM.out)
    clear hK K
    (try simp only [Act.put, layS])
    refine rdy1 2 fun K hK => ?_
    go_simp
    refine (rinv16_any l _ _ HVM.out LL.out).mono ?_
    rintro r w15 ⟨v15, rfl, hv15, hb⟩
    obtain ⟨Ai, ci, rfl⟩ := hv15.shape
    have HVI := hHd hv15
    have HXM := hHd (HXM.out.below hb HXM.out.lt)
    have HYM := hHd (HYM.out.below hb HYM.out.lt)
    have LMM := hHd (LMM.out.under hb (Nat.le_of_lt HMM.out.lt) (Nat.le_refl _))
    have HMM := hHd (HMM.out.below hb HMM.out.lt)
    have HWM := hHd (HWM.out.trans (hb.mono HWM.out.size))
    have HZ := hHd (HZ.out.below hb HZ.out.lt)
    clear hb hv15 HVM
    go_wp2_with fail
    refine hK.out _ _ ?sr_8 (fun hS => ?_)
    case sr_8 => (exact HMM.out)
    clear hK K
    (try simp only [Act.put, layS])
    refine rdy1 3 fun K hK => ?_
    go_simp
    refine (HC.out.apply w4.heap.size (a, g) (invX l) _ _ _ (Nat.le_of_lt HMM.out.lt) LMM.out HVI.out FW2.out RG2.out.1 RG2.out.2 HWM.out).mono ?_
    intro r w16 hr
    obtain ⟨A9, c9, rfl, hl9, hb⟩ := hr.flat RU2.out
    have HL9 := hHd hl9
    have HLS : Hid (w4.heap.size ≤ w16.heap.size) := hHd (Nat.le_trans (Nat.le_of_lt HMM.out.lt) hb.size)
    have HK9 := hHd (LieP.avoid hl9 (Nat.le_of_lt HZB.out) HZ.out.lt HLS.out)
    have HXM := hHd (HXM.out.below hb HXM.out.lt)
    have HYM := hHd (HYM.out.below hb HYM.out.lt)
    have LMM := hHd (LMM.out.under hb (Nat.le_of_lt HMM.out.lt) (Nat.le_refl _))
    have HMM := hHd (HMM.out.below hb HMM.out.lt)
    have HWM := hHd (HWM.out.trans (hb.mono HWM.out.size))
    have HZ := hHd (HZ.out.below hb HZ.out.lt)
    clear hb hr hl9 HVI
    go_wp2_with fail
    refine hK.out _ _ ?sr_9 (fun hS => ?_)
    case sr_9 => (exact HMM.out)
    clear hK K
    (try simp only [Act.put, layS])
    refine tkH 4 hS ?_
    refine tkH 5 hS ?_
    refine tkH 6 hS ?_
    refine tkH 7 hS ?_
    refine rdy1 9 fun K hK => ?_
    have HQ9 := Veil17.mk (mk9_of HWM.out HXM.out HYM.out HMM.out LMM.out HZ.out HK9.out HZB.out HZ4.out)
    have g0 := HZ.out.frozen 0
    have g1 := HZ.out.frozen 1
    have g2 := HZ.out.frozen 2
    have g3 := HZ.out.frozen 3
    have g4 := HZ.out.frozen 4
    have g5 := HZ.out.frozen 5
    obtain ⟨k0, k1, k2, k3, k4, k5⟩ := cl6 HZ.out
    have HM9 := HMM.out
    clear HWM HXM HYM HMM LMM HZ HK9 HL9
    go_simp
    refine hK.out _ _ ?sr_a (fun hS => ?_)
    case sr_a => (exact HQ9.out.2.2.2.1)
    clear hK K
    (try simp only [Act.put, layS])
    refine tkH 10 hS ?_
    refine tkH 11 hS ?_
    refine wpAnyH_done (by kernel_rfl) ?_ _
    refine NoPanic.normal ?_
   all_goals (go_wp2_with fail; go_meet; exact ⟨_, _, _, rfl, rfl, rfl, hHd HQ9.out⟩)
  case rest =>
   obtain ⟨bz, A9, c9, rfl, rfl, rfl, Q9⟩ := hcut
   obtain ⟨w9, hw9⟩ : ∃ w9, w9 = wc := ⟨_, rfl⟩
   subst hw9
   clear HXM HYM HMM LMM HVM HWM
   obtain ⟨q0, q1, q2, q3, q4, q5⟩ := cl6 Q9.out.2.2.2.1
   obtain ⟨x0, x1, x2, x3, x4, x5⟩ := cl6 Q9.out.2.2.1
   have D1 := S1 _ _ Q9.out.2.2.2.2.1 Q9.out.1
   go_wp2_with fail
   refine D1.out.mono ?_
   rintro r w10 ⟨rfl, hb⟩
   have HK := hHd (Q9.out.2.2.2.2.2.1.below hb Q9.out.2.2.2.2.2.1.lt)
   have HA10 := hHd (Q9.out.2.1.below hb Q9.out.2.1.lt)
   have HB10 := hHd (Q9.out.1.trans (hb.mono Q9.out.1.size))
   have D2 := S2 _ _ (Q9.out.2.2.2.2.2.2.below hb) HB10.out
   clear hb D1 q0 q1 q2 q3 q4 q5 x0 x1 x2 x3 x4 x5
   obtain ⟨q0, q1, q2, q3, q4, q5⟩ := cl6 HK.out
   obtain ⟨x0, x1, x2, x3, x4, x5⟩ := cl6 HA10.out
   go_wp2_with fail
   refine D2.out.mono ?_
   rintro r w11 ⟨rfl, hb⟩
   have HB11 := hHd (HB10.out.trans (hb.mono HB10.out.size))
   clear hb D2
   go_wp2
   go_ret
   exact ⟨rfl, HB11.out⟩
theorem patchMakes_walk (a b : NdD) (f g : NdF) (A B : Option Addr) (c d : Nat) (w : World) (hx : LieN w (ndC a (.slice A f.len c)) (a, f)) (hy : LieN w (ndC b (.slice B g.len d)) (b, g)) (hf : f.size ≤ 1000000) (hg : g.size ≤ 1000000) (C : PatC w) (HA : Awake17 w) : Calls Try.prog 4 #[.agg (cN a (.slice A f.len c)), .agg (cN b (.slice B g.len d))] w (Ans9 (.bool true) w) := by
 cases hs : smallX a b f g with
 | true => exact patchMakes_yes a b f g A B c d w hx hy hf hg C HA hs
 | false => exact patchMakes_not a b f g A B c d w hx hy hf hg C HA hs
end
theorem SetX_few17 (x y : Nd) (l : List Stp) : (SetX x l y).1.2.size ≤ x.2.size + y.2.size + 1 := by
 by_cases h : okSet x l y
 ·rw [SetX_is h]
  have := set_size l x h
  simp only [sizeX] at this
  simp only
  omega
 ·have hz : (SetX x l y).1 = noN := by
   unfold SetX
   by_cases h1 : l.getLast? = some (stp y.1)
   ·rw [if_neg (by simp [h1])]
    cases hp : getX x l.dropLast with
    | none => rfl
    | some p =>
     by_cases hk : p.1.kind = 0
     ·exact absurd ((ok_iff l x).2 ⟨h1, p, hp, hk⟩) h
     ·simp [hk]
   ·rw [if_pos h1]
  rw [hz]
  simp [Fr.size]
theorem CutX_few17 (x : Nd) (l : List Stp) : (CutX x l).1.2.size ≤ x.2.size := by
 unfold CutX
 split
 ·simp [Fr.size]
 ·rename_i hl
  cases h : getX x l with
  | none => simp [Fr.size]
  | some z => have := cut_size l x z hl h; simp only [sizeX] at this; simp only; omega
theorem one_size (n : Nd) (e : EdD) : (oneX n e).1.2.size ≤ n.2.size + e.node.2.size + 1 := by
 unfold oneX
 split
 ·simp [Fr.size]
 split
 ·simp [Fr.size]
 split
 ·simp [Fr.size]
 split
 ·simp [Fr.size]
 split
 ·have := CutX_few17 n e.way; omega
 ·exact SetX_few17 n e.node e.way
theorem run_size : ∀ (l : List EdD) (n : Nd) (i : Nat), (∀ e ∈ l, e.node.2.size ≤ 600) → (runXE n l i).1.2.size ≤ n.2.size + l.length * 601 := by
 intro l
 induction l with
 | nil => intro n i _; simp [runXE]
 | cons x l ih =>
  intro n i h
  unfold runXE
  have h1 := one_size n x
  have h2 := h x (List.mem_cons_self ..)
  split
  ·have h3 := ih (oneX n x).1 (i + 1) (fun e he => h e (List.mem_cons_of_mem _ he))
   rw [List.length_cons]
   omega
  ·simp [Fr.size]
theorem goes_size {n m : Nd} {l : List EdD} (h : Goes n l m) (hl : ∀ e ∈ l, e.node.2.size ≤ 600) : m.2.size ≤ n.2.size + l.length * 601 := by
 have := run_size l n 0 hl
 rwa [h 0] at this
theorem run_any {m : Nd} : ∀ {l : List EdD} {n : Nd} {i : Nat}, runXE n l i = (m, 0, 0) → ∀ j, runXE n l j = (m, 0, 0) := by
 intro l
 induction l with
 | nil => intro n i h j; simpa [runXE] using h
 | cons x l ih =>
  intro n i h j
  unfold runXE at h ⊢
  by_cases hz : (oneX n x).2 = 0
  ·rw [if_pos hz] at h ⊢; exact ih h _
  ·rw [if_neg hz] at h
   injection h with _ h
   injection h with h
   exact absurd h hz
theorem goes_inv {n m : Nd} {x : EdD} {l : List EdD} (h : Goes n (x :: l) m) : (oneX n x).2 = 0 ∧ Goes (oneX n x).1 l m := by
 have h0 := h 0
 unfold runXE at h0
 by_cases hz : (oneX n x).2 = 0
 ·refine ⟨hz, fun i => ?_⟩
  cases i with
  | zero =>
   have h1 := h 0
   have hh : ∀ j, runXE (oneX n x).1 l (j + 1) = (m, 0, 0) := fun j => by have h2 := h j; unfold runXE at h2; rwa [if_pos hz] at h2
   exact run_any (hh 0) 0
  | succ i => have h2 := h i; unfold runXE at h2; rwa [if_pos hz] at h2
 ·rw [if_neg hz] at h0
  injection h0 with _ h0
  injection h0 with h0
  exact absurd h0 hz
theorem goes_last : ∀ {l : List EdD} {n m : Nd} {x : EdD}, Goes n (l ++ [x]) m → ∃ k, Goes n l k ∧ oneX k x = (m, 0) := by
 intro l
 induction l with
 | nil =>
  intro n m x h
  obtain ⟨h1, h2⟩ := goes_inv h
  have h3 := h2 0
  simp only [runXE, Prod.mk.injEq, and_true] at h3
  exact ⟨n, Goes.nil n, by rw [← h3, ← h1]⟩
 | cons y l ih =>
  intro n m x h
  obtain ⟨h1, h2⟩ := goes_inv (show Goes n (y :: (l ++ [x])) m from h)
  obtain ⟨k, h3, h4⟩ := ih h2
  exact ⟨k, Goes.cons (by rw [← h1]) h3, h4⟩
theorem rgt_one {n m : Nd} {x : EdD} (hr : rgtX n = true) (hx : rgtX x.node = true) (h : oneX n x = (m, 0)) : rgtX m = true := by
 rcases oneX_parts h with ⟨_, _, h3⟩ | ⟨_, _, h2, h3⟩ | ⟨_, _, _, _, _, h3⟩
 ·have hk : okSet n x.way x.node := SetX_ok.1 (by rw [h3])
  rw [SetX_is hk] at h3
  injection h3 with h3 _
  rw [← h3]; exact set_right hx _ _ hr hk
 ·obtain ⟨hk, z, hz⟩ := CutX_ok (x := n) (l := x.way) (by rw [h3])
  rw [CutX_is hk hz] at h3
  injection h3 with h3 _
  rw [← h3]; exact cut_right _ _ _ hr hk hz
 ·have hk : okSet n x.way x.node := SetX_ok.1 (by rw [h3])
  rw [SetX_is hk] at h3
  injection h3 with h3 _
  rw [← h3]; exact set_right hx _ _ hr hk
theorem rgt_goes : ∀ {l : List EdD} {n m : Nd}, rgtX n = true → (∀ e ∈ l, rgtX e.node = true) → Goes n l m → rgtX m = true := by
 intro l
 induction l with
 | nil =>
  intro n m hr _ h
  have h3 := h 0
  simp only [runXE, Prod.mk.injEq, and_true] at h3
  rw [← h3]; exact hr
 | cons y l ih =>
  intro n m hr hl h
  obtain ⟨h1, h2⟩ := goes_inv h
  exact ih (rgt_one hr (hl y (List.mem_cons_self ..)) (show oneX n y = ((oneX n y).1, 0) by rw [← h1])) (fun e he => hl e (List.mem_cons_of_mem _ he)) h2
theorem one_once {n m : Nd} {x : EdD} (hr : rgtX n = true) (hd : x.kind = 3 → x.node ≠ x.old) (h : oneX n x = (m, 0)) : (x.kind = 1 ∧ (oneX m x).2 = 24) ∨ (x.kind = 2 ∧ (oneX m x).2 = 30) ∨ (x.kind = 3 ∧ (oneX m x).2 = 23) := by
 have c1 : ¬ ((x.kind ≠ 1 ∧ x.kind ≠ 2 ∧ x.kind ≠ 3) ∨ x.way = [] ∨ (x.kind ≠ 2 ∧ x.way.getLast? ≠ some (stp x.node.1)) ∨ (x.kind ≠ 1 ∧ x.way.getLast? ≠ some (stp x.old.1))) := by
  intro c
  unfold oneX at h
  rw [if_pos c] at h
  injection h with _ e
  exact absurd e (by decide)
 rcases oneX_parts h with ⟨k, _, h3⟩ | ⟨k, _, h2, h3⟩ | ⟨k, _, _, _, _, h3⟩
 ·refine .inl ⟨k, ?_⟩
  have hk : okSet n x.way x.node := SetX_ok.1 (by rw [h3])
  rw [SetX_is hk] at h3
  injection h3 with h3 _
  have hg := getX_is (set_get _ _ hk)
  rw [h3] at hg
  unfold oneX
  rw [if_neg c1, if_pos ⟨k, by rw [hg]⟩]
 ·refine .inr (.inl ⟨k, ?_⟩)
  obtain ⟨hk, z, hz⟩ := CutX_ok (x := n) (l := x.way) (by rw [h3])
  rw [CutX_is hk hz] at h3
  injection h3 with h3 _
  have hg := getX_no (cut_get _ _ _ hr hk hz)
  rw [h3] at hg
  unfold oneX
  rw [if_neg c1, if_neg (by rintro ⟨e, _⟩; rw [k] at e; exact absurd e (by decide)), if_pos ⟨by rw [k]; decide, by rw [hg]⟩]
 ·refine .inr (.inr ⟨k, ?_⟩)
  have hk : okSet n x.way x.node := SetX_ok.1 (by rw [h3])
  rw [SetX_is hk] at h3
  injection h3 with h3 _
  have hg := getX_is (set_get _ _ hk)
  rw [h3] at hg
  unfold oneX
  rw [if_neg c1, if_neg (by rintro ⟨e, _⟩; rw [k] at e; exact absurd e (by decide)), if_neg (by rintro ⟨_, e⟩; rw [hg] at e; cases e), if_pos (.inl ⟨by rw [k]; decide, by rw [hg]; exact hd k⟩)]
theorem ed_diff (f g : NdF) (w : List Stp) : ∀ e ∈ edF f g w, e.kind = 3 → e.node ≠ e.old := by
 refine ed_ind (P := fun f g w => ∀ e ∈ edF f g w, e.kind = 3 → e.node ≠ e.old) (fun w e he => by rw [edF_nil] at he; cases he) (fun a k r w ih e he => ?_) (fun b q s w ih e he => ?_) (fun a k r b q s w h ih e he => ?_) (fun a k r b q s w h1 h2 ih e he => ?_) (fun a k r b q s w h1 h2 hs ihk ih e he => ?_) f g w
 ·rw [edF_del] at he
  rcases List.mem_cons.1 he with rfl | he
  ·intro e; exact absurd e (by simp [delE])
  ·exact ih e he
 ·rw [edF_new] at he
  rcases List.mem_cons.1 he with rfl | he
  ·intro e; exact absurd e (by simp [newE])
  ·exact ih e he
 ·rw [edF_lt h] at he
  rcases List.mem_cons.1 he with rfl | he
  ·intro e; exact absurd e (by simp [delE])
  ·exact ih e he
 ·rw [edF_gt h1 h2] at he
  rcases List.mem_cons.1 he with rfl | he
  ·intro e; exact absurd e (by simp [newE])
  ·exact ih e he
 ·rw [edF_eq h1 h2] at he
  rcases List.mem_append.1 he with he | he
  ·unfold edK at he
   split at he
   ·cases he
   ·rename_i hne
    split at he
    ·obtain rfl : e = _ := by simpa using he
     intro _ hh
     exact hne (by simpa using hh.symm)
    ·split at he
     ·exact ihk e he
     ·rcases List.mem_cons.1 he with rfl | he
      ·intro e; exact absurd e (by simp [delE])
      ·obtain rfl : e = _ := by simpa using he
       intro e; exact absurd e (by simp [newE])
  ·exact ih e he
end Go.Proofs.Ythmobcaidhgeaaa
