/- Law13E -/
import Derived.Test.YtodlhgflfcadmaaGreatQM43
set_option linter.unusedSimpArgs false
set_option linter.unusedVariables false
set_option maxRecDepth 100000
set_option maxHeartbeats 8000000
namespace Go.Proofs.YtodlhgflfcadmaaGreat
open Go.RowKit
def BytR (v : Int) (x : Nd) (w : World) (r : Ending) (w' : World) : Prop := ∃ (L : List UInt8) (e : Nat) (u : Value), r = .returned (.tuple #[u, .int .i64 (e : Int)]) ∧ Own w' w.heap.size u L ∧ Below w.heap.size w w' ∧
 (e = 0 → MayX v x = true ∧ 1 ≤ v ∧ v ≤ 3 ∧ L = encV 9 v.toNat ++ (ItemsX v x).all ∧ (ItemsX v x).all.length ≤ 8192) ∧ (e ≠ 0 → L = []) ∧ L.length ≤ 10000
theorem bytR_any (v : Int) (a : NdD) (f : NdF) (A : Option Addr) (c : Nat) (w : World) (hrow : RowT w.heap.size w (.slice A f.len c) f) (hf : f.size ≤ 300) (hok : OkF f) :
  Calls Tryz.prog 9 #[.int .i64 v, .agg (cN a (.slice A f.len c))] w (BytR v (a, f) w) := by
 refine (vbytes_any v v.toNat a f A c w hrow (by omega) hok (fun h => ⟨sz_items v a f hok hf, by have := cnt_items v (a, f); simp only at this; omega, right_items v (a, f), by have := may_ver h; omega⟩)).mono fun r w' h => ?_
 unfold BytW at h
 by_cases h0 : (CheckX v (a, f)).1 = 0
 ·rw [if_pos h0] at h
  obtain ⟨u, h1, h2, h3⟩ := h
  by_cases hl : (ItemsX v (a, f)).all.length ≤ 8192
  ·rw [if_pos hl] at h1 h2
   refine ⟨_, 0, u, h1, h2, h3, fun _ => ⟨decide_eq_true h0, (may_ver h0).1, (may_ver h0).2, rfl, hl⟩, fun h => absurd rfl h, ?_⟩
   rw [List.length_append]
   have := (encV_length 9 v.toNat).2
   omega
  ·rw [if_neg hl] at h1 h2
   exact ⟨_, 14, u, h1, h2, h3, fun h => absurd h (by omega), fun _ => rfl, Nat.zero_le _⟩
 ·rw [if_neg h0] at h
  exact ⟨[], _, _, h.1, Own.nil _ _, h.2, fun h => absurd h h0, fun _ => rfl, Nat.zero_le _⟩
theorem apart13 {v w : Int} {x y : Nd} {L M : List UInt8} (h1 : MayX v x = true ∧ 1 ≤ v ∧ v ≤ 3 ∧ L = encV 9 v.toNat ++ (ItemsX v x).all ∧ (ItemsX v x).all.length ≤ 8192) (h2 : MayX w y = true ∧ 1 ≤ w ∧ w ≤ 3 ∧ M = encV 9 w.toNat ++ (ItemsX w y).all ∧ (ItemsX w y).all.length ≤ 8192) (ox : OkF x.2) (oy : OkF y.2) :
  L = M ↔ v = w ∧ x = y := by
 obtain ⟨m1, a1, b1, rfl, l1⟩ := h1
 obtain ⟨m2, a2, b2, rfl, l2⟩ := h2
 constructor
 ·intro h
  obtain ⟨e1, e2⟩ := bytes_inj (by omega) (by omega) h
  have hvw : v = w := by omega
  subst hvw
  exact ⟨rfl, items_inj m1 m2 ox oy (all_inj (fit_items _ _) (fit_items _ _) (right_items _ _) (right_items _ _) l1 e2)⟩
 ·rintro ⟨rfl, rfl⟩
  rfl
theorem packApart_walk (nv : Nat) (Av : Option Addr) (cv : Nat) (zs : List Int) (a : NdD) (f : NdF) (A : Option Addr) (c : Nat) (b : NdD) (g : NdF) (B : Option Addr) (d : Nat) (w : World) (hz : IsRow .i64 w Av nv cv zs)
  (hrow : RowT w.heap.size w (.slice A f.len c) f) (hf : f.size ≤ 999990) (hok : OkF f) (hrow2 : RowT w.heap.size w (.slice B g.len d) g) (hg : g.size ≤ 999990) (hok2 : OkF g) :
  Calls Tryz.prog 4 #[.slice Av nv cv, .agg (cN a (.slice A f.len c)), .agg (cN b (.slice B g.len d))] w (Ans9 (.bool true) w) := by
 have hx1 : Below w.heap.size w ((w.alloc (.cells (cN a (.slice A f.len c)) 27)).alloc (.cells (cN b (.slice B g.len d)) 27)) := bAl.alloc (by simp) _
 have HAU := hHd (awake13_any ((w.alloc (.cells (cN a (.slice A f.len c)) 27)).alloc (.cells (cN b (.slice B g.len d)) 27)))
 have HX1 := hHd hx1
 have HBK : Hid (Blk ((w.alloc (.cells (cN a (.slice A f.len c)) 27)).alloc (.cells (cN b (.slice B g.len d)) 27)) w.heap.size 27 (cN a (.slice A f.len c)) ∧ Blk ((w.alloc (.cells (cN a (.slice A f.len c)) 27)).alloc (.cells (cN b (.slice B g.len d)) 27)) (w.heap.size + 1) 27 (cN b (.slice B g.len d))) := hHd ⟨(Blk.new w 27 (cN a (.slice A f.len c))).alloc _, Blk.newA (w := w.alloc (.cells (cN a (.slice A f.len c)) 27)) (by simp) _ _⟩
 have HROW := hHd (And.intro hrow (And.intro hf hok))
 have HROX := hHd (And.intro hrow2 (And.intro hg hok2))
 have HZ := hHd hz
 clear hx1 hrow hf hok hrow2 hg hok2 hz
 go_enter Tryz.func4, Tryz.ntmps4
 go_wp2_with fail
 refine HAU.out.mono ?_
 rintro r w1 ⟨rfl, hb1⟩
 have HB1 := hHd (HX1.out.trans (hb1.mono HX1.out.size))
 have HTx := hHd (And.intro (HBK.out.1.below hb1 HBK.out.1.lt) (HBK.out.2.below hb1 HBK.out.2.lt))
 clear hb1
 obtain ⟨p0, p1, p2, p3, p4, p5⟩ := cl6 HTx.out.1
 obtain ⟨q0, q1, q2, q3, q4, q5⟩ := cl6 HTx.out.2
 go_wp2_with fail
 refine (small13_any a f A c _ (HROW.out.1.under HB1.out (Nat.le_refl _) HB1.out.size) (by have := HROW.out.2.1; omega)).mono ?_
 rintro r w2 ⟨rfl, hb2⟩
 have HB2 := hHd (HB1.out.trans (hb2.mono HB1.out.size))
 have HTx := hHd (And.intro (HTx.out.1.below hb2 HTx.out.1.lt) (HTx.out.2.below hb2 HTx.out.2.lt))
 clear hb2
 clear p0 p1 p2 p3 p4 p5 q0 q1 q2 q3 q4 q5
 obtain ⟨p0, p1, p2, p3, p4, p5⟩ := cl6 HTx.out.1
 obtain ⟨q0, q1, q2, q3, q4, q5⟩ := cl6 HTx.out.2
 obtain ⟨s1, hs1⟩ : ∃ s, s = decide (f.size + 1 ≤ 300) := ⟨_, rfl⟩
 rw [← hs1]
 have HS1 := hHd hs1
 clear hs1
 go_wp2_with fail
 refine (small13_any b g B d _ (HROX.out.1.under HB2.out (Nat.le_refl _) HB2.out.size) (by have := HROX.out.2.1; omega)).mono ?_
 rintro r w3 ⟨rfl, hb3⟩
 have HB3 := hHd (HB2.out.trans (hb3.mono HB2.out.size))
 have HTx := hHd (And.intro (HTx.out.1.below hb3 HTx.out.1.lt) (HTx.out.2.below hb3 HTx.out.2.lt))
 clear hb3
 clear p0 p1 p2 p3 p4 p5 q0 q1 q2 q3 q4 q5
 obtain ⟨s2, hs2⟩ : ∃ s, s = decide (g.size + 1 ≤ 300) := ⟨_, rfl⟩
 rw [← hs2]
 have HS2 := hHd hs2
 clear hs2
 cases s1 with
 | false =>
  go_wp2
  go_ret
  exact ⟨rfl, HB3.out⟩
 | true =>
  cases s2 with
  | false =>
   go_wp2
   go_ret
   exact ⟨rfl, HB3.out⟩
  | true =>
   have hF : f.size ≤ 299 := by have := of_decide_eq_true HS1.out.symm; omega
   have hG : g.size ≤ 299 := by have := of_decide_eq_true HS2.out.symm; omega
   have HFG := hHd (And.intro hF hG)
   clear hF hG HS1 HS2
   by_cases hn2 : nv < 2
   ·have n1 : (nv : Int) < 2 := by omega
    go_wp2
    go_ret
    exact ⟨rfl, HB3.out⟩
   ·have n1 : ¬ (nv : Int) < 2 := by omega
    obtain ⟨xb, xo, rfl, v, ve, v0, v1⟩ : ∃ xb xo, Av = some ⟨xb, xo, none⟩ ∧ ∃ v ve : Int, w.cell? ⟨xb, xo, none⟩ = some (.int .i64 v) ∧ w.cell? ⟨xb, xo + 1, none⟩ = some (.int .i64 ve) := by
     rcases HZ.out with ⟨_, h, _, _⟩ | ⟨x, hx, h1, _, h2, h3, _⟩
     ·omega
     ·have hs : x.spot = none := World.cell?_spot (by have := h3 0 (by omega); simpa [Addr.add] using this)
      obtain ⟨xb, xo, sp⟩ := x
      have hs : sp = none := hs
      subst hs
      exact ⟨xb, xo, hx, _, _, by have := h3 0 (by omega); simpa [Addr.add] using this, by have := h3 1 (by omega); simpa [Addr.add] using this⟩
    have m0 : w3.cell? ⟨xb, xo, none⟩ = some (.int .i64 v) := by
     have h : xb < w.heap.size := World.block_lt_of_cell? _ _ v0
     exact (HB3.out.cell h).trans v0
    have m1 : w3.cell? ⟨xb, xo + 1, none⟩ = some (.int .i64 ve) := by
     have h : xb < w.heap.size := World.block_lt_of_cell? _ _ v1
     exact (HB3.out.cell h).trans v1
    have i0 : 0 < nv := by omega
    have i1 : 1 < nv := by omega
    have i2 : (0 : Int) < (nv : Int) := by omega
    have i3 : (1 : Int) < (nv : Int) := by omega
    clear v0 v1
    obtain ⟨p0, p1, p2, p3, p4, p5⟩ := cl6 HTx.out.1
    obtain ⟨q0, q1, q2, q3, q4, q5⟩ := cl6 HTx.out.2
    go_wp2_with fail
    refine (bytR_any v a f A c _ (HROW.out.1.under HB3.out (Nat.le_refl _) HB3.out.size) (by have := HFG.out.1; omega) HROW.out.2.2).mono ?_
    rintro r w4 ⟨L1, e1, u1, rfl, ho1, hb4, hp1, hq1, hl1⟩
    have HB4 := hHd (HB3.out.trans (hb4.mono HB3.out.size))
    have HTx := hHd (And.intro (HTx.out.1.below hb4 HTx.out.1.lt) (HTx.out.2.below hb4 HTx.out.2.lt))
    have HP1 := hHd (And.intro hp1 hq1)
    have HR1 : Hid (∃ d, Rd w4 d u1 L1) := hHd (by obtain ⟨d, _, h⟩ := ho1.rd' (by omega); exact ⟨d, h⟩)
    obtain ⟨A1, c1, hu1⟩ : ∃ A1 c1, u1 = .slice A1 L1.length c1 := by obtain ⟨d, A', c', h, _⟩ := HR1.out; exact ⟨A', c', h⟩
    subst hu1
    clear ho1 hb4 hp1 hq1 hl1 m0 m1 i0 i1 i2 i3 n1
    clear p0 p1 p2 p3 p4 p5 q0 q1 q2 q3 q4 q5
    obtain ⟨p0, p1, p2, p3, p4, p5⟩ := cl6 HTx.out.1
    obtain ⟨q0, q1, q2, q3, q4, q5⟩ := cl6 HTx.out.2
    go_wp2_with fail
    refine (bytR_any ve b g B d _ (HROX.out.1.under HB4.out (Nat.le_refl _) HB4.out.size) (by have := HFG.out.2; omega) HROX.out.2.2).mono ?_
    rintro r w5 ⟨L2, e2, u2, rfl, ho2, hb5, hp2, hq2, hl2⟩
    have HB5 := hHd (HB4.out.trans (hb5.mono HB4.out.size))
    have HTx := hHd (And.intro (HTx.out.1.below hb5 HTx.out.1.lt) (HTx.out.2.below hb5 HTx.out.2.lt))
    have HP2 := hHd (And.intro hp2 hq2)
    have HR1 : Hid (∃ d, Rd w5 d (.slice A1 L1.length c1) L1) := hHd (by obtain ⟨d, h⟩ := HR1.out; exact ⟨d, h.below' hb5⟩)
    have HR2 : Hid (∃ d, Rd w5 d u2 L2) := hHd (by obtain ⟨d, _, h⟩ := ho2.rd' (by omega); exact ⟨d, h⟩)
    obtain ⟨A2, c2, hu2⟩ : ∃ A2 c2, u2 = .slice A2 L2.length c2 := by obtain ⟨d, A', c', h, _⟩ := HR2.out; exact ⟨A', c', h⟩
    subst hu2
    clear ho2 hb5 hp2 hq2 hl2
    clear p0 p1 p2 p3 p4 p5 q0 q1 q2 q3 q4 q5
    by_cases h1 : e1 = 0
    ·by_cases h2 : e2 = 0
     ·subst h1 h2
      have hx := HP1.out.1 rfl
      have hy := HP2.out.1 rfl
      have HAP := hHd (apart13 hx hy HROW.out.2.2 HROX.out.2.2)
      have hdr : Below w5.heap.size w5 w5.drew := (Below.refl _ _).drew
      have HWc := hHd hdr
      have hm : ∀ W, Below w5.heap.size w5 W → Calls Tryz.prog 15 #[.int .i64 v, .agg (cN a (.slice A f.len c))] W (Ans9 (.bool (MayX v (a, f))) W) := fun W h => rmay10_any v a f A c W (HROW.out.1.under (HB5.out.trans (h.mono HB5.out.size)) (Nat.le_refl _) (HB5.out.trans (h.mono HB5.out.size)).size) (by have := HROW.out.2.1; omega) HROW.out.2.2
      rw [hx.1] at hm
      have CM := hHd hm
      have CS : Hid (∀ W, Below w5.heap.size w5 W → Calls Tryz.prog 16 #[.agg (cN a (.slice A f.len c)), .agg (cN b (.slice B g.len d))] W (Ans9 (.bool (decide (((a, f) : Nd) = (b, g)))) W)) := hHd fun W h => rsamet_any (a, f) (b, g) _ _ W (LieB.make (HROW.out.1.under (HB5.out.trans (h.mono HB5.out.size)) (Nat.le_refl _) (HB5.out.trans (h.mono HB5.out.size)).size)) (LieB.make (HROX.out.1.under (HB5.out.trans (h.mono HB5.out.size)) (Nat.le_refl _) (HB5.out.trans (h.mono HB5.out.size)).size)) (show f.size ≤ 1000000 by have := HROW.out.2.1; omega) (show g.size ≤ 1000000 by have := HROX.out.2.1; omega)
      clear hdr hm hx hy
      by_cases hv : v = ve
      ·subst hv
       obtain ⟨d1, hd1⟩ := HR1.out
       obtain ⟨d2, hd2⟩ := HR2.out
       have HRR : Hid (∀ W, Below w5.heap.size w5 W → Rd W d1 (.slice A1 L1.length c1) L1 ∧ Rd W d2 (.slice A2 L2.length c2) L2) := hHd fun W h => ⟨hd1.below' h, hd2.below' h⟩
       clear hd1 hd2
       obtain ⟨q, hq⟩ : ∃ q, q = decide (((a, f) : Nd) = (b, g)) := ⟨_, rfl⟩
       have hle : decide (L1 = L2) = q := by rw [hq]; exact decide_eq_decide.2 ⟨fun h => (HAP.out.1 h).2, fun h => HAP.out.2 ⟨rfl, h⟩⟩
       rw [← hq] at CS
       clear hq HAP
       go_wp2_with fail
       refine wp_region_noPanic ?_
       refine wp_region_held_drew (S := fun _ => True) (by kernel_rfl) trivial (fun hS => ?_)
       refine held_more (S' := fun w' => Below w5.heap.size w5 w') (fun _ _ => trivial) _ _ _ _ ?_
       replace hS := HWc.out
       refine tkH 0 hS ?_
       refine tkH 1 hS ?_ (hy := fun w hSw => by obtain ⟨p0, p1, p2, p3, p4, p5⟩ := cl6 (HTx.out.1.below hSw HTx.out.1.lt); (go_simp <;> with_reducible rfl))
       refine rdy1 2 fun K hK => ?_
       go_simp
       refine (CM.out _ HWc.out).mono ?_
       rintro r w6 ⟨rfl, hb6⟩
       replace HWc := hHd (HWc.out.trans (hb6.mono HWc.out.size))
       clear hb6
       go_wp2_with fail
       refine hK.out _ _ ?sr_0 (fun hS => ?_)
       case sr_0 => (exact HWc.out)
       clear hK K
       (try simp only [Act.put, layS])
       refine tkH 3 hS ?_
       refine tkH 4 hS ?_
       refine tkH 5 hS ?_ (hy := fun w hSw => by have hc : (convert 30 9 _).run Tryz.prog _ = .ok (.string (txt L1)) _ := str_of (HRR.out _ hSw).1; (go_simp <;> with_reducible rfl))
       refine tkH 6 hS ?_
       refine tkH 7 hS ?_ (hy := fun w hSw => by have hc : (convert 30 9 _).run Tryz.prog _ = .ok (.string (txt L2)) _ := str_of (HRR.out _ hSw).2; (go_simp <;> with_reducible rfl))
       refine tkH 8 hS ?_
       refine tkH 9 hS ?_
       refine tkH 10 hS ?_
       refine tkH 11 hS ?_
       refine tkH 12 hS ?_
       refine tkH 13 hS ?_ (hy := fun w hSw => by obtain ⟨p0, p1, p2, p3, p4, p5⟩ := cl6 (HTx.out.1.below hSw HTx.out.1.lt); (go_simp <;> with_reducible rfl))
       refine tkH 14 hS ?_ (hy := fun w hSw => by obtain ⟨p0, p1, p2, p3, p4, p5⟩ := cl6 (HTx.out.2.below hSw HTx.out.2.lt); (go_simp <;> with_reducible rfl))
       refine rdy1 15 fun K hK => ?_
       go_simp
       refine (CS.out _ HWc.out).mono ?_
       rintro r w7 ⟨rfl, hb7⟩
       replace HWc := hHd (HWc.out.trans (hb7.mono HWc.out.size))
       clear hb7
       go_wp2_with fail
       refine hK.out _ _ ?sr_1 (fun hS => ?_)
       case sr_1 => (exact HWc.out)
       clear hK K
       (try simp only [Act.put, layS])
       refine tkH 16 hS ?_
       refine tkH 17 hS ?_
       refine tkH 18 hS ?_
       refine tkH 19 hS ?_
       refine wpAnyH_done (by kernel_rfl) ?_ _
       refine NoPanic.normal ?_
       clear hS
       go_wp2
       go_ret
       have he : ((txt L1).toList == (txt L2).toList) = q := by rw [txt_toList, txt_toList, ← hle]; exact Bool.eq_iff_iff.2 ⟨fun h => decide_eq_true (eq_of_beq h), fun h => beq_iff_eq.2 (of_decide_eq_true h)⟩
       rw [he]
       rw [beq_self_eq_true]
       exact ⟨rfl, HB5.out.trans (HWc.out.mono HB5.out.size)⟩
      ·obtain ⟨d1, hd1⟩ := HR1.out
       obtain ⟨d2, hd2⟩ := HR2.out
       have HRR : Hid (∀ W, Below w5.heap.size w5 W → Rd W d1 (.slice A1 L1.length c1) L1 ∧ Rd W d2 (.slice A2 L2.length c2) L2) := hHd fun W h => ⟨hd1.below' h, hd2.below' h⟩
       clear hd1 hd2
       have hle : decide (L1 = L2) = false := decide_eq_false fun h => hv (HAP.out.1 h).1
       have hvf : (v == ve) = false := beq_eq_false_iff_ne.2 hv
       clear HAP CS
       go_wp2_with fail
       refine wp_region_noPanic ?_
       refine wp_region_held_drew (S := fun _ => True) (by kernel_rfl) trivial (fun hS => ?_)
       refine held_more (S' := fun w' => Below w5.heap.size w5 w') (fun _ _ => trivial) _ _ _ _ ?_
       replace hS := HWc.out
       refine tkH 0 hS ?_
       refine tkH 1 hS ?_ (hy := fun w hSw => by obtain ⟨p0, p1, p2, p3, p4, p5⟩ := cl6 (HTx.out.1.below hSw HTx.out.1.lt); (go_simp <;> with_reducible rfl))
       refine rdy1 2 fun K hK => ?_
       go_simp
       refine (CM.out _ HWc.out).mono ?_
       rintro r w6 ⟨rfl, hb6⟩
       replace HWc := hHd (HWc.out.trans (hb6.mono HWc.out.size))
       clear hb6
       go_wp2_with fail
       refine hK.out _ _ ?sr_2 (fun hS => ?_)
       case sr_2 => (exact HWc.out)
       clear hK K
       (try simp only [Act.put, layS])
       refine tkH 3 hS ?_
       refine tkH 4 hS ?_
       refine tkH 5 hS ?_ (hy := fun w hSw => by have hc : (convert 30 9 _).run Tryz.prog _ = .ok (.string (txt L1)) _ := str_of (HRR.out _ hSw).1; (go_simp <;> with_reducible rfl))
       refine tkH 6 hS ?_
       refine tkH 7 hS ?_ (hy := fun w hSw => by have hc : (convert 30 9 _).run Tryz.prog _ = .ok (.string (txt L2)) _ := str_of (HRR.out _ hSw).2; (go_simp <;> with_reducible rfl))
       refine tkH 8 hS ?_
       refine tkH 9 hS ?_
       refine tkH 10 hS ?_
       refine tkH 11 hS ?_
       refine tkH 12 hS ?_
       refine tkHo 13 hS ?_
       refine tkHo 14 hS ?_
       refine tkHo 15 hS ?_
       refine tkH 16 hS ?_
       refine tkH 17 hS ?_
       refine tkH 18 hS ?_
       refine tkH 19 hS ?_
       refine wpAnyH_done (by kernel_rfl) ?_ _
       refine NoPanic.normal ?_
       clear hS
       go_wp2
       go_ret
       have he : ((txt L1).toList == (txt L2).toList) = false := by rw [txt_toList, txt_toList, ← hle]; exact Bool.eq_iff_iff.2 ⟨fun h => decide_eq_true (eq_of_beq h), fun h => beq_iff_eq.2 (of_decide_eq_true h)⟩
       rw [he]
       try rw [Bool.not_false]
       exact ⟨rfl, HB5.out.trans (HWc.out.mono HB5.out.size)⟩
     ·have j1 : L2 = [] := HP2.out.2 h2
      have j2 : ¬ (e2 : Int) = 0 := by omega
      subst j1 h1
      go_wp2
      all_goals go_ret
      all_goals exact ⟨rfl, HB5.out⟩
    ·have j1 : L1 = [] := HP1.out.2 h1
     subst j1
     have j2 : ¬ (e1 : Int) = 0 := by omega
     go_wp2
     all_goals go_ret
     all_goals exact ⟨rfl, HB5.out⟩
end Go.Proofs.YtodlhgflfcadmaaGreat
