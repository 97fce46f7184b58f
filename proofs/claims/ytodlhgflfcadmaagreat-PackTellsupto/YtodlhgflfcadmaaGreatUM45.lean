/- SpcRefF VadRefG PakSub PakRfB Law13F -/
import Derived.Test.YtodlhgflfcadmaaGreatUM44
import Derived.Test.YtodlhgflfcadmaaGreatUM43
set_option linter.unusedSimpArgs false
set_option linter.unusedVariables false
set_option maxRecDepth 100000
set_option maxHeartbeats 8000000
namespace Go.Proofs.YtodlhgflfcadmaaGreat
open Go.RowKit
theorem rroot_no (v : Int) (h : v < 1 ∨ 3 < v) (w : World) : Calls Tryz.prog 27 #[.int .i64 v] w (RSpP (rootX v) w) := by
 have HX : Hid (rootX v = ((zeroD, .nil), 28)) := hHd (by unfold rootX; rw [if_pos h])
 rcases h with h | h
 ·go_enter Tryz.func27, Tryz.ntmps27
  go_wp2
  refine bodyPost_ret (res_cell_tmp rfl _ _ w.heap.size 67 _ (0, 0) _ rfl (heap_alloc_new w _) Tryz.underlying67 rfl (by kernel_rfl)) rfl ?_
  exact ⟨spC zeroD (.slice none 0 0) (.slice none 0 0), by rw [HX.out]; rfl, by rw [HX.out]; exact leaf_n rfl, bAl⟩
 ·have h1 : ¬ v < 1 := by omega
  go_enter Tryz.func27, Tryz.ntmps27
  go_wp2
  refine bodyPost_ret (res_cell_tmp rfl _ _ w.heap.size 67 _ (0, 0) _ rfl (heap_alloc_new w _) Tryz.underlying67 rfl (by kernel_rfl)) rfl ?_
  exact ⟨spC zeroD (.slice none 0 0) (.slice none 0 0), by rw [HX.out]; rfl, by rw [HX.out]; exact leaf_n rfl, bAl⟩
theorem rroot_any (v : Int) (w : World) : Calls Tryz.prog 27 #[.int .i64 v] w (RSpP (rootX v) w) := by
 by_cases h : v < 1 ∨ 3 < v
 ·exact rroot_no v h w
 ·have h2 : v = 1 ∨ v = 2 ∨ v = 3 := by omega
  rcases h2 with rfl | rfl | rfl
  ·exact rroot_1 w
  ·exact rroot_2 w
  ·exact rroot_3 w
section
attribute [local go_sem] Oper.semAt_some
theorem val_neq0 (a : NdD) (W : World) : (binOp .neq 24 (.agg #[.int .i64 a.kind, .int .u64 (a.num : Int), .string (txt a.text)]) (.agg #[.int .i64 0, .int .u64 0, .string ⟨#[]⟩])).run Tryz.prog W = .ok (.bool (!decide (a.kind = 0 ∧ a.num = 0 ∧ a.text = []))) W := by
 rw [show Value.string ⟨#[]⟩ = Value.string (txt []) from rfl, run_neq_struct, show (10000 : Nat) = 9999 + 1 from rfl, run_equalIn_agg W 9999 24 _ _ (by simp only [Program.fieldsOf, Tryz.underlying24]) (by kernel_rfl)]
 simp only [Program.fieldsOf, Tryz.underlying24]
 simp only [Op.eqFields]
 go_simp
 simp only [txt_toList]
 by_cases h1 : a.kind = 0 <;> by_cases h2 : a.num = 0 <;> by_cases h3 : a.text = [] <;> simp [h1, h2, h3]
theorem check_r (v : Int) (x : Nd) {sd : SpD} {sf : SpF} {er : Nat} (h : rootX v = ((sd, sf), er)) : CheckX v x = if er ≠ 0 then (er, []) else if rootB x = false then (1, []) else match insideX sf x.2 with
 | some b => b
 | none => RefsX x := by
 unfold CheckX
 rw [h]
 rfl
theorem rcheck10_any (v : Int) (a : NdD) (f : NdF) (A : Option Addr) (c : Nat) (w : World) (hrow : RowT w.heap.size w (.slice A f.len c) f) (hf : f.size ≤ 1000000) (hok : OkF f) :
  Calls Tryz.prog 21 #[.int .i64 v, .agg (cN a (.slice A f.len c))] w (FirstP (CheckX v (a, f)) w) := by
 have hx1 : Below w.heap.size w (w.alloc (.cells (cN a (.slice A f.len c)) 27)) := bAl
 have HX1 := hHd hx1
 have HBK := hHd (Blk.new w 27 (cN a (.slice A f.len c)))
 have HROW := hHd hrow
 have HSZ := hHd (And.intro hf hok)
 have HRT := hHd (rroot_any v (w.alloc (.cells (cN a (.slice A f.len c)) 27)))
 have HSO := hHd (root_ok v)
 obtain ⟨rx, hrx⟩ : ∃ rx, rx = rootX v := ⟨_, rfl⟩
 rw [← hrx] at HRT HSO
 obtain ⟨⟨sd, sf⟩, er⟩ := rx
 have HC := hHd (check_r v (a, f) hrx.symm)
 simp only at HSO HC
 clear hx1 hrow hf hok hrx
 go_enter Tryz.func21, Tryz.ntmps21
 go_wp2_with fail
 refine HRT.out.mono ?_
 rintro r w2 ⟨cs, rfl, hnew, hb2⟩
 have hsl : SpL w2.heap.size w2 cs (sd, sf) := FrN.kept stay_spc hnew (fun g _ => rfl) (fun g hg => hg.2) (fun g _ => rfl) (fun g hg => hg.2)
 obtain ⟨B0, m0, A0, c0, d0, rfl, -, -, -⟩ := SpN.shape (x := (sd, sf)) hsl
 have hvq : Below w.heap.size w (w2.alloc (.cells (cT sd.name sd.kind sd.typ sd.low sd.high sd.names sd.must sd.most B0 m0 A0 sf.len c0) 67)) := (HX1.out.trans (hb2.mono HX1.out.size)).alloc (Nat.le_trans HX1.out.size hb2.size) _
 have HVQ := hHd hvq
 have HNQ : Hid (Blk (w2.alloc (.cells (cT sd.name sd.kind sd.typ sd.low sd.high sd.names sd.must sd.most B0 m0 A0 sf.len c0) 67)) w.heap.size 27 (cN a (.slice A f.len c))) := hHd ((HBK.out.below hb2 HBK.out.lt).alloc _)
 have HSQ : Hid (SpL w2.heap.size (w2.alloc (.cells (cT sd.name sd.kind sd.typ sd.low sd.high sd.names sd.must sd.most B0 m0 A0 sf.len c0) 67)) ((cT sd.name sd.kind sd.typ sd.low sd.high sd.names sd.must sd.most B0 m0 A0 sf.len c0) : Array Value).toList (sd, sf) ∧ Blk (w2.alloc (.cells (cT sd.name sd.kind sd.typ sd.low sd.high sd.names sd.must sd.most B0 m0 A0 sf.len c0) 67)) w2.heap.size 67 (cT sd.name sd.kind sd.typ sd.low sd.high sd.names sd.must sd.most B0 m0 A0 sf.len c0)) := hHd ⟨hsl.keep (fun g hg => Below.heap_alloc _ _ _ hg) (Nat.le_refl _), Blk.new _ _ _⟩
 clear hnew hb2 hsl hvq HRT
 by_cases he : er = 0
 ·subst he
  have k1 : (((0 : Nat) : Int) != 0) = false := rfl
  have HCC : Hid (CheckX v (a, f) = if rootB (a, f) = false then (1, []) else match insideX sf f with | some b => b | none => RefsX (a, f)) := hHd (by rw [HC.out, if_neg (by simp)])
  have HRI := hHd (rright_any (a, f) _ (w2.alloc (.cells (cT sd.name sd.kind sd.typ sd.low sd.high sd.names sd.must sd.most B0 m0 A0 sf.len c0) 67)) (LieB.make (HROW.out.under HVQ.out (Nat.le_refl _) HVQ.out.size)) HSZ.out.1)
  unfold ndC at HRI
  obtain ⟨q0, q1, q2, q3, q4, q5⟩ := cl6 HNQ.out
  go_wp2_with fail
  refine HRI.out.mono ?_
  rintro r w3 ⟨rfl, hb3⟩
  have HB3 := hHd (HVQ.out.trans (hb3.mono HVQ.out.size))
  have HN3 := hHd (HNQ.out.below hb3 HNQ.out.lt)
  have HS3 : Hid (SpL w2.heap.size w3 ((cT sd.name sd.kind sd.typ sd.low sd.high sd.names sd.must sd.most B0 m0 A0 sf.len c0) : Array Value).toList (sd, sf) ∧ Blk w3 w2.heap.size 67 (cT sd.name sd.kind sd.typ sd.low sd.high sd.names sd.must sd.most B0 m0 A0 sf.len c0)) := hHd ⟨HSQ.out.1.keep (fun g hg => hb3.block g (Nat.lt_trans hg HSQ.out.2.lt)) (Nat.le_refl _), HSQ.out.2.below hb3 HSQ.out.2.lt⟩
  clear hb3 q0 q1 q2 q3 q4 q5
  obtain ⟨q0, q1, q2, q3, q4, q5⟩ := cl6 HN3.out
  cases hg : rgtX (a, f) with
  | false =>
   have HX : Hid (CheckX v (a, f) = (1, [])) := hHd (by rw [HCC.out, if_pos (by unfold rootB; rw [hg]; rfl)])
   clear hg
   go_wp2
   go_ret2
   rw [HX.out]
   exact ⟨_, rfl, WayV.nil _ _ _ _, HB3.out⟩
  | true =>
   have HRB := hHd (root_dec a f hg)
   clear hg
   have e3 := fun W => val_neq0 a W
   by_cases hn : a.name = []
   ·have e1 : ((txt a.name).toList == []) = true := by rw [txt_toList, hn]; rfl
    by_cases hk : a.key = []
    ·have e2 : ((txt a.key).toList == []) = true := by rw [txt_toList, hk]; rfl
     have HNK : Hid (decide (a.name = [] ∧ a.key = []) = true) := hHd (decide_eq_true ⟨hn, hk⟩)
     clear hn hk
     cases hz : decide (a.kind = 0 ∧ a.num = 0 ∧ a.text = []) with
     | false =>
      have HX : Hid (CheckX v (a, f) = (1, [])) := hHd (by rw [HCC.out, if_pos (by rw [HRB.out, HNK.out, hz]; rfl)])
      simp only [hz] at e3
      clear hz
      go_wp2
      go_ret2
      rw [HX.out]
      exact ⟨_, rfl, WayV.nil _ _ _ _, HB3.out⟩
     | true =>
      have HCD : Hid (CheckX v (a, f) = match insideX sf f with | some b => b | none => RefsX (a, f)) := hHd (by rw [HCC.out, if_neg (by rw [HRB.out, HNK.out, hz]; simp)])
      simp only [hz] at e3
      clear hz
      have HIN := hHd (rInP f (sd, sf) ((cT sd.name sd.kind sd.typ sd.low sd.high sd.names sd.must sd.most B0 m0 A0 sf.len c0) : Array Value).toList a A c [] (.slice none 0 0) w3 (HS3.out.1.keep (fun g _ => rfl) (Nat.le_of_lt HS3.out.2.lt)) HSO.out.1 HSO.out.2 (HROW.out.under HB3.out (Nat.le_refl _) HB3.out.size) (WayV.nil _ _ _ _) (by have := HSZ.out.1; simpa using this) HSZ.out.2)
      have HRW := hHd (HROW.out.under HB3.out (Nat.le_refl _) HB3.out.size)
      obtain ⟨y0, y1, y2, y3, y4, y5, y6, y7, y8⟩ := cl9 HS3.out.2
      obtain ⟨oo, hoo⟩ : ∃ oo, oo = insideX sf f := ⟨_, rfl⟩
      simp only at HIN
      rw [← hoo] at HIN HCD
      go_wp2_with fail
      refine HIN.out.mono ?_
      rintro r w4 ⟨v4, rfl, hv4, hb4⟩
      have HB4 := hHd (HB3.out.trans (hb4.mono HB3.out.size))
      have HN4 := hHd (HN3.out.below hb4 HN3.out.lt)
      have HV4 := hHd hv4
      have HR4 := hHd (HRW.out.below hb4)
      clear hb4 hv4 y0 y1 y2 y3 y4 y5 y6 y7 y8 q0 q1 q2 q3 q4 q5
      cases oo with
      | some bb =>
       have k2 : ((bb.1 : Int) != 0) = true := by
        have h := (scan_err (show scanF f sf (zeros sf) = some bb from hoo.symm)).1
        unfold bne
        rw [beq_eq_false_iff_ne.2 (by omega)]
        rfl
       have HX : Hid (CheckX v (a, f) = bb) := hHd (by rw [HCD.out])
       clear hoo
       unfold wayO
       simp only
       go_wp2
       go_ret2
       rw [HX.out]
       exact ⟨_, rfl, HV4.out, HB4.out⟩
      | none =>
       have HX : Hid (CheckX v (a, f) = RefsX (a, f)) := hHd (by rw [HCD.out])
       clear hoo
       unfold wayO
       simp only
       obtain ⟨q0, q1, q2, q3, q4, q5⟩ := cl6 HN4.out
       go_wp2_with fail
       refine (rrefs10_any a f A c _ HR4.out HSZ.out.1).mono ?_
       rintro r w5 ⟨v5, rfl, hv5, hb5⟩
       have HV5 := hHd hv5
       have HB5 := hHd (HB4.out.trans (hb5.mono HB4.out.size))
       clear hv5 hb5 q0 q1 q2 q3 q4 q5
       go_wp2
       go_ret2
       rw [HX.out]
       exact ⟨_, rfl, HV5.out, HB5.out⟩
    ·have e2 : ((txt a.key).toList == []) = false := by rw [txt_toList]; exact beq_eq_false_iff_ne.2 hk
     have HX : Hid (CheckX v (a, f) = (1, [])) := hHd (by rw [HCC.out, if_pos (by rw [HRB.out, decide_eq_false (fun h => hk h.2)]; rfl)])
     clear hn hk
     go_wp2
     go_ret2
     rw [HX.out]
     exact ⟨_, rfl, WayV.nil _ _ _ _, HB3.out⟩
   ·have e1 : ((txt a.name).toList == []) = false := by rw [txt_toList]; exact beq_eq_false_iff_ne.2 hn
    have HX : Hid (CheckX v (a, f) = (1, [])) := hHd (by rw [HCC.out, if_pos (by rw [HRB.out, decide_eq_false (fun h => hn h.1)]; rfl)])
    clear hn
    go_wp2
    go_ret2
    rw [HX.out]
    exact ⟨_, rfl, WayV.nil _ _ _ _, HB3.out⟩
 ·have k1 : ((er : Int) != 0) = true := by unfold bne; rw [beq_eq_false_iff_ne.2 (by omega)]; rfl
  have HX : Hid (CheckX v (a, f) = (er, [])) := hHd (by rw [HC.out, if_pos he])
  clear he
  go_wp2
  go_ret2
  rw [HX.out]
  exact ⟨_, rfl, WayV.nil _ _ _ _, HVQ.out⟩
end
theorem dt_len {d : SpD} {a : NdD} (h : OkD a) : (dtW d a).length ≤ 1048576 := by
 unfold dtW
 split
 ·unfold dataX
  split
  ·simp
  ·split
   ·have h1 : (leastB (vlOf a).num).length ≤ 8 := by
     unfold leastB
     rw [bigB_length]
     exact (lenB_spec 8 (vlOf a).num (by have := h.num; exact Nat.lt_of_lt_of_le this (by decide))).2.2
    omega
   ·split
    ·simp
    ·split
     ·simp
     ·exact h.text
 ·simp
def wsW : SpF → Nat
 | .nil => 0
 | .cons _ s r => (2097154 + wsW s) + wsW r
theorem sz_coll (g : NdF → Fo) (d : SpD) (tag m : Nat) (hg : ∀ k, OkF k → (g k).sz ≤ m * k.size) (f : NdF) (hf : OkF f) : (collW g d tag f).sz ≤ (2097154 + m) * f.size := by
 induction f with
 | nil => exact Nat.zero_le _
 | cons a k r _ ih =>
  have ih' := ih hf.2.2
  have h2 : (2097154 + m) * (k.size + r.size + 1) = (2097154 + m) * k.size + (2097154 + m) * r.size + (2097154 + m) := by rw [Nat.mul_add, Nat.mul_add, Nat.mul_one]
  have h3 : (2097154 + m) * k.size = 2097154 * k.size + m * k.size := Nat.add_mul _ _ _
  have h4 := hg k hf.2.1
  have h5 := dt_len (d := d) hf.1
  have h6 := hf.1.key
  simp only [collW, Fr.size]
  split
  ·have h7 : (kdW g d a k).sz ≤ 1 + 1048576 + m * k.size := by
    unfold kdW
    split
    ·exact Nat.zero_le _
    ·split
     ·simp only [Fo.sz]; omega
     ·omega
   simp only [Fo.sz]
   omega
  ·omega
theorem sz_it (s : SpF) : ∀ (i : Nat) (f : NdF), OkF f → (itF s i f).sz ≤ wsW s * f.size := by
 induction s with
 | nil => intro i f _; simp [itF, Fo.sz]
 | cons d k r ihk ihr =>
  intro i f hf
  simp only [itF, Fo.sz_app, wsW, Nat.add_mul (2097154 + wsW k)]
  have h1 := sz_coll (fun x => itF k 0 x) d (tgW d i) (wsW k) (fun x hx => ihk 0 x hx) f hf
  have h2 := ihr (i + 1) f hf
  omega
theorem ws_root (v : Int) : wsW (rootX v).1.2 ≤ 100000000 := by
 unfold rootX
 split
 ·decide
 ·rename_i h
  have h' : v = 1 ∨ v = 2 ∨ v = 3 := by omega
  rcases h' with rfl | rfl | rfl <;> decide
theorem sz_items (v : Int) (a : NdD) (f : NdF) (hf : OkF f) (hs : f.size ≤ 300) : (ItemsX v (a, f)).sz ≤ 1099511627776 := by
 unfold ItemsX
 split
 ·have h1 := sz_it (rootX v).1.2 0 f hf
  have h2 := Nat.mul_le_mul (ws_root v) hs
  exact Nat.le_trans (Nat.le_trans h1 h2) (by decide)
 ·exact Nat.zero_le _
theorem rmay10_any (v : Int) (a : NdD) (f : NdF) (A : Option Addr) (c : Nat) (w : World) (hrow : RowT w.heap.size w (.slice A f.len c) f) (hf : f.size ≤ 1000000) (hok : OkF f) :
  Calls Tryz.prog 15 #[.int .i64 v, .agg (cN a (.slice A f.len c))] w (Ans9 (.bool (MayX v (a, f))) w) := by
 have hx1 : Below w.heap.size w (w.alloc (.cells (cN a (.slice A f.len c)) 27)) := bAl
 have HBK := hHd (Blk.new w 27 (cN a (.slice A f.len c)))
 have HX1 := hHd hx1
 have HCK := hHd (rcheck10_any v a f A c (w.alloc (.cells (cN a (.slice A f.len c)) 27)) (hrow.under hx1 (Nat.le_refl _) hx1.size) hf hok)
 have HM : Hid (MayX v (a, f) = ((((CheckX v (a, f)).1 : Nat) : Int) == 0)) := hHd (by
  unfold MayX
  by_cases h : (CheckX v (a, f)).1 = 0
  ·rw [h]; rfl
  ·rw [decide_eq_false h]; exact (beq_eq_false_iff_ne.2 (by omega)).symm)
 clear hx1 hrow hf hok
 obtain ⟨q0, q1, q2, q3, q4, q5⟩ := cl6 HBK.out
 go_enter Tryz.func15, Tryz.ntmps15
 go_wp2_with fail
 refine HCK.out.mono ?_
 rintro r w3 ⟨vv, rfl, hv, hb3⟩
 obtain ⟨A3, c3, rfl⟩ := hv.shape
 have HB3 := hHd (HX1.out.trans (hb3.mono HX1.out.size))
 clear hv hb3 q0 q1 q2 q3 q4 q5
 go_wp2
 go_ret
 exact ⟨by rw [HM.out]; rfl, HB3.out⟩
theorem RItsP.from {F : Fo} {w W : World} {r : Ending} {w' : World} (h : RItsP F W r w') (hb : Below w.heap.size w W) : RItsP F w r w' := by
 obtain ⟨v, h1, h2, h3⟩ := h
 exact ⟨v, h1, h2.mono stays_R hb.size, hb.trans (h3.mono hb.size)⟩
theorem rItems_any (v : Int) (a : NdD) (f : NdF) (A : Option Addr) (c : Nat) (w : World) (hrow : RowT w.heap.size w (.slice A f.len c) f) (hf : f.size ≤ 1000000) (hok : OkF f) :
  Calls Tryz.prog 14 #[.int .i64 v, .agg (cN a (.slice A f.len c))] w (RItsP (ItemsX v (a, f)) w) := by
 have hal : Below w.heap.size w (w.alloc (.cells (cN a (.slice A f.len c)) 27)) := bAl
 have HN := hHd (Blk.new w 27 (cN a (.slice A f.len c)))
 have HB := hHd hal
 have HR := hHd (And.intro hrow (And.intro hf hok))
 have HM := hHd (rmay10_any v a f A c (w.alloc (.cells (cN a (.slice A f.len c)) 27)) (hrow.below hal) hf hok)
 have HX : Hid (ItemsX v (a, f) = if MayX v (a, f) = true then itF (rootX v).1.2 0 f else .nil) := hHd rfl
 obtain ⟨F, hF⟩ : ∃ F, F = ItemsX v (a, f) := ⟨_, rfl⟩
 rw [← hF] at HX ⊢
 obtain ⟨mb, hmb⟩ : ∃ b, b = MayX v (a, f) := ⟨_, rfl⟩
 rw [← hmb] at HM HX
 obtain ⟨p0, p1, p2, p3, p4, p5⟩ := cl6 HN.out
 clear hal hrow hf hok hF hmb
 go_enter Tryz.func14, Tryz.ntmps14
 go_wp2_with fail
 refine HM.out.mono ?_
 rintro r w2 ⟨rfl, hb2⟩
 have HB2 := hHd (HB.out.trans (hb2.mono HB.out.size))
 have HN2 := hHd (HN.out.below hb2 HN.out.lt)
 clear hb2 p0 p1 p2 p3 p4 p5
 cases mb with
 | false =>
  have HE : Hid (F = .nil) := hHd (by rw [HX.out]; rfl)
  obtain rfl := HE.out
  go_wp2
  go_ret
  exact ⟨_, rfl, OwnF.nil _ _, HB2.out⟩
 | true =>
  have HE : Hid (F = itF (rootX v).1.2 0 f) := hHd (by rw [HX.out]; rfl)
  clear HX
  have HRT := hHd (rroot_any v w2)
  have HRO := hHd (root_ok v)
  obtain ⟨rx, hrx⟩ : ∃ rx, rx = rootX v := ⟨_, rfl⟩
  rw [← hrx] at HRT HRO HE
  clear hrx
  obtain ⟨⟨⟨nm, kd, ty, lo, hi, ns, mu, mo⟩, sf⟩, er⟩ := rx
  go_wp2_with fail
  refine HRT.out.mono ?_
  rintro r w3 ⟨cs, rfl, hnew, hb3⟩
  have hsl : SpL w3.heap.size w3 cs (⟨nm, kd, ty, lo, hi, ns, mu, mo⟩, sf) := FrN.kept stay_spc hnew (fun _ _ => rfl) (fun _ hg => hg.2) (fun _ _ => rfl) (fun _ hg => hg.2)
  obtain ⟨B0, m0, A0, c0, d0, rfl, -, -, -⟩ := SpN.shape (x := (⟨nm, kd, ty, lo, hi, ns, mu, mo⟩, sf)) hsl
  have hb4 : Below w3.heap.size w3 (w3.alloc (.cells (cT nm kd ty lo hi ns mu mo B0 m0 A0 sf.len c0) 67)) := bAl
  have HB4 := hHd ((HB2.out.trans (hb3.mono HB2.out.size)).trans (hb4.mono (HB2.out.trans (hb3.mono HB2.out.size)).size))
  have HN4 := hHd ((HN2.out.below hb3 HN2.out.lt).below hb4 (Nat.lt_of_lt_of_le HN2.out.lt hb3.size))
  have HI := hHd (ritems_any sf ⟨nm, kd, ty, lo, hi, ns, mu, mo⟩ (cT nm kd ty lo hi ns mu mo B0 m0 A0 sf.len c0).toList a f A c (w3.alloc (.cells (cT nm kd ty lo hi ns mu mo B0 m0 A0 sf.len c0) 67)) (hsl.keep (fun g hg => hb4.block g hg) hb4.size) HRO.out.1 HRO.out.2 (HR.out.1.below HB4.out) HR.out.2.1 HR.out.2.2)
  have HRB := hHd (Blk.new w3 67 (cT nm kd ty lo hi ns mu mo B0 m0 A0 sf.len c0))
  obtain ⟨q0, q1, q2, q3, q4, q5, q6, q7, q8⟩ := cl9 HRB.out
  obtain ⟨p0, p1, p2, p3, p4, p5⟩ := cl6 HN4.out
  clear hnew hb3 hsl hb4 HRT
  go_wp2_with fail
  refine HI.out.mono ?_
  intro r w5 hp
  obtain ⟨u, rfl, hu⟩ := hp.from HB4.out
  have HU := hHd hu
  clear hp hu q0 q1 q2 q3 q4 q5 q6 q7 q8 p0 p1 p2 p3 p4 p5
  go_wp2
  go_ret
  refine ⟨u, rfl, ?_⟩
  rw [HE.out]
  exact HU.out
def bytX (v : Int) (x : Nd) : List UInt8 × Nat := if (CheckX v x).1 = 0 then (if (ItemsX v x).all.length ≤ 8192 then (encV 9 v.toNat ++ (ItemsX v x).all, 0) else ([], 14)) else ([], (CheckX v x).1)
theorem rBytes_any (v : Int) (a : NdD) (f : NdF) (A : Option Addr) (c : Nat) (w : World) (hrow : RowT w.heap.size w (.slice A f.len c) f) (hf : f.size ≤ 299) (hok : OkF f) :
  Calls Tryz.prog 10 #[.int .i64 v, .agg (cN a (.slice A f.len c))] w (AnsP (.tuple #[.string (txt (bytX v (a, f)).1), .int .i64 ((bytX v (a, f)).2 : Int)]) w) := by
 have hal : Below w.heap.size w (w.alloc (.cells (cN a (.slice A f.len c)) 27)) := bAl
 have HN := hHd (Blk.new w 27 (cN a (.slice A f.len c)))
 have HB := hHd hal
 have HC := hHd (rcheck10_any v a f A c (w.alloc (.cells (cN a (.slice A f.len c)) 27)) (hrow.below hal) (by omega) hok)
 have HIT : Hid (∀ W, Below w.heap.size w W → Calls Tryz.prog 14 #[.int .i64 v, .agg (cN a (.slice A f.len c))] W (RItsP (ItemsX v (a, f)) W)) := hHd (fun W hW => rItems_any v a f A c W (hrow.below hW) (by omega) hok)
 have hmv := @may_ver v (a, f)
 have HFS := hHd (sz_items v a f hok (by omega))
 have HRI := hHd (right_items v (a, f))
 unfold bytX
 obtain ⟨⟨er, way⟩, hb⟩ : ∃ b, b = CheckX v (a, f) := ⟨_, rfl⟩
 rw [← hb] at HC hmv ⊢
 simp only at hmv ⊢
 obtain ⟨F, hFe⟩ : ∃ F, F = ItemsX v (a, f) := ⟨_, rfl⟩
 rw [← hFe] at HIT HFS HRI ⊢
 obtain ⟨p0, p1, p2, p3, p4, p5⟩ := cl6 HN.out
 clear hal hrow hf hok hb hFe
 by_cases he : er = 0
 ·subst he
  have hv3 := hmv rfl
  rw [if_pos rfl]
  obtain ⟨ver, rfl⟩ : ∃ n : Nat, v = (n : Int) := ⟨v.toNat, by omega⟩
  have HPT : Hid (∀ W, Calls Tryz.prog 23 #[.int .u64 (ver : Int)] W (RPutPost 9 ver W)) := hHd (fun W => rput_any 9 (by omega) ver W (Nat.lt_trans (show ver < 128 by omega) (by decide)) (by omega))
  have i1 : (0 : Int) ≤ (ver : Int) := by omega
  have i2 : (ver : Int) ≤ 3 := by omega
  rw [show ((ver : Nat) : Int).toNat = ver from rfl]
  clear hmv hv3
  by_cases hl : F.all.length ≤ 8192
  ·have hok4 : putOut F = .returned (.tuple #[.string (txt F.all), .int .i64 0]) := by
    unfold putOut Fo.ok
    rw [HRI.out, decide_eq_true hl]
    rfl
   have HPU : Hid (∀ W u, FV DataR W (Lo W) u F → Calls Tryz.prog 22 #[u] W (fun r w' => r = .returned (.tuple #[.string (txt F.all), .int .i64 0]) ∧ Below W.heap.size W w')) := hHd (fun W u hu => (rput3_any F W u hu HFS.out).mono fun r w' h => ⟨h.1.trans hok4, h.2⟩)
   rw [if_pos hl]
   obtain ⟨L, hL⟩ : ∃ L, L = F.all := ⟨_, rfl⟩
   rw [← hL] at HPU ⊢
   obtain ⟨E, hE⟩ : ∃ E, E = encV 9 ver := ⟨_, rfl⟩
   unfold RPutPost at HPT
   rw [← hE] at HPT ⊢
   have HCL : Hid (¬ 9223372036854775807 < E.length + L.length) := hHd (by have h1 := (encV_length 9 ver).2; rw [← hE] at h1; rw [← hL] at hl; omega)
   clear hok4 hl hL hE
   go_enter Tryz.func10, Tryz.ntmps10
   go_wp2_with fail
   refine HC.out.mono ?_
   rintro r w2 ⟨v2, rfl, hv2, hb2⟩
   have HB2 := hHd (HB.out.trans (hb2.mono HB.out.size))
   have HN2 := hHd (HN.out.below hb2 HN.out.lt)
   obtain ⟨A2, c2, rfl⟩ := hv2.shape
   clear hb2 hv2 p0 p1 p2 p3 p4 p5
   obtain ⟨p0, p1, p2, p3, p4, p5⟩ := cl6 HN2.out
   go_wp2_with fail
   refine (HIT.out _ HB2.out).mono ?_
   intro r w3 hp
   obtain ⟨u3, rfl, hu3, hb3⟩ := hp
   have HB3 := hHd (HB2.out.trans (hb3.mono HB2.out.size))
   have HE := hHd (HPU.out w3 u3 ((hu3.fv stays_R).kept stays_R (fun _ _ => rfl) (fun _ hg => hg.2)))
   clear hb3 hu3 p0 p1 p2 p3 p4 p5
   go_wp2_with fail
   refine HE.out.mono ?_
   rintro r w4 ⟨rfl, hb4⟩
   have HB4 := hHd (HB3.out.trans (hb4.mono HB3.out.size))
   clear hb4
   go_wp2_with fail
   refine (HPT.out _).mono ?_
   rintro r w5 ⟨rfl, hb5⟩
   have HB5 := hHd (HB4.out.trans (hb5.mono HB4.out.size))
   clear hb5
   have x1 : txt E ++ txt L = txt (E ++ L) := txt_append E L
   have s1 := txt_size E
   have s2 := txt_size L
   have c1 := HCL.out
   go_wp2
   go_ret2
   exact ⟨rfl, HB5.out⟩
  ·have hok4 : putOut F = .returned (.tuple #[.string ⟨#[]⟩, .int .i64 1]) := by
    unfold putOut Fo.ok
    rw [HRI.out, decide_eq_false hl]
    rfl
   have HPU : Hid (∀ W u, FV DataR W (Lo W) u F → Calls Tryz.prog 22 #[u] W (fun r w' => r = .returned (.tuple #[.string ⟨#[]⟩, .int .i64 1]) ∧ Below W.heap.size W w')) := hHd (fun W u hu => (rput3_any F W u hu HFS.out).mono fun r w' h => ⟨h.1.trans hok4, h.2⟩)
   rw [if_neg hl]
   clear hok4 hl HPT
   go_enter Tryz.func10, Tryz.ntmps10
   go_wp2_with fail
   refine HC.out.mono ?_
   rintro r w2 ⟨v2, rfl, hv2, hb2⟩
   have HB2 := hHd (HB.out.trans (hb2.mono HB.out.size))
   have HN2 := hHd (HN.out.below hb2 HN.out.lt)
   obtain ⟨A2, c2, rfl⟩ := hv2.shape
   clear hb2 hv2 p0 p1 p2 p3 p4 p5
   obtain ⟨p0, p1, p2, p3, p4, p5⟩ := cl6 HN2.out
   go_wp2_with fail
   refine (HIT.out _ HB2.out).mono ?_
   intro r w3 hp
   obtain ⟨u3, rfl, hu3, hb3⟩ := hp
   have HB3 := hHd (HB2.out.trans (hb3.mono HB2.out.size))
   have HE := hHd (HPU.out w3 u3 ((hu3.fv stays_R).kept stays_R (fun _ _ => rfl) (fun _ hg => hg.2)))
   clear hb3 hu3 p0 p1 p2 p3 p4 p5
   go_wp2_with fail
   refine HE.out.mono ?_
   rintro r w4 ⟨rfl, hb4⟩
   have HB4 := hHd (HB3.out.trans (hb4.mono HB3.out.size))
   clear hb4
   go_wp2
   go_ret2
   exact ⟨rfl, HB4.out⟩
 ·rw [if_neg he]
  have n1 : ((er : Int) != 0) = true := by rw [bne_iff_ne]; omega
  have n2 : ((er : Int) == 0) = false := beq_eq_false_iff_ne.2 (by omega)
  clear HIT hmv he
  go_enter Tryz.func10, Tryz.ntmps10
  go_wp2_with fail
  refine HC.out.mono ?_
  rintro r w2 ⟨v2, rfl, hv2, hb2⟩
  have HB2 := hHd (HB.out.trans (hb2.mono HB.out.size))
  obtain ⟨A2, c2, rfl⟩ := hv2.shape
  clear hb2 hv2 p0 p1 p2 p3 p4 p5
  go_wp2
  go_ret2
  exact ⟨rfl, HB2.out⟩
theorem vbytX_any (v : Int) (a : NdD) (f : NdF) (A : Option Addr) (c : Nat) (w : World) (hrow : RowT w.heap.size w (.slice A f.len c) f) (hf : f.size ≤ 300) (hok : OkF f) :
  Calls Tryz.prog 9 #[.int .i64 v, .agg (cN a (.slice A f.len c))] w (fun r w' => ∃ u, r = .returned (.tuple #[u, .int .i64 ((bytX v (a, f)).2 : Int)]) ∧ Own w' w.heap.size u (bytX v (a, f)).1 ∧ Below w.heap.size w w') := by
 refine (vbytes_any v v.toNat a f A c w hrow (by omega) hok (fun h => ⟨sz_items v a f hok hf, by have := cnt_items v (a, f); simp only at this; omega, right_items v (a, f), by have := may_ver h; omega⟩)).mono fun r w' h => ?_
 unfold BytW at h
 unfold bytX
 by_cases h0 : (CheckX v (a, f)).1 = 0
 ·rw [if_pos h0] at h
  rw [if_pos h0]
  obtain ⟨u, h1, h2, h3⟩ := h
  by_cases hl : (ItemsX v (a, f)).all.length ≤ 8192
  ·rw [if_pos hl] at h1 h2
   rw [if_pos hl]
   exact ⟨u, h1, h2, h3⟩
  ·rw [if_neg hl] at h1 h2
   rw [if_neg hl]
   exact ⟨u, h1, h2, h3⟩
 ·rw [if_neg h0] at h
  rw [if_neg h0]
  exact ⟨_, h.1, Own.nil _ _, h.2⟩
theorem bytX_len (v : Int) (x : Nd) : (bytX v x).1.length ≤ 10000 := by
 unfold bytX
 split
 ·split
  ·rename_i h
   have := (encV_length 9 v.toNat).2
   rw [List.length_append]
   omega
  ·exact Nat.zero_le _
 ·exact Nat.zero_le _
theorem packTells_walk (v : Int) (a : NdD) (f : NdF) (A : Option Addr) (c : Nat) (w : World) (hrow : RowT w.heap.size w (.slice A f.len c) f) (hf : f.size ≤ 999990) (hok : OkF f) :
  Calls Tryz.prog 3 #[.int .i64 v, .agg (cN a (.slice A f.len c))] w (Ans9 (.bool true) w) := by
 have hx1 : Below w.heap.size w (w.alloc (.cells (cN a (.slice A f.len c)) 27)) := bAl
 have HAU := hHd (awake13_any (w.alloc (.cells (cN a (.slice A f.len c)) 27)))
 have HX1 := hHd hx1
 have HBK := hHd (Blk.new w 27 (cN a (.slice A f.len c)))
 have HROW := hHd (And.intro hrow (And.intro hf hok))
 clear hx1 hrow hf hok
 go_enter Tryz.func3, Tryz.ntmps3
 go_wp2_with fail
 refine HAU.out.mono ?_
 rintro r w1 ⟨rfl, hb1⟩
 have HB1 := hHd (HX1.out.trans (hb1.mono HX1.out.size))
 have HTx := hHd (HBK.out.below hb1 HBK.out.lt)
 clear hb1
 obtain ⟨p0, p1, p2, p3, p4, p5⟩ := cl6 HTx.out
 go_wp2_with fail
 refine (small13_any a f A c _ (HROW.out.1.under HB1.out (Nat.le_refl _) HB1.out.size) (by have := HROW.out.2.1; omega)).mono ?_
 rintro r w2 ⟨rfl, hb2⟩
 have HB2 := hHd (HB1.out.trans (hb2.mono HB1.out.size))
 have HTx := hHd (HTx.out.below hb2 HTx.out.lt)
 clear hb2 p0 p1 p2 p3 p4 p5
 cases hsm : decide (f.size + 1 ≤ 300) with
 | false =>
  clear hsm
  go_wp2
  go_ret
  exact ⟨rfl, HB2.out⟩
 | true =>
  have HS3 : Hid (f.size ≤ 299) := hHd (by have := of_decide_eq_true hsm; omega)
  have HLN := hHd (bytX_len v (a, f))
  have HVB := hHd (vbytX_any v a f A c w2 (HROW.out.1.under HB2.out (Nat.le_refl _) HB2.out.size) (by have := HS3.out; omega) HROW.out.2.2)
  have HRB : Hid (∀ W, Below w2.heap.size w2 W → Calls Tryz.prog 10 #[.int .i64 v, .agg (cN a (.slice A f.len c))] W (AnsP (.tuple #[.string (txt (bytX v (a, f)).1), .int .i64 ((bytX v (a, f)).2 : Int)]) W)) := hHd (fun W hW => rBytes_any v a f A c W (HROW.out.1.under (HB2.out.trans (hW.mono HB2.out.size)) (Nat.le_refl _) (HB2.out.trans (hW.mono HB2.out.size)).size) HS3.out HROW.out.2.2)
  have HIT0 : Hid (∀ W, Below w2.heap.size w2 W → Calls Tryz.prog 13 #[.int .i64 v, .agg (cN a (.slice A f.len c))] W (ItsP (ItemsX v (a, f)) W)) := hHd (fun W hW => vitems_any v a f A c W (HROW.out.1.under (HB2.out.trans (hW.mono HB2.out.size)) (Nat.le_refl _) (HB2.out.trans (hW.mono HB2.out.size)).size) (by have := HS3.out; omega) HROW.out.2.2)
  have HRI0 : Hid (∀ W, Below w2.heap.size w2 W → Calls Tryz.prog 14 #[.int .i64 v, .agg (cN a (.slice A f.len c))] W (RItsP (ItemsX v (a, f)) W)) := hHd (fun W hW => rItems_any v a f A c W (HROW.out.1.under (HB2.out.trans (hW.mono HB2.out.size)) (Nat.le_refl _) (HB2.out.trans (hW.mono HB2.out.size)).size) (by have := HS3.out; omega) HROW.out.2.2)
  have HSZ := hHd (sz_items v a f HROW.out.2.2 (by have := HS3.out; omega))
  obtain ⟨F, hF⟩ : ∃ F, F = ItemsX v (a, f) := ⟨_, rfl⟩
  rw [← hF] at HIT0 HRI0 HSZ
  obtain ⟨⟨L, E⟩, hLE⟩ : ∃ b, b = bytX v (a, f) := ⟨_, rfl⟩
  rw [← hLE] at HLN HVB HRB
  simp only at HLN HVB HRB
  clear hsm hF hLE
  obtain ⟨p0, p1, p2, p3, p4, p5⟩ := cl6 HTx.out
  go_wp2_with fail
  refine HVB.out.mono ?_
  rintro r w4 ⟨u4, rfl, ho4, hb4⟩
  have HC4 := hHd hb4
  have HB4 := hHd (HB2.out.trans (hb4.mono HB2.out.size))
  have HTx := hHd (HTx.out.below hb4 HTx.out.lt)
  have HR4 : Hid (∃ d, Rd w4 d u4 L) := hHd (by obtain ⟨d, _, h⟩ := ho4.rd' (by have := HLN.out; omega); exact ⟨d, h⟩)
  obtain ⟨A1, c1, hu4⟩ : ∃ A1 c1, u4 = .slice A1 L.length c1 := by obtain ⟨d, A', c', h, _⟩ := HR4.out; exact ⟨A', c', h⟩
  subst hu4
  clear ho4 hb4 HVB p0 p1 p2 p3 p4 p5
  obtain ⟨p0, p1, p2, p3, p4, p5⟩ := cl6 HTx.out
  go_wp2_with fail
  refine (HRB.out _ HC4.out).mono ?_
  rintro r w5 ⟨rfl, hb5⟩
  have HC5 := hHd (HC4.out.trans (hb5.mono HC4.out.size))
  have HB5 := hHd (HB4.out.trans (hb5.mono HB4.out.size))
  have HTx := hHd (HTx.out.below hb5 HTx.out.lt)
  obtain ⟨d4, hr4⟩ := HR4.out
  have HRR : Hid (∀ W, Below w5.heap.size w5 W → Rd W d4 (.slice A1 L.length c1) L) := hHd (fun W hW => (hr4.below' hb5).below' hW)
  have HIT : Hid (∀ W, Below w5.heap.size w5 W → Calls Tryz.prog 13 #[.int .i64 v, .agg (cN a (.slice A f.len c))] W (ItsP F W)) := hHd (fun W hW => HIT0.out W (HC5.out.trans (hW.mono HC5.out.size)))
  have HRI : Hid (∀ W, Below w5.heap.size w5 W → Calls Tryz.prog 14 #[.int .i64 v, .agg (cN a (.slice A f.len c))] W (RItsP F W)) := hHd (fun W hW => HRI0.out W (HC5.out.trans (hW.mono HC5.out.size)))
  have HWc : Hid (Below w5.heap.size w5 w5.drew) := hHd (Below.refl _ _).drew
  have tl : (txt L).toList = L := txt_toList _
  clear hr4 hb5 HR4 HIT0 HRI0 HRB p0 p1 p2 p3 p4 p5
  go_wp2_with fail
  refine wp_region_noPanic ?_
  refine wp_region_held_drew (S := fun _ => True) (by kernel_rfl) trivial (fun hS => ?_)
  refine held_more (S' := fun w' => Below w5.heap.size w5 w') (fun _ _ => trivial) _ _ _ _ ?_
  replace hS := HWc.out
  refine tkH 0 hS ?_
  refine tkH 1 hS ?_ (hy := fun w hSw => by obtain ⟨p0, p1, p2, p3, p4, p5⟩ := cl6 (HTx.out.below hSw HTx.out.lt); (go_simp <;> with_reducible rfl))
  refine tkH 4 hS ?_
  refine tkH 5 hS ?_ (hy := fun w hSw => by obtain ⟨p0, p1, p2, p3, p4, p5⟩ := cl6 (HTx.out.below hSw HTx.out.lt); (go_simp <;> with_reducible rfl))
  refine rdy1 2 fun K hK => ?_
  go_simp
  refine (HIT.out _ HWc.out).mono ?_
  rintro r w6 ⟨u6, rfl, hu6, hb6⟩
  obtain ⟨A6, c6, rfl⟩ := hu6.shape
  have HF6 : Hid (FV DataI w6 (Lo w6) (.slice A6 F.len c6) F) := hHd ((hu6.fv stays_I).kept stays_I (fun _ _ => rfl) (fun _ hg => hg.2))
  replace HWc := hHd (HWc.out.trans (hb6.mono HWc.out.size))
  clear hb6 hu6
  go_wp2_with fail
  refine hK.out _ _ ?sr_0 (fun hS => ?_)
  case sr_0 => (exact HWc.out)
  clear hK K
  (try simp only [Act.put, layS])
  refine rdy1 3 fun K hK => ?_
  go_simp
  refine (plain13_any F _ _ HF6.out HSZ.out).mono ?_
  rintro r w7 ⟨u7, rfl, hu7, hb7⟩
  obtain ⟨A7, c7, rfl⟩ := hu7.shape
  have HF7 : Hid (FV DataR w7 (Lo w7) (.slice A7 F.len c7) F) := hHd (hu7.kept stays_R (fun _ _ => rfl) (fun _ hg => hg.2))
  replace HWc := hHd (HWc.out.trans (hb7.mono HWc.out.size))
  clear hb7 hu7
  go_wp2_with fail
  refine hK.out _ _ ?sr_1 (fun hS => ?_)
  case sr_1 => (exact HWc.out)
  clear hK K
  (try simp only [Act.put, layS])
  refine rdy1 6 fun K hK => ?_
  go_simp
  refine (HRI.out _ HWc.out).mono ?_
  rintro r w8 ⟨u8, rfl, hu8, hb8⟩
  obtain ⟨A8, c8, rfl⟩ := hu8.shape
  have hsm := same_any F F w8 _ _ (HF7.out.kept stays_R (fun g hg => hb8.block g hg) (fun _ hg => Nat.lt_of_lt_of_le hg hb8.size)) ((hu8.fv stays_R).kept (w' := w8) (S' := Lo w8) stays_R (fun _ _ => rfl) (fun _ hg => hg.2)) HSZ.out
  unfold SamePost at hsm
  rw [decide_eq_true rfl] at hsm
  have HSM := hHd hsm
  replace HWc := hHd (HWc.out.trans (hb8.mono HWc.out.size))
  clear hb8 hu8 hsm
  go_wp2_with fail
  refine hK.out _ _ ?sr_2 (fun hS => ?_)
  case sr_2 => (exact HWc.out)
  clear hK K
  (try simp only [Act.put, layS])
  refine rdy1 7 fun K hK => ?_
  go_simp
  refine HSM.out.mono ?_
  rintro r w9 ⟨rfl, hb9⟩
  replace HWc := hHd (HWc.out.trans (hb9.mono HWc.out.size))
  clear hb9
  go_wp2_with fail
  refine hK.out _ _ ?sr_3 (fun hS => ?_)
  case sr_3 => (exact HWc.out)
  clear hK K
  (try simp only [Act.put, layS])
  refine tkH 8 hS ?_
  refine tkH 9 hS ?_
  refine tkH 10 hS ?_ (hy := fun w hSw => by have hc : (convert 30 9 _).run Tryz.prog _ = .ok (.string (txt L)) _ := str_of (HRR.out _ hSw); (go_simp <;> with_reducible rfl))
  refine tkH 11 hS ?_
  refine tkH 12 hS ?_
  refine tkH 13 hS ?_
  refine tkH 14 hS ?_
  refine tkH 15 hS ?_
  refine tkH 16 hS ?_
  refine tkH 17 hS ?_
  refine tkH 18 hS ?_
  refine tkH 19 hS ?_
  refine wpAnyH_done (by kernel_rfl) ?_ _
  refine NoPanic.normal ?_
  clear hS
  go_wp2
  go_ret
  exact ⟨rfl, HB5.out.trans (HWc.out.mono HB5.out.size)⟩
end Go.Proofs.YtodlhgflfcadmaaGreat
