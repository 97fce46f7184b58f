/- What PackParts stands on: VadRefG, PakSub, PakPln, Law13D. -/
import Derived.Test.YtodlhgflfcadmaaGreatPM0
import Derived.Test.YtodlhgflfcadmaaGreatPM5
import Derived.Test.YtodlhgflfcadmaaGreatPM42
import Derived.Test.YtodlhgflfcadmaaGreatPM44
import Derived.Test.YtodlhgflfcadmaaGreatPM4
import Derived.Test.YtodlhgflfcadmaaGreatPM16
import Derived.Test.YtodlhgflfcadmaaGreatPM39
import Derived.Test.YtodlhgflfcadmaaGreatPM32
import Derived.Test.YtodlhgflfcadmaaGreatPM34
set_option linter.unusedSimpArgs false
set_option linter.unusedVariables false
set_option maxRecDepth 100000
set_option maxHeartbeats 8000000
namespace Go.Proofs.YtodlhgflfcadmaaGreat
open Go.RowKit
section
attribute [local go_sem] Oper.semAt_some
theorem val_neq0 (a : NdD) (W : World) : (binOp .neq 24 (.agg #[.int .i64 a.kind, .int .u64 (a.num : Int), .string (txt a.text)]) (.agg #[.int .i64 0, .int .u64 0, .string ⟨#[]⟩])).run Tryz.prog W = .ok (.bool (!decide (a.kind = 0 ∧ a.num = 0 ∧ a.text = []))) W := by
 rw [show Value.string ⟨#[]⟩ = Value.string (txt []) from rfl, run_neq_struct, show (10000 : Nat) = 9999 + 1 from rfl, run_equalIn_agg W 9999 24 _ _ (by simp only [Program.fieldsOf, Tryz.underlying24]) (by kernel_rfl)]
 simp only [Program.fieldsOf, Tryz.underlying24]
 simp only [Op.eqFields]
 go_simp
 simp only [txt_toList]
 by_cases h1 : a.kind = 0 <;> by_cases h2 : a.num = 0 <;> by_cases h3 : a.text = [] <;> simp [h1, h2, h3]
theorem check_r (v : Int) (x : Nd) {sd : SpD} {sf : SpF} {er : Nat} (h : rootX v = ((sd, sf), er)) : CheckX v x = if er ≠ 0 then (er, []) else if rootB x = false then (1, []) else match insideX sf x.2 with
 | some b => b
 | none => RefsX x := by
 unfold CheckX
 rw [h]
 rfl
theorem rcheck10_any (v : Int) (a : NdD) (f : NdF) (A : Option Addr) (c : Nat) (w : World) (hrow : RowT w.heap.size w (.slice A f.len c) f) (hf : f.size ≤ 1000000) (hok : OkF f) :
  Calls Tryz.prog 21 #[.int .i64 v, .agg (cN a (.slice A f.len c))] w (FirstP (CheckX v (a, f)) w) := by
 have hx1 : Below w.heap.size w (w.alloc (.cells (cN a (.slice A f.len c)) 27)) := bAl
 have HX1 := hHd hx1
 have HBK := hHd (Blk.new w 27 (cN a (.slice A f.len c)))
 have HROW := hHd hrow
 have HSZ := hHd (And.intro hf hok)
 have HRT := hHd (rroot_any v (w.alloc (.cells (cN a (.slice A f.len c)) 27)))
 have HSO := hHd (root_ok v)
 obtain ⟨rx, hrx⟩ : ∃ rx, rx = rootX v := ⟨_, rfl⟩
 rw [← hrx] at HRT HSO
 obtain ⟨⟨sd, sf⟩, er⟩ := rx
 have HC := hHd (check_r v (a, f) hrx.symm)
 simp only at HSO HC
 clear hx1 hrow hf hok hrx
 go_enter Tryz.func21, Tryz.ntmps21
 go_wp2_with fail
 refine HRT.out.mono ?_
 rintro r w2 ⟨cs, rfl, hnew, hb2⟩
 have hsl : SpL w2.heap.size w2 cs (sd, sf) := FrN.kept stay_spc hnew (fun g _ => rfl) (fun g hg => hg.2) (fun g _ => rfl) (fun g hg => hg.2)
 obtain ⟨B0, m0, A0, c0, d0, rfl, -, -, -⟩ := SpN.shape (x := (sd, sf)) hsl
 have hvq : Below w.heap.size w (w2.alloc (.cells (cT sd.name sd.kind sd.typ sd.low sd.high sd.names sd.must sd.most B0 m0 A0 sf.len c0) 67)) := (HX1.out.trans (hb2.mono HX1.out.size)).alloc (Nat.le_trans HX1.out.size hb2.size) _
 have HVQ := hHd hvq
 have HNQ : Hid (Blk (w2.alloc (.cells (cT sd.name sd.kind sd.typ sd.low sd.high sd.names sd.must sd.most B0 m0 A0 sf.len c0) 67)) w.heap.size 27 (cN a (.slice A f.len c))) := hHd ((HBK.out.below hb2 HBK.out.lt).alloc _)
 have HSQ : Hid (SpL w2.heap.size (w2.alloc (.cells (cT sd.name sd.kind sd.typ sd.low sd.high sd.names sd.must sd.most B0 m0 A0 sf.len c0) 67)) ((cT sd.name sd.kind sd.typ sd.low sd.high sd.names sd.must sd.most B0 m0 A0 sf.len c0) : Array Value).toList (sd, sf) ∧ Blk (w2.alloc (.cells (cT sd.name sd.kind sd.typ sd.low sd.high sd.names sd.must sd.most B0 m0 A0 sf.len c0) 67)) w2.heap.size 67 (cT sd.name sd.kind sd.typ sd.low sd.high sd.names sd.must sd.most B0 m0 A0 sf.len c0)) := hHd ⟨hsl.keep (fun g hg => Below.heap_alloc _ _ _ hg) (Nat.le_refl _), Blk.new _ _ _⟩
 clear hnew hb2 hsl hvq HRT
 by_cases he : er = 0
 ·subst he
  have k1 : (((0 : Nat) : Int) != 0) = false := rfl
  have HCC : Hid (CheckX v (a, f) = if rootB (a, f) = false then (1, []) else match insideX sf f with | some b => b | none => RefsX (a, f)) := hHd (by rw [HC.out, if_neg (by simp)])
  have HRI := hHd (rright_any (a, f) _ (w2.alloc (.cells (cT sd.name sd.kind sd.typ sd.low sd.high sd.names sd.must sd.most B0 m0 A0 sf.len c0) 67)) (LieB.make (HROW.out.under HVQ.out (Nat.le_refl _) HVQ.out.size)) HSZ.out.1)
  unfold ndC at HRI
  obtain ⟨q0, q1, q2, q3, q4, q5⟩ := cl6 HNQ.out
  go_wp2_with fail
  refine HRI.out.mono ?_
  rintro r w3 ⟨rfl, hb3⟩
  have HB3 := hHd (HVQ.out.trans (hb3.mono HVQ.out.size))
  have HN3 := hHd (HNQ.out.below hb3 HNQ.out.lt)
  have HS3 : Hid (SpL w2.heap.size w3 ((cT sd.name sd.kind sd.typ sd.low sd.high sd.names sd.must sd.most B0 m0 A0 sf.len c0) : Array Value).toList (sd, sf) ∧ Blk w3 w2.heap.size 67 (cT sd.name sd.kind sd.typ sd.low sd.high sd.names sd.must sd.most B0 m0 A0 sf.len c0)) := hHd ⟨HSQ.out.1.keep (fun g hg => hb3.block g (Nat.lt_trans hg HSQ.out.2.lt)) (Nat.le_refl _), HSQ.out.2.below hb3 HSQ.out.2.lt⟩
  clear hb3 q0 q1 q2 q3 q4 q5
  obtain ⟨q0, q1, q2, q3, q4, q5⟩ := cl6 HN3.out
  cases hg : rgtX (a, f) with
  | false =>
   have HX : Hid (CheckX v (a, f) = (1, [])) := hHd (by rw [HCC.out, if_pos (by unfold rootB; rw [hg]; rfl)])
   clear hg
   go_wp2
   go_ret2
   rw [HX.out]
   exact ⟨_, rfl, WayV.nil _ _ _ _, HB3.out⟩
  | true =>
   have HRB := hHd (root_dec a f hg)
   clear hg
   have e3 := fun W => val_neq0 a W
   by_cases hn : a.name = []
   ·have e1 : ((txt a.name).toList == []) = true := by rw [txt_toList, hn]; rfl
    by_cases hk : a.key = []
    ·have e2 : ((txt a.key).toList == []) = true := by rw [txt_toList, hk]; rfl
     have HNK : Hid (decide (a.name = [] ∧ a.key = []) = true) := hHd (decide_eq_true ⟨hn, hk⟩)
     clear hn hk
     cases hz : decide (a.kind = 0 ∧ a.num = 0 ∧ a.text = []) with
     | false =>
      have HX : Hid (CheckX v (a, f) = (1, [])) := hHd (by rw [HCC.out, if_pos (by rw [HRB.out, HNK.out, hz]; rfl)])
      simp only [hz] at e3
      clear hz
      go_wp2
      go_ret2
      rw [HX.out]
      exact ⟨_, rfl, WayV.nil _ _ _ _, HB3.out⟩
     | true =>
      have HCD : Hid (CheckX v (a, f) = match insideX sf f with | some b => b | none => RefsX (a, f)) := hHd (by rw [HCC.out, if_neg (by rw [HRB.out, HNK.out, hz]; simp)])
      simp only [hz] at e3
      clear hz
      have HIN := hHd (rInP f (sd, sf) ((cT sd.name sd.kind sd.typ sd.low sd.high sd.names sd.must sd.most B0 m0 A0 sf.len c0) : Array Value).toList a A c [] (.slice none 0 0) w3 (HS3.out.1.keep (fun g _ => rfl) (Nat.le_of_lt HS3.out.2.lt)) HSO.out.1 HSO.out.2 (HROW.out.under HB3.out (Nat.le_refl _) HB3.out.size) (WayV.nil _ _ _ _) (by have := HSZ.out.1; simpa using this) HSZ.out.2)
      have HRW := hHd (HROW.out.under HB3.out (Nat.le_refl _) HB3.out.size)
      obtain ⟨y0, y1, y2, y3, y4, y5, y6, y7, y8⟩ := cl9 HS3.out.2
      obtain ⟨oo, hoo⟩ : ∃ oo, oo = insideX sf f := ⟨_, rfl⟩
      simp only at HIN
      rw [← hoo] at HIN HCD
      go_wp2_with fail
      refine HIN.out.mono ?_
      rintro r w4 ⟨v4, rfl, hv4, hb4⟩
      have HB4 := hHd (HB3.out.trans (hb4.mono HB3.out.size))
      have HN4 := hHd (HN3.out.below hb4 HN3.out.lt)
      have HV4 := hHd hv4
      have HR4 := hHd (HRW.out.below hb4)
      clear hb4 hv4 y0 y1 y2 y3 y4 y5 y6 y7 y8 q0 q1 q2 q3 q4 q5
      cases oo with
      | some bb =>
       have k2 : ((bb.1 : Int) != 0) = true := by
        have h := (scan_err (show scanF f sf (zeros sf) = some bb from hoo.symm)).1
        unfold bne
        rw [beq_eq_false_iff_ne.2 (by omega)]
        rfl
       have HX : Hid (CheckX v (a, f) = bb) := hHd (by rw [HCD.out])
       clear hoo
       unfold wayO
       simp only
       go_wp2
       go_ret2
       rw [HX.out]
       exact ⟨_, rfl, HV4.out, HB4.out⟩
      | none =>
       have HX : Hid (CheckX v (a, f) = RefsX (a, f)) := hHd (by rw [HCD.out])
       clear hoo
       unfold wayO
       simp only
       obtain ⟨q0, q1, q2, q3, q4, q5⟩ := cl6 HN4.out
       go_wp2_with fail
       refine (rrefs10_any a f A c _ HR4.out HSZ.out.1).mono ?_
       rintro r w5 ⟨v5, rfl, hv5, hb5⟩
       have HV5 := hHd hv5
       have HB5 := hHd (HB4.out.trans (hb5.mono HB4.out.size))
       clear hv5 hb5 q0 q1 q2 q3 q4 q5
       go_wp2
       go_ret2
       rw [HX.out]
       exact ⟨_, rfl, HV5.out, HB5.out⟩
    ·have e2 : ((txt a.key).toList == []) = false := by rw [txt_toList]; exact beq_eq_false_iff_ne.2 hk
     have HX : Hid (CheckX v (a, f) = (1, [])) := hHd (by rw [HCC.out, if_pos (by rw [HRB.out, decide_eq_false (fun h => hk h.2)]; rfl)])
     clear hn hk
     go_wp2
     go_ret2
     rw [HX.out]
     exact ⟨_, rfl, WayV.nil _ _ _ _, HB3.out⟩
   ·have e1 : ((txt a.name).toList == []) = false := by rw [txt_toList]; exact beq_eq_false_iff_ne.2 hn
    have HX : Hid (CheckX v (a, f) = (1, [])) := hHd (by rw [HCC.out, if_pos (by rw [HRB.out, decide_eq_false (fun h => hn h.1)]; rfl)])
    clear hn
    go_wp2
    go_ret2
    rw [HX.out]
    exact ⟨_, rfl, WayV.nil _ _ _ _, HB3.out⟩
 ·have k1 : ((er : Int) != 0) = true := by unfold bne; rw [beq_eq_false_iff_ne.2 (by omega)]; rfl
  have HX : Hid (CheckX v (a, f) = (er, [])) := hHd (by rw [HC.out, if_pos he])
  clear he
  go_wp2
  go_ret2
  rw [HX.out]
  exact ⟨_, rfl, WayV.nil _ _ _ _, HVQ.out⟩
end
theorem RowT.sub1 {b : Nat} {w : World} {g o c : Nat} {f : NdF} (h : RowT b w (.slice (some ⟨g, o, none⟩) f.len c) f) {i : Nat} {a : NdD} {k : NdF} (hi : f.get? i = some (a, k)) : RowT b w (.slice (some ⟨g, o + i * 6, none⟩) 1 (c - i)) (.cons a k .nil) := by
 have hlt := Fr.get_lt hi
 obtain ⟨A, c', e, h1, h2⟩ := h
 injection e with e1 e2 e3
 subst e1 e3
 obtain ⟨b', o', e, h3, h4⟩ := h2 (by omega)
 injection e with e
 injection e with e1 e2
 subst e1 e2
 have h7 := h4.drop i
 rw [(Fr.get_drop hi).1] at h7
 obtain ⟨⟨cs, g1, g2, g3, h8⟩, _⟩ := h7
 exact ⟨_, _, rfl, by have : (Fr.cons a k .nil : NdF).len = 1 := rfl; rw [this]; omega, fun _ => ⟨g, o + i * 6, rfl, h3, ⟨cs, g1, g2, g3, h8⟩, trivial⟩⟩
theorem FV.sub1 {D : World → (Nat → Prop) → Value → List UInt8 → Prop} {w : World} {S : Nat → Prop} {g o n c m : Nat} {F : Fo} {t : Nat} {d : List UInt8} {k : Fo} (h : FV D w S (.slice (some ⟨g, o, none⟩) n c) F) (hm : Fo.take 1 (Fo.drop m F) = .cons t d k .nil) : FV D w S (.slice (some ⟨g, o + m * 3, none⟩) 1 (c - m)) (.cons t d k .nil) := by
 have hlt := has_lt hm
 obtain ⟨A, c', e, h1, h2⟩ := h
 injection e with e1 e2 e3
 subst e1 e3
 obtain ⟨b', o', e, h3, h4⟩ := h2 (by omega)
 injection e with e
 injection e with e1 e2
 subst e1 e2
 have h7 := h4.drop m
 have hd : ∃ r, Fo.drop m F = .cons t d k r := by
  cases hx : Fo.drop m F with
  | nil => rw [hx] at hm; simp [Fo.take] at hm
  | cons t' d' k' r =>
   rw [hx] at hm
   simp only [Fo.take] at hm
   injection hm with e1 e2 e3 _
   subst e1 e2 e3
   exact ⟨r, rfl⟩
 obtain ⟨r, hd⟩ := hd
 rw [hd] at h7
 obtain ⟨g1, g2, g3, g4, _⟩ := h7
 exact ⟨_, _, rfl, by have : (Fo.cons t d k .nil).len = 1 := rfl; rw [this]; omega, fun _ => ⟨g, o + m * 3, rfl, h3, g1, g2, g3, g4, trivial⟩⟩
theorem take_one {F : Fo} {m : Nat} (h : m < F.len) : ∃ t d k, Fo.take 1 (Fo.drop m F) = .cons t d k .nil := by
 obtain ⟨t, d, k, h1, _⟩ := Fo.drop_cons h
 rw [h1]
 exact ⟨t, d, k, rfl⟩
theorem dt_len {d : SpD} {a : NdD} (h : OkD a) : (dtW d a).length ≤ 1048576 := by
 unfold dtW
 split
 ·unfold dataX
  split
  ·simp
  ·split
   ·have h1 : (leastB (vlOf a).num).length ≤ 8 := by
     unfold leastB
     rw [bigB_length]
     exact (lenB_spec 8 (vlOf a).num (by have := h.num; exact Nat.lt_of_lt_of_le this (by decide))).2.2
    omega
   ·split
    ·simp
    ·split
     ·simp
     ·exact h.text
 ·simp
def wsW : SpF → Nat
 | .nil => 0
 | .cons _ s r => (2097154 + wsW s) + wsW r
theorem sz_coll (g : NdF → Fo) (d : SpD) (tag m : Nat) (hg : ∀ k, OkF k → (g k).sz ≤ m * k.size) (f : NdF) (hf : OkF f) : (collW g d tag f).sz ≤ (2097154 + m) * f.size := by
 induction f with
 | nil => exact Nat.zero_le _
 | cons a k r _ ih =>
  have ih' := ih hf.2.2
  have h2 : (2097154 + m) * (k.size + r.size + 1) = (2097154 + m) * k.size + (2097154 + m) * r.size + (2097154 + m) := by rw [Nat.mul_add, Nat.mul_add, Nat.mul_one]
  have h3 : (2097154 + m) * k.size = 2097154 * k.size + m * k.size := Nat.add_mul _ _ _
  have h4 := hg k hf.2.1
  have h5 := dt_len (d := d) hf.1
  have h6 := hf.1.key
  simp only [collW, Fr.size]
  split
  ·have h7 : (kdW g d a k).sz ≤ 1 + 1048576 + m * k.size := by
    unfold kdW
    split
    ·exact Nat.zero_le _
    ·split
     ·simp only [Fo.sz]; omega
     ·omega
   simp only [Fo.sz]
   omega
  ·omega
theorem sz_it (s : SpF) : ∀ (i : Nat) (f : NdF), OkF f → (itF s i f).sz ≤ wsW s * f.size := by
 induction s with
 | nil => intro i f _; simp [itF, Fo.sz]
 | cons d k r ihk ihr =>
  intro i f hf
  simp only [itF, Fo.sz_app, wsW, Nat.add_mul (2097154 + wsW k)]
  have h1 := sz_coll (fun x => itF k 0 x) d (tgW d i) (wsW k) (fun x hx => ihk 0 x hx) f hf
  have h2 := ihr (i + 1) f hf
  omega
theorem ws_root (v : Int) : wsW (rootX v).1.2 ≤ 100000000 := by
 unfold rootX
 split
 ·decide
 ·rename_i h
  have h' : v = 1 ∨ v = 2 ∨ v = 3 := by omega
  rcases h' with rfl | rfl | rfl <;> decide
theorem sz_items (v : Int) (a : NdD) (f : NdF) (hf : OkF f) (hs : f.size ≤ 300) : (ItemsX v (a, f)).sz ≤ 1099511627776 := by
 unfold ItemsX
 split
 ·have h1 := sz_it (rootX v).1.2 0 f hf
  have h2 := Nat.mul_le_mul (ws_root v) hs
  exact Nat.le_trans (Nat.le_trans h1 h2) (by decide)
 ·exact Nat.zero_le _
theorem rmay10_any (v : Int) (a : NdD) (f : NdF) (A : Option Addr) (c : Nat) (w : World) (hrow : RowT w.heap.size w (.slice A f.len c) f) (hf : f.size ≤ 1000000) (hok : OkF f) :
  Calls Tryz.prog 15 #[.int .i64 v, .agg (cN a (.slice A f.len c))] w (Ans9 (.bool (MayX v (a, f))) w) := by
 have hx1 : Below w.heap.size w (w.alloc (.cells (cN a (.slice A f.len c)) 27)) := bAl
 have HBK := hHd (Blk.new w 27 (cN a (.slice A f.len c)))
 have HX1 := hHd hx1
 have HCK := hHd (rcheck10_any v a f A c (w.alloc (.cells (cN a (.slice A f.len c)) 27)) (hrow.under hx1 (Nat.le_refl _) hx1.size) hf hok)
 have HM : Hid (MayX v (a, f) = ((((CheckX v (a, f)).1 : Nat) : Int) == 0)) := hHd (by
  unfold MayX
  by_cases h : (CheckX v (a, f)).1 = 0
  ·rw [h]; rfl
  ·rw [decide_eq_false h]; exact (beq_eq_false_iff_ne.2 (by omega)).symm)
 clear hx1 hrow hf hok
 obtain ⟨q0, q1, q2, q3, q4, q5⟩ := cl6 HBK.out
 go_enter Tryz.func15, Tryz.ntmps15
 go_wp2_with fail
 refine HCK.out.mono ?_
 rintro r w3 ⟨vv, rfl, hv, hb3⟩
 obtain ⟨A3, c3, rfl⟩ := hv.shape
 have HB3 := hHd (HX1.out.trans (hb3.mono HX1.out.size))
 clear hv hb3 q0 q1 q2 q3 q4 q5
 go_wp2
 go_ret
 exact ⟨by rw [HM.out]; rfl, HB3.out⟩
section
attribute [local go_sem ↓] Go.wp_at_zero Go.wp_at_succ
theorem plain13_any (f : Fo) : ∀ (w : World) (v : Value), FV DataI w (Lo w) v f → f.sz ≤ 1099511627776 → Calls Tryz.prog 12 #[v] w (PlainPost f w) := by
 refine Fo.byKids (P := fun f => ∀ (w : World) (v : Value), FV DataI w (Lo w) v f → f.sz ≤ 1099511627776 → Calls Tryz.prog 12 #[v] w (PlainPost f w)) ?_ f
 clear f
 intro f hkids w v hv hsz
 obtain ⟨A, c, rfl⟩ := hv.shape
 have hws := f.wt_le_sz
 have hlw := f.len_le_wt
 have hlen40 : f.len ≤ 1099511627776 := by omega
 have HK : Hid (Fo.kidsAll (fun f => ∀ (w : World) (v : Value), FV DataI w (Lo w) v f → f.sz ≤ 1099511627776 → Calls Tryz.prog 12 #[v] w (PlainPost f w)) f) := hHd hkids
 clear hkids hws hlw
 go_enter Tryz.func12, Tryz.ntmps12
 go_wp2
 go_loopw [3, 4] (fun u i wr => ∃ (j : Nat), j ≤ f.len ∧ i = .int .i64 (j : Int) ∧ OwnF DataR 57 wr w.heap.size u (Fo.take j f) ∧ Below w.heap.size w wr) (fun _ i _ => f.len - (intOf i).toNat)
 case atStart => exact ⟨0, Nat.zero_le _, rfl, OwnF.nil _ _, Below.refl _ _⟩
 case round =>
  obtain ⟨j, hj, rfl, hown, hB⟩ := hrel
  by_cases hlt : j < f.len
  ·obtain ⟨b, o, c', t, d, k, hve, hcap, hS, hdr, htk, ht64, hc0, ⟨dv, hc1, db, hdv, hdS⟩, ⟨kv, hc2, hkv⟩⟩ := hv.at hlt
   injection hve with e1 e2 e3
   subst e1 e3
   have hSb : b < w.heap.size := hS
   obtain ⟨D, cd, rfl⟩ : ∃ D cd, dv = .slice D d.length cd := by obtain ⟨D, cd, e, _⟩ := hdv; exact ⟨D, cd, e⟩
   have hdrop : (Fo.drop j f).sz ≤ f.sz := by
    have h := Fo.sz_app (Fo.take j f) (Fo.drop j f)
    rw [Fo.take_app_drop] at h
    omega
   rw [hdr] at hdrop
   simp only [Fo.sz] at hdrop
   have hIH : ∀ (w : World) (v : Value), FV DataI w (Lo w) v k → k.sz ≤ 1099511627776 → Calls Tryz.prog 12 #[v] w (PlainPost k w) := by
    have h := Fo.kidsAll_drop j HK.out
    rw [hdr] at h
    exact h.1
   have HTK := hHd htk
   have hks40 : k.sz ≤ 1099511627776 := by omega
   have hBd := hB.drew
   have hC0 : wr.drew.cell? ⟨b, o + j * 3, none⟩ = some (.int .u64 (t : Int)) := (hBd.cell (p := ⟨b, o + j * 3, none⟩) hSb).trans hc0
   have hC1 : wr.drew.cell? ⟨b, o + j * 3 + 1, none⟩ = some (.slice D d.length cd) := (hBd.cell (p := ⟨b, o + j * 3 + 1, none⟩) hSb).trans hc1
   have hC2 : wr.drew.cell? ⟨b, o + j * 3 + 2, none⟩ = some kv := (hBd.cell (p := ⟨b, o + j * 3 + 2, none⟩) hSb).trans hc2
   have hRd : Rd wr.drew db (.slice D d.length cd) d := hdv.keepS hdS hBd
   have HDS : Hid (0 < d.length → db < w.heap.size) := hHd hdS
   have hkv2 : FV DataI wr.drew (Lo wr.drew) kv k := hkv.kept stays_I (fun g hg => hBd.block g hg) (fun _ hg => Nat.lt_of_lt_of_le hg hBd.size)
   have HI := hHd (hIH wr.drew kv hkv2 hks40)
   have hownd : OwnF DataR 57 wr.drew w.heap.size u3 (Fo.take j f) := hown.below stays_R (Below.refl _ _).drew
   have i1 : (0 : Int) ≤ (j : Int) := by omega
   have i2 : (j : Int) < (f.len : Int) := by omega
   have HT := hHd ht64
   clear hIH hkv hkv2 hdr htk hc0 hc1 hc2 e2 hdv hdS hS hdrop hsz hown ht64
   go_wp2_with fail
   refine wp_region_noPanic ?_
   refine wp_region_held_drew (S := fun _ => True) (by kernel_rfl) trivial (fun hS => ?_)
   refine tkH 0 hS ?_
   refine tkH 1 hS ?_
   refine tkH 2 hS ?_
   refine tkH 3 hS ?_
   refine tkH 4 hS ?_
   refine held_more (S' := fun w' => w'.cell? ⟨b, o + j * 3, none⟩ = some (.int .u64 (t : Int)) ∧ w'.cell? ⟨b, o + j * 3 + 1, none⟩ = some (.slice D d.length cd) ∧ w'.cell? ⟨b, o + j * 3 + 2, none⟩ = some kv ∧ Rd w' db (.slice D d.length cd) d) (fun _ _ => trivial) _ _ _ _ ?_
   replace hS := And.intro hC0 (And.intro hC1 (And.intro hC2 hRd))
   refine tkH 5 hS ?_ (hy := fun w hSw => by have hc := hSw.1; (go_simp <;> with_reducible rfl))
   refine tkH 6 hS ?_
   refine tkH 7 hS ?_
   refine tkH 8 hS ?_
   refine tkH 9 hS ?_
   refine tkH 10 hS ?_ (hy := fun w hSw => by have hc := hSw.2.1; (go_simp <;> with_reducible rfl))
   refine tkH 11 hS ?_ (hy := fun w hSw => by have hc : (convert 30 9 _).run Tryz.prog _ = .ok (.string (txt d)) _ := str_of hSw.2.2.2; (go_simp <;> with_reducible rfl))
   refine tkH 12 hS ?_
   refine tkH 13 hS ?_
   refine tkH 14 hS ?_
   refine tkH 15 hS ?_
   refine tkH 16 hS ?_ (hy := fun w hSw => by have hc := hSw.2.2.1; (go_simp <;> with_reducible rfl))
   refine rdy1 17 fun K hK => ?_
   go_simp
   refine HI.out.mono ?_
   rintro r w6 ⟨kr, rfl, hkr, hb6⟩
   obtain ⟨A6, c6, rfl⟩ := hkr.shape
   go_wp2_with fail
   refine hK.out _ _ ?sr_0 (fun hS => ?_)
   case sr_0 => (exact ⟨(hb6.cell (p := ⟨b, o + j * 3, none⟩) (Nat.lt_of_lt_of_le hSb hBd.size)).trans hS.1, (hb6.cell (p := ⟨b, o + j * 3 + 1, none⟩) (Nat.lt_of_lt_of_le hSb hBd.size)).trans hS.2.1, (hb6.cell (p := ⟨b, o + j * 3 + 2, none⟩) (Nat.lt_of_lt_of_le hSb hBd.size)).trans hS.2.2.1, hS.2.2.2.below' hb6⟩)
   clear hK K
   (try simp only [Act.put, layS])
   refine tkH 18 hS ?_
   refine rdy1 19 fun K hK => ?_
   go_simp
   refine hK.out _ _ ?sr_1 (fun hS => ?_)
   case sr_1 => (exact ⟨(((Below.refl w6.heap.size w6).alloc (Nat.le_refl _) _).cell (p := ⟨b, o + j * 3, none⟩) (by have := hb6.size; have := hBd.size; show b < _; omega)).trans hS.1, (((Below.refl w6.heap.size w6).alloc (Nat.le_refl _) _).cell (p := ⟨b, o + j * 3 + 1, none⟩) (by have := hb6.size; have := hBd.size; show b < _; omega)).trans hS.2.1, (((Below.refl w6.heap.size w6).alloc (Nat.le_refl _) _).cell (p := ⟨b, o + j * 3 + 2, none⟩) (by have := hb6.size; have := hBd.size; show b < _; omega)).trans hS.2.2.1, hS.2.2.2.below' bAl⟩)
   clear hK K
   (try simp only [Act.put, layS])
   have hbA : Below w6.heap.size w6 (w6.alloc (.cells #[.int .u64 (t : Int), .string (txt d), .slice A6 k.len c6] 57)) := bAl
   have hownA : OwnF DataR 57 (w6.alloc (.cells #[.int .u64 (t : Int), .string (txt d), .slice A6 k.len c6] 57)) w.heap.size u3 (Fo.take j f) := (hownd.below stays_R hb6).below stays_R hbA
   have z1 := hBd.size
   have z2 := hb6.size
   have hkA : FV DataR (w6.alloc (.cells #[.int .u64 (t : Int), .string (txt d), .slice A6 k.len c6] 57)) (ItsI w.heap.size (w6.alloc (.cells #[.int .u64 (t : Int), .string (txt d), .slice A6 k.len c6] 57)) u3) (.slice A6 k.len c6) k := hkr.kept stays_R (fun g hg => hbA.block g hg.2) (fun g hg => ⟨Nat.le_trans z1 hg.1, by have := hg.2; simp only [World.size_alloc]; omega, fun h => by have := (hownd.lt g h.symm).2; have := hg.1; omega⟩)
   refine rdy1 20 fun K hK => ?_
   refine wp_append_it stays_R one_R Tryz.underlying37 Tryz.infoJ zeroI (.tmp 11) (.tmp 30) (by rfl) (by rfl) w.heap.size _ (Fo.take j f) (by rfl) hownA w6.heap.size (by rfl) t d k (.string (txt d)) (.slice A6 k.len c6) (Blk.new w6 _ _) HT.out rfl hkA ?_ ?_ ?_ ?_
   ·rw [Fo.len_take j f hj]; omega
   ·rw [Fo.len_take j f hj]; omega
   ·simp only [World.size_alloc]; omega
   intro v20 w20 hap
   have hb20 := hap.below hownA (by simp only [World.size_alloc]; omega)
   refine hK.out _ _ ?sr_2 (fun hS => ?_)
   case sr_2 => (exact ⟨(hb20.cell (p := ⟨b, o + j * 3, none⟩) hSb).trans hS.1, (hb20.cell (p := ⟨b, o + j * 3 + 1, none⟩) hSb).trans hS.2.1, (hb20.cell (p := ⟨b, o + j * 3 + 2, none⟩) hSb).trans hS.2.2.1, hS.2.2.2.keepS HDS.out hb20⟩)
   clear hK K
   (try simp only [Act.put, layS])
   refine tkH 21 hS ?_
   refine wpAnyH_done (by kernel_rfl) ?_ _
   refine NoPanic.normal ?_
   have hown20 : OwnF DataR 57 w20 w.heap.size v20 (Fo.take (j + 1) f) := by rw [HTK.out]; exact hap.1
   have hB20 := (hBd.trans ((hb6.trans (hbA.mono z2)).mono z1)).trans hb20
   clear hap hb20 hownA hkA hbA hb6 hownd hkr hBd hS hC0 hC1 hC2 hRd
   go_wp2
   go_roundw
   case rel => exact ⟨j + 1, by omega, by go_num, hown20, hB20⟩
   case measure => simp [intOf]; omega
  ·obtain rfl : j = f.len := by omega
   rw [Fo.take_all] at hown
   have hfv := hown.fv stays_R
   obtain ⟨A3, c3, rfl⟩ := hfv.shape
   have HF := hHd hfv
   clear hfv hown hlt
   go_wp2
   go_ret
   exact ⟨_, rfl, HF.out, hB⟩
end
theorem packParts_walk (v : Int) (a : NdD) (f : NdF) (A : Option Addr) (c : Nat) (w : World) (hrow : RowT w.heap.size w (.slice A f.len c) f) (hf : f.size ≤ 999990) (hok : OkF f) :
  Calls Tryz.prog 6 #[.int .i64 v, .agg (cN a (.slice A f.len c))] w (Ans9 (.bool true) w) := by
 have hx1 : Below w.heap.size w (w.alloc (.cells (cN a (.slice A f.len c)) 27)) := bAl
 have HAU := hHd (awake13_any (w.alloc (.cells (cN a (.slice A f.len c)) 27)))
 have HX1 := hHd hx1
 have HBK := hHd (Blk.new w 27 (cN a (.slice A f.len c)))
 have HROW := hHd (And.intro hrow (And.intro hf hok))
 clear hx1 hrow hf hok
 go_enter Tryz.func6, Tryz.ntmps6
 go_wp2_with fail
 refine HAU.out.mono ?_
 rintro r w1 ⟨rfl, hb1⟩
 have HB1 := hHd (HX1.out.trans (hb1.mono HX1.out.size))
 have HTx := hHd (HBK.out.below hb1 HBK.out.lt)
 clear hb1
 obtain ⟨p0, p1, p2, p3, p4, p5⟩ := cl6 HTx.out
 go_wp2_with fail
 refine (small13_any a f A c _ (HROW.out.1.under HB1.out (Nat.le_refl _) HB1.out.size) (by have := HROW.out.2.1; omega)).mono ?_
 rintro r w2 ⟨rfl, hb2⟩
 have HB2 := hHd (HB1.out.trans (hb2.mono HB1.out.size))
 have HTx := hHd (HTx.out.below hb2 HTx.out.lt)
 clear hb2 p0 p1 p2 p3 p4 p5
 cases hsm : decide (f.size + 1 ≤ 300) with
 | false =>
  clear hsm
  go_wp2
  go_ret
  exact ⟨rfl, HB2.out⟩
 | true =>
  have HS3 : Hid (f.size ≤ 299) := hHd (by have := of_decide_eq_true hsm; omega)
  clear hsm
  obtain ⟨p0, p1, p2, p3, p4, p5⟩ := cl6 HTx.out
  go_wp2_with fail
  refine (rmay10_any v a f A c _ (HROW.out.1.under HB2.out (Nat.le_refl _) HB2.out.size) (by have := HROW.out.2.1; omega) HROW.out.2.2).mono ?_
  rintro r w3 ⟨rfl, hb3⟩
  have HB3 := hHd (HB2.out.trans (hb3.mono HB2.out.size))
  have HTx := hHd (HTx.out.below hb3 HTx.out.lt)
  clear hb3 p0 p1 p2 p3 p4 p5
  cases hmay : MayX v (a, f) with
  | false =>
   clear hmay
   go_wp2
   go_ret
   exact ⟨rfl, HB3.out⟩
  | true =>
   have HMY := hHd hmay
   clear hmay
   have HIT := hHd (vitems_any v a f A c w3 (HROW.out.1.under HB3.out (Nat.le_refl _) HB3.out.size) (by have := HROW.out.2.1; omega) HROW.out.2.2)
   have HLN := hHd (items_len HMY.out)
   have HSZ := hHd (sz_items v a f HROW.out.2.2 (by have := HS3.out; omega))
   have HHAS : Hid (∀ i ka kf, f.get? i = some (ka, kf) → ∃ m, m < f.len ∧ Fo.take 1 (Fo.drop m (ItemsX v (a, f))) = ItemsX v (zeroT, .cons ka kf .nil)) := hHd (fun i ka kf hi => by
    have h := items_has HMY.out hi
    rw [items_len HMY.out] at h
    exact h)
   have HONE : Hid (∀ i ka kf, f.get? i = some (ka, kf) → ∃ t d q, ItemsX v (zeroT, .cons ka kf .nil) = .cons t d q .nil) := hHd (fun i ka kf hi => by
    obtain ⟨_, t, d, q, h, _⟩ := may_one HMY.out hi
    exact ⟨t, d, q, h⟩)
   obtain ⟨F, hF⟩ : ∃ F, F = ItemsX v (a, f) := ⟨_, rfl⟩
   rw [← hF] at HIT HLN HSZ HHAS
   clear hF
   obtain ⟨p0, p1, p2, p3, p4, p5⟩ := cl6 HTx.out
   go_wp2_with fail
   refine HIT.out.mono ?_
   rintro r w4 ⟨u4, rfl, hu4, hb4⟩
   have HB4 := hHd (HB3.out.trans (hb4.mono HB3.out.size))
   have HTx := hHd (HTx.out.below hb4 HTx.out.lt)
   have hfv : FV DataI w4 (Lo w4) u4 F := (hu4.fv stays_I).kept stays_I (fun _ _ => rfl) (fun _ hg => hg.2)
   obtain ⟨Au, cu, hue⟩ := hfv.shape
   rw [show F.len = f.len from HLN.out] at hue
   subst hue
   have HFV := hHd hfv
   clear hu4 hfv hb4 p0 p1 p2 p3 p4 p5
   have p5 := (HTx.out.cell 5).trans rfl
   have fl3 : (f.len : Int) ≤ 300 := by have := HS3.out; have := f.len_size; omega
   go_wp2
   go_loopw [8] (fun i wr => ∃ p : Nat, p ≤ f.len ∧ i = .int .i64 (p : Int) ∧ Hid (Below w4.heap.size w4 wr)) (fun i _ => f.len - (intOf i).toNat)
   case atStart => exact ⟨0, Nat.zero_le _, rfl, hHd (Below.refl _ _)⟩
   case round =>
    obtain ⟨p, hp, rfl, HBr⟩ := hrel
    obtain ⟨wo, hwo⟩ : ∃ wo, wo = wr := ⟨_, rfl⟩
    subst hwo
    clear p5
    have HTr := hHd (HTx.out.below HBr.out HTx.out.lt)
    have p5 := (HTr.out.cell 5).trans rfl
    by_cases hlt : p < f.len
    ·obtain ⟨ka, kf, hgk⟩ := Fr.get_some hlt
     obtain ⟨g, o, Aj, cj, rfl, -, hck, hgk2, hrk, hclk⟩ := HROW.out.1.at hgk
     have HBw := hHd (HB4.out.trans (HBr.out.mono HB4.out.size))
     have hsub := (HROW.out.1.sub1 hgk).under HBw.out (Nat.le_refl _) HBw.out.size
     have hokk := HROW.out.2.2.at hgk
     have hszk : (Fr.cons ka kf .nil : NdF).size ≤ 300 := by have h1 := Fr.size_get hgk; have h2 := HS3.out; simp only [Fr.size]; omega
     have HI1 := hHd (vitems_any v zeroT (.cons ka kf .nil) (some ⟨g, o + p * 6, none⟩) (c - p) wo hsub (by omega) ⟨hokk.1, hokk.2, trivial⟩)
     have HSZ1 := hHd (sz_items v zeroT (.cons ka kf .nil) ⟨hokk.1, hokk.2, trivial⟩ hszk)
     have HH1 := hHd (HHAS.out p ka kf hgk)
     obtain ⟨t1, d1, q1, hF1⟩ := HONE.out p ka kf hgk
     rw [hF1] at HI1 HSZ1 HH1
     have i1 : (0 : Int) ≤ (p : Int) := by omega
     have i2 : (p : Int) < (f.len : Int) := by omega
     have i3 : p + 1 ≤ c := by omega
     have i4 : (p : Int) + 1 ≤ (c : Int) := by omega
     have i5 : p < c := by omega
     clear hsub hokk hszk hF1 hrk hclk hgk2 hck hgk hlt
     go_wp2_with fail
     refine HI1.out.mono ?_
     rintro r w5 ⟨u5, rfl, hu5, hb5⟩
     have hfv5 : FV DataI w5 (Lo w5) u5 (.cons t1 d1 q1 .nil) := (hu5.fv stays_I).kept stays_I (fun _ _ => rfl) (fun _ hg => hg.2)
     obtain ⟨A5, c5, hue5⟩ := hfv5.shape
     have hue5 : u5 = .slice A5 1 c5 := hue5
     subst hue5
     have HF5 := hHd hfv5
     have HB5 := hHd (HBr.out.trans (hb5.mono HBr.out.size))
     have hfv := HFV.out
     obtain ⟨gu, ou, hAu⟩ : ∃ gu ou, Au = some ⟨gu, ou, none⟩ := by
      obtain ⟨gu, ou, cy, _, _, _, e, _⟩ := hfv.at (n := 0) (by have := HLN.out; omega)
      injection e with e1 e2 e3
      exact ⟨gu, ou, e1⟩
     subst hAu
     have hcu : f.len ≤ cu := by
      obtain ⟨A', c', e, h1, _⟩ := hfv
      injection e with e1 e2 e3
      have := HLN.out
      subst e3
      omega
     have HSZ1 := HSZ1
     have HP1 : Hid (∀ W, Below w5.heap.size w5 W → Calls Tryz.prog 12 #[.slice A5 1 c5] W (PlainPost (.cons t1 d1 q1 .nil) W)) := hHd (fun W hW => plain13_any _ W _ (HF5.out.kept stays_I (fun g hg => hW.block g hg) (fun _ hg => Nat.lt_of_lt_of_le hg hW.size)) HSZ1.out)
     have HPK : Hid (∀ W, Below w5.heap.size w5 W → ∀ m, m < f.len → ∃ tk dk kk, Fo.take 1 (Fo.drop m F) = .cons tk dk kk .nil ∧ Calls Tryz.prog 12 #[.slice (some ⟨gu, ou + m * 3, none⟩) 1 (cu - m)] W (PlainPost (.cons tk dk kk .nil) W) ∧ (Fo.cons tk dk kk .nil).sz ≤ 1099511627776) := hHd (fun W hW m hm => by
      have hlm : m < F.len := by have := HLN.out; have : F.len = f.len := this; omega
      obtain ⟨tk, dk, kk, hk⟩ := take_one hlm
      have hsz : (Fo.cons tk dk kk .nil).sz ≤ 1099511627776 := by
       have h1 := Fo.sz_app (Fo.take m F) (Fo.drop m F)
       rw [Fo.take_app_drop] at h1
       have h2 := Fo.sz_app (Fo.take 1 (Fo.drop m F)) (Fo.drop 1 (Fo.drop m F))
       rw [Fo.take_app_drop, hk] at h2
       have := HSZ.out
       omega
      have hbW : Below w4.heap.size w4 W := HB5.out.trans (hW.mono HB5.out.size)
      refine ⟨tk, dk, kk, hk, plain13_any _ W _ ((hfv.kept stays_I (fun g hg => hbW.block g hg) (fun _ hg => Nat.lt_of_lt_of_le hg hbW.size)).sub1 hk) hsz, hsz⟩)
     have HCU := hHd hcu
     clear hu5 hfv5 hfv hcu hb5 HI1
     go_wp2
     go_loopw [10, 11] (fun b i wr => ∃ (k : Nat) (bb : Bool), k ≤ f.len ∧ b = .bool bb ∧ i = .int .i64 (k : Int) ∧ Hid (bb = true ↔ ∃ m, m < k ∧ Fo.take 1 (Fo.drop m F) = .cons t1 d1 q1 .nil) ∧ Hid (Below w5.heap.size w5 wr)) (fun _ i _ => f.len - (intOf i).toNat)
     case atStart => exact ⟨0, false, Nat.zero_le _, rfl, rfl, hHd ⟨fun h => (by cases h), fun ⟨m, h, _⟩ => absurd h (Nat.not_lt_zero _)⟩, hHd (Below.refl _ _)⟩
     case round =>
      obtain ⟨k, bb, hk, rfl, rfl, HIF, HBk⟩ := hrel
      by_cases hlk : k < f.len
      ·cases bb with
       | true =>
        have HIF2 : Hid (true = true ↔ ∃ m, m < k + 1 ∧ Fo.take 1 (Fo.drop m F) = .cons t1 d1 q1 .nil) := hHd ⟨fun _ => by obtain ⟨m, h1, h2⟩ := HIF.out.1 rfl; exact ⟨m, by omega, h2⟩, fun _ => rfl⟩
        have k1 : (k : Int) < (f.len : Int) := by omega
        go_wp2
        go_roundw
        case rel => exact ⟨k + 1, true, by omega, rfl, by go_num, HIF2, HBk⟩
        case measure => simp [intOf]; omega
       | false =>
        obtain ⟨tk, dk, kk, hkk, hpk, hszk⟩ := HPK.out wr HBk.out k hlk
        have HPKK := hHd hpk
        have HKK := hHd (And.intro hkk hszk)
        have k1 : (k : Int) < (f.len : Int) := by omega
        have k0 : (0 : Int) ≤ (k : Int) := by omega
        have k3 : k + 1 ≤ cu := by have := HCU.out; omega
        have k4 : (k : Int) + 1 ≤ (cu : Int) := by have := HCU.out; omega
        have k5 : k < cu := by have := HCU.out; omega
        clear hpk hkk hszk
        go_wp2_with fail
        refine HPKK.out.mono ?_
        rintro r w6 ⟨v6, rfl, hv6, hb6⟩
        have HB6 := hHd (HBk.out.trans (hb6.mono HBk.out.size))
        have HV6 := hHd (hv6.kept (w' := w6) (S' := Lo w6) stays_R (fun _ _ => rfl) (fun _ hg => hg.2))
        clear hv6 hb6
        go_wp2_with fail
        refine (HP1.out _ HB6.out).mono ?_
        rintro r w7 ⟨v7, rfl, hv7, hb7⟩
        have HB7 := hHd (HB6.out.trans (hb7.mono HB6.out.size))
        have HSM := hHd (same_any (.cons tk dk kk .nil) (.cons t1 d1 q1 .nil) w7 v6 v7 (HV6.out.kept stays_R (fun g hg => hb7.block g hg) (fun _ hg => Nat.lt_of_lt_of_le hg hb7.size)) (hv7.kept (w' := w7) (S' := Lo w7) stays_R (fun _ _ => rfl) (fun _ hg => hg.2)) HKK.out.2)
        clear hv7 hb7
        go_wp2_with fail
        refine HSM.out.mono ?_
        intro r w8 hp8
        obtain ⟨bq, hbq⟩ : ∃ bq, bq = decide (Fo.cons tk dk kk .nil = Fo.cons t1 d1 q1 .nil) := ⟨_, rfl⟩
        unfold SamePost at hp8
        rw [← hbq] at hp8
        obtain ⟨rfl, hb8⟩ := hp8
        have HB8 := hHd (HB7.out.trans (hb8.mono HB7.out.size))
        have HIF2 : Hid (bq = true ↔ ∃ m, m < k + 1 ∧ Fo.take 1 (Fo.drop m F) = .cons t1 d1 q1 .nil) := hHd ⟨fun h => ⟨k, by omega, by rw [HKK.out.1]; exact of_decide_eq_true (hbq.symm.trans h)⟩, fun ⟨m, h1, h2⟩ => by
         by_cases e : m = k
         ·subst e
          rw [HKK.out.1] at h2
          rw [hbq]
          exact decide_eq_true h2
         ·exact absurd (HIF.out.2 ⟨m, by omega, h2⟩) (by simp)⟩
        clear hb8 hbq
        go_wp2
        go_roundw
        case rel => exact ⟨k + 1, bq, by omega, rfl, by go_num, HIF2, HB8⟩
        case measure => simp [intOf]; omega
      ·obtain rfl : k = f.len := by omega
       have hbt : bb = true := HIF.out.2 HH1.out
       subst hbt
       have HB9 := hHd (HB5.out.trans (HBk.out.mono HB5.out.size))
       clear hlk
       go_wp2
       go_roundw
       case rel => exact ⟨p + 1, by omega, by go_num, HB9⟩
       case measure => simp [intOf]; omega
    ·have HB9 := hHd (HB4.out.trans (HBr.out.mono HB4.out.size))
     have i2 : ¬ (p : Int) < (f.len : Int) := by omega
     go_wp2
     go_ret
     exact ⟨rfl, HB9.out⟩
end Go.Proofs.YtodlhgflfcadmaaGreat
