/- VadRefG PakSub PakInj -/
import Derived.Test.YtodlhgflfcadmaaGreatQM40
import Derived.Test.YtodlhgflfcadmaaGreatQM42
set_option linter.unusedSimpArgs false
set_option linter.unusedVariables false
set_option maxRecDepth 100000
set_option maxHeartbeats 8000000
namespace Go.Proofs.YtodlhgflfcadmaaGreat
open Go.RowKit
section
attribute [local go_sem] Oper.semAt_some
theorem val_neq0 (a : NdD) (W : World) : (binOp .neq 24 (.agg #[.int .i64 a.kind, .int .u64 (a.num : Int), .string (txt a.text)]) (.agg #[.int .i64 0, .int .u64 0, .string ⟨#[]⟩])).run Tryz.prog W = .ok (.bool (!decide (a.kind = 0 ∧ a.num = 0 ∧ a.text = []))) W := by
 rw [show Value.string ⟨#[]⟩ = Value.string (txt []) from rfl, run_neq_struct, show (10000 : Nat) = 9999 + 1 from rfl, run_equalIn_agg W 9999 24 _ _ (by simp only [Program.fieldsOf, Tryz.underlying24]) (by kernel_rfl)]
 simp only [Program.fieldsOf, Tryz.underlying24]
 simp only [Op.eqFields]
 go_simp
 simp only [txt_toList]
 by_cases h1 : a.kind = 0 <;> by_cases h2 : a.num = 0 <;> by_cases h3 : a.text = [] <;> simp [h1, h2, h3]
theorem check_r (v : Int) (x : Nd) {sd : SpD} {sf : SpF} {er : Nat} (h : rootX v = ((sd, sf), er)) : CheckX v x = if er ≠ 0 then (er, []) else if rootB x = false then (1, []) else match insideX sf x.2 with
 | some b => b
 | none => RefsX x := by
 unfold CheckX
 rw [h]
 rfl
theorem rcheck10_any (v : Int) (a : NdD) (f : NdF) (A : Option Addr) (c : Nat) (w : World) (hrow : RowT w.heap.size w (.slice A f.len c) f) (hf : f.size ≤ 1000000) (hok : OkF f) :
  Calls Tryz.prog 21 #[.int .i64 v, .agg (cN a (.slice A f.len c))] w (FirstP (CheckX v (a, f)) w) := by
 have hx1 : Below w.heap.size w (w.alloc (.cells (cN a (.slice A f.len c)) 27)) := bAl
 have HX1 := hHd hx1
 have HBK := hHd (Blk.new w 27 (cN a (.slice A f.len c)))
 have HROW := hHd hrow
 have HSZ := hHd (And.intro hf hok)
 have HRT := hHd (rroot_any v (w.alloc (.cells (cN a (.slice A f.len c)) 27)))
 have HSO := hHd (root_ok v)
 obtain ⟨rx, hrx⟩ : ∃ rx, rx = rootX v := ⟨_, rfl⟩
 rw [← hrx] at HRT HSO
 obtain ⟨⟨sd, sf⟩, er⟩ := rx
 have HC := hHd (check_r v (a, f) hrx.symm)
 simp only at HSO HC
 clear hx1 hrow hf hok hrx
 go_enter Tryz.func21, Tryz.ntmps21
 go_wp2_with fail
 refine HRT.out.mono ?_
 rintro r w2 ⟨cs, rfl, hnew, hb2⟩
 have hsl : SpL w2.heap.size w2 cs (sd, sf) := FrN.kept stay_spc hnew (fun g _ => rfl) (fun g hg => hg.2) (fun g _ => rfl) (fun g hg => hg.2)
 obtain ⟨B0, m0, A0, c0, d0, rfl, -, -, -⟩ := SpN.shape (x := (sd, sf)) hsl
 have hvq : Below w.heap.size w (w2.alloc (.cells (cT sd.name sd.kind sd.typ sd.low sd.high sd.names sd.must sd.most B0 m0 A0 sf.len c0) 67)) := (HX1.out.trans (hb2.mono HX1.out.size)).alloc (Nat.le_trans HX1.out.size hb2.size) _
 have HVQ := hHd hvq
 have HNQ : Hid (Blk (w2.alloc (.cells (cT sd.name sd.kind sd.typ sd.low sd.high sd.names sd.must sd.most B0 m0 A0 sf.len c0) 67)) w.heap.size 27 (cN a (.slice A f.len c))) := hHd ((HBK.out.below hb2 HBK.out.lt).alloc _)
 have HSQ : Hid (SpL w2.heap.size (w2.alloc (.cells (cT sd.name sd.kind sd.typ sd.low sd.high sd.names sd.must sd.most B0 m0 A0 sf.len c0) 67)) ((cT sd.name sd.kind sd.typ sd.low sd.high sd.names sd.must sd.most B0 m0 A0 sf.len c0) : Array Value).toList (sd, sf) ∧ Blk (w2.alloc (.cells (cT sd.name sd.kind sd.typ sd.low sd.high sd.names sd.must sd.most B0 m0 A0 sf.len c0) 67)) w2.heap.size 67 (cT sd.name sd.kind sd.typ sd.low sd.high sd.names sd.must sd.most B0 m0 A0 sf.len c0)) := hHd ⟨hsl.keep (fun g hg => Below.heap_alloc _ _ _ hg) (Nat.le_refl _), Blk.new _ _ _⟩
 clear hnew hb2 hsl hvq HRT
 by_cases he : er = 0
 ·subst he
  have k1 : (((0 : Nat) : Int) != 0) = false := rfl
  have HCC : Hid (CheckX v (a, f) = if rootB (a, f) = false then (1, []) else match insideX sf f with | some b => b | none => RefsX (a, f)) := hHd (by rw [HC.out, if_neg (by simp)])
  have HRI := hHd (rright_any (a, f) _ (w2.alloc (.cells (cT sd.name sd.kind sd.typ sd.low sd.high sd.names sd.must sd.most B0 m0 A0 sf.len c0) 67)) (LieB.make (HROW.out.under HVQ.out (Nat.le_refl _) HVQ.out.size)) HSZ.out.1)
  unfold ndC at HRI
  obtain ⟨q0, q1, q2, q3, q4, q5⟩ := cl6 HNQ.out
  go_wp2_with fail
  refine HRI.out.mono ?_
  rintro r w3 ⟨rfl, hb3⟩
  have HB3 := hHd (HVQ.out.trans (hb3.mono HVQ.out.size))
  have HN3 := hHd (HNQ.out.below hb3 HNQ.out.lt)
  have HS3 : Hid (SpL w2.heap.size w3 ((cT sd.name sd.kind sd.typ sd.low sd.high sd.names sd.must sd.most B0 m0 A0 sf.len c0) : Array Value).toList (sd, sf) ∧ Blk w3 w2.heap.size 67 (cT sd.name sd.kind sd.typ sd.low sd.high sd.names sd.must sd.most B0 m0 A0 sf.len c0)) := hHd ⟨HSQ.out.1.keep (fun g hg => hb3.block g (Nat.lt_trans hg HSQ.out.2.lt)) (Nat.le_refl _), HSQ.out.2.below hb3 HSQ.out.2.lt⟩
  clear hb3 q0 q1 q2 q3 q4 q5
  obtain ⟨q0, q1, q2, q3, q4, q5⟩ := cl6 HN3.out
  cases hg : rgtX (a, f) with
  | false =>
   have HX : Hid (CheckX v (a, f) = (1, [])) := hHd (by rw [HCC.out, if_pos (by unfold rootB; rw [hg]; rfl)])
   clear hg
   go_wp2
   go_ret2
   rw [HX.out]
   exact ⟨_, rfl, WayV.nil _ _ _ _, HB3.out⟩
  | true =>
   have HRB := hHd (root_dec a f hg)
   clear hg
   have e3 := fun W => val_neq0 a W
   by_cases hn : a.name = []
   ·have e1 : ((txt a.name).toList == []) = true := by rw [txt_toList, hn]; rfl
    by_cases hk : a.key = []
    ·have e2 : ((txt a.key).toList == []) = true := by rw [txt_toList, hk]; rfl
     have HNK : Hid (decide (a.name = [] ∧ a.key = []) = true) := hHd (decide_eq_true ⟨hn, hk⟩)
     clear hn hk
     cases hz : decide (a.kind = 0 ∧ a.num = 0 ∧ a.text = []) with
     | false =>
      have HX : Hid (CheckX v (a, f) = (1, [])) := hHd (by rw [HCC.out, if_pos (by rw [HRB.out, HNK.out, hz]; rfl)])
      simp only [hz] at e3
      clear hz
      go_wp2
      go_ret2
      rw [HX.out]
      exact ⟨_, rfl, WayV.nil _ _ _ _, HB3.out⟩
     | true =>
      have HCD : Hid (CheckX v (a, f) = match insideX sf f with | some b => b | none => RefsX (a, f)) := hHd (by rw [HCC.out, if_neg (by rw [HRB.out, HNK.out, hz]; simp)])
      simp only [hz] at e3
      clear hz
      have HIN := hHd (rInP f (sd, sf) ((cT sd.name sd.kind sd.typ sd.low sd.high sd.names sd.must sd.most B0 m0 A0 sf.len c0) : Array Value).toList a A c [] (.slice none 0 0) w3 (HS3.out.1.keep (fun g _ => rfl) (Nat.le_of_lt HS3.out.2.lt)) HSO.out.1 HSO.out.2 (HROW.out.under HB3.out (Nat.le_refl _) HB3.out.size) (WayV.nil _ _ _ _) (by have := HSZ.out.1; simpa using this) HSZ.out.2)
      have HRW := hHd (HROW.out.under HB3.out (Nat.le_refl _) HB3.out.size)
      obtain ⟨y0, y1, y2, y3, y4, y5, y6, y7, y8⟩ := cl9 HS3.out.2
      obtain ⟨oo, hoo⟩ : ∃ oo, oo = insideX sf f := ⟨_, rfl⟩
      simp only at HIN
      rw [← hoo] at HIN HCD
      go_wp2_with fail
      refine HIN.out.mono ?_
      rintro r w4 ⟨v4, rfl, hv4, hb4⟩
      have HB4 := hHd (HB3.out.trans (hb4.mono HB3.out.size))
      have HN4 := hHd (HN3.out.below hb4 HN3.out.lt)
      have HV4 := hHd hv4
      have HR4 := hHd (HRW.out.below hb4)
      clear hb4 hv4 y0 y1 y2 y3 y4 y5 y6 y7 y8 q0 q1 q2 q3 q4 q5
      cases oo with
      | some bb =>
       have k2 : ((bb.1 : Int) != 0) = true := by
        have h := (scan_err (show scanF f sf (zeros sf) = some bb from hoo.symm)).1
        unfold bne
        rw [beq_eq_false_iff_ne.2 (by omega)]
        rfl
       have HX : Hid (CheckX v (a, f) = bb) := hHd (by rw [HCD.out])
       clear hoo
       unfold wayO
       simp only
       go_wp2
       go_ret2
       rw [HX.out]
       exact ⟨_, rfl, HV4.out, HB4.out⟩
      | none =>
       have HX : Hid (CheckX v (a, f) = RefsX (a, f)) := hHd (by rw [HCD.out])
       clear hoo
       unfold wayO
       simp only
       obtain ⟨q0, q1, q2, q3, q4, q5⟩ := cl6 HN4.out
       go_wp2_with fail
       refine (rrefs10_any a f A c _ HR4.out HSZ.out.1).mono ?_
       rintro r w5 ⟨v5, rfl, hv5, hb5⟩
       have HV5 := hHd hv5
       have HB5 := hHd (HB4.out.trans (hb5.mono HB4.out.size))
       clear hv5 hb5 q0 q1 q2 q3 q4 q5
       go_wp2
       go_ret2
       rw [HX.out]
       exact ⟨_, rfl, HV5.out, HB5.out⟩
    ·have e2 : ((txt a.key).toList == []) = false := by rw [txt_toList]; exact beq_eq_false_iff_ne.2 hk
     have HX : Hid (CheckX v (a, f) = (1, [])) := hHd (by rw [HCC.out, if_pos (by rw [HRB.out, decide_eq_false (fun h => hk h.2)]; rfl)])
     clear hn hk
     go_wp2
     go_ret2
     rw [HX.out]
     exact ⟨_, rfl, WayV.nil _ _ _ _, HB3.out⟩
   ·have e1 : ((txt a.name).toList == []) = false := by rw [txt_toList]; exact beq_eq_false_iff_ne.2 hn
    have HX : Hid (CheckX v (a, f) = (1, [])) := hHd (by rw [HCC.out, if_pos (by rw [HRB.out, decide_eq_false (fun h => hn h.1)]; rfl)])
    clear hn
    go_wp2
    go_ret2
    rw [HX.out]
    exact ⟨_, rfl, WayV.nil _ _ _ _, HB3.out⟩
 ·have k1 : ((er : Int) != 0) = true := by unfold bne; rw [beq_eq_false_iff_ne.2 (by omega)]; rfl
  have HX : Hid (CheckX v (a, f) = (er, [])) := hHd (by rw [HC.out, if_pos he])
  clear he
  go_wp2
  go_ret2
  rw [HX.out]
  exact ⟨_, rfl, WayV.nil _ _ _ _, HVQ.out⟩
end
theorem dt_len {d : SpD} {a : NdD} (h : OkD a) : (dtW d a).length ≤ 1048576 := by
 unfold dtW
 split
 ·unfold dataX
  split
  ·simp
  ·split
   ·have h1 : (leastB (vlOf a).num).length ≤ 8 := by
     unfold leastB
     rw [bigB_length]
     exact (lenB_spec 8 (vlOf a).num (by have := h.num; exact Nat.lt_of_lt_of_le this (by decide))).2.2
    omega
   ·split
    ·simp
    ·split
     ·simp
     ·exact h.text
 ·simp
def wsW : SpF → Nat
 | .nil => 0
 | .cons _ s r => (2097154 + wsW s) + wsW r
theorem sz_coll (g : NdF → Fo) (d : SpD) (tag m : Nat) (hg : ∀ k, OkF k → (g k).sz ≤ m * k.size) (f : NdF) (hf : OkF f) : (collW g d tag f).sz ≤ (2097154 + m) * f.size := by
 induction f with
 | nil => exact Nat.zero_le _
 | cons a k r _ ih =>
  have ih' := ih hf.2.2
  have h2 : (2097154 + m) * (k.size + r.size + 1) = (2097154 + m) * k.size + (2097154 + m) * r.size + (2097154 + m) := by rw [Nat.mul_add, Nat.mul_add, Nat.mul_one]
  have h3 : (2097154 + m) * k.size = 2097154 * k.size + m * k.size := Nat.add_mul _ _ _
  have h4 := hg k hf.2.1
  have h5 := dt_len (d := d) hf.1
  have h6 := hf.1.key
  simp only [collW, Fr.size]
  split
  ·have h7 : (kdW g d a k).sz ≤ 1 + 1048576 + m * k.size := by
    unfold kdW
    split
    ·exact Nat.zero_le _
    ·split
     ·simp only [Fo.sz]; omega
     ·omega
   simp only [Fo.sz]
   omega
  ·omega
theorem sz_it (s : SpF) : ∀ (i : Nat) (f : NdF), OkF f → (itF s i f).sz ≤ wsW s * f.size := by
 induction s with
 | nil => intro i f _; simp [itF, Fo.sz]
 | cons d k r ihk ihr =>
  intro i f hf
  simp only [itF, Fo.sz_app, wsW, Nat.add_mul (2097154 + wsW k)]
  have h1 := sz_coll (fun x => itF k 0 x) d (tgW d i) (wsW k) (fun x hx => ihk 0 x hx) f hf
  have h2 := ihr (i + 1) f hf
  omega
theorem ws_root (v : Int) : wsW (rootX v).1.2 ≤ 100000000 := by
 unfold rootX
 split
 ·decide
 ·rename_i h
  have h' : v = 1 ∨ v = 2 ∨ v = 3 := by omega
  rcases h' with rfl | rfl | rfl <;> decide
theorem sz_items (v : Int) (a : NdD) (f : NdF) (hf : OkF f) (hs : f.size ≤ 300) : (ItemsX v (a, f)).sz ≤ 1099511627776 := by
 unfold ItemsX
 split
 ·have h1 := sz_it (rootX v).1.2 0 f hf
  have h2 := Nat.mul_le_mul (ws_root v) hs
  exact Nat.le_trans (Nat.le_trans h1 h2) (by decide)
 ·exact Nat.zero_le _
theorem rmay10_any (v : Int) (a : NdD) (f : NdF) (A : Option Addr) (c : Nat) (w : World) (hrow : RowT w.heap.size w (.slice A f.len c) f) (hf : f.size ≤ 1000000) (hok : OkF f) :
  Calls Tryz.prog 15 #[.int .i64 v, .agg (cN a (.slice A f.len c))] w (Ans9 (.bool (MayX v (a, f))) w) := by
 have hx1 : Below w.heap.size w (w.alloc (.cells (cN a (.slice A f.len c)) 27)) := bAl
 have HBK := hHd (Blk.new w 27 (cN a (.slice A f.len c)))
 have HX1 := hHd hx1
 have HCK := hHd (rcheck10_any v a f A c (w.alloc (.cells (cN a (.slice A f.len c)) 27)) (hrow.under hx1 (Nat.le_refl _) hx1.size) hf hok)
 have HM : Hid (MayX v (a, f) = ((((CheckX v (a, f)).1 : Nat) : Int) == 0)) := hHd (by
  unfold MayX
  by_cases h : (CheckX v (a, f)).1 = 0
  ·rw [h]; rfl
  ·rw [decide_eq_false h]; exact (beq_eq_false_iff_ne.2 (by omega)).symm)
 clear hx1 hrow hf hok
 obtain ⟨q0, q1, q2, q3, q4, q5⟩ := cl6 HBK.out
 go_enter Tryz.func15, Tryz.ntmps15
 go_wp2_with fail
 refine HCK.out.mono ?_
 rintro r w3 ⟨vv, rfl, hv, hb3⟩
 obtain ⟨A3, c3, rfl⟩ := hv.shape
 have HB3 := hHd (HX1.out.trans (hb3.mono HX1.out.size))
 clear hv hb3 q0 q1 q2 q3 q4 q5
 go_wp2
 go_ret
 exact ⟨by rw [HM.out]; rfl, HB3.out⟩
def memF (x : Nd) (f : NdF) : Prop := ∃ i, f.get? i = some x
theorem mem_cons {x : Nd} {a : NdD} {k r : NdF} : memF x (.cons a k r) ↔ x = (a, k) ∨ memF x r := by
 constructor
 ·rintro ⟨i, hi⟩
  cases i with
  | zero => injection hi with hi; exact .inl hi.symm
  | succ i => exact .inr ⟨i, hi⟩
 ·rintro (rfl | ⟨i, hi⟩)
  ·exact ⟨0, rfl⟩
  ·exact ⟨i + 1, hi⟩
theorem mem_nil {x : Nd} : ¬ memF x .nil := fun ⟨i, h⟩ => by cases h
theorem gt_mem {s : Stp} : ∀ {f : NdF} {x : Nd}, allGt s f → memF x f → lessS s (stp x.1) = true := by
 intro f
 induction f with
 | nil => intro x _ h; exact absurd h mem_nil
 | cons a k r _ ih =>
  intro x ⟨h1, h2⟩ h
  rcases mem_cons.1 h with rfl | h
  ·exact h1
  ·exact ih h2 h
theorem sorted_ext : ∀ {f g : NdF}, rgtF f = true → rgtF g = true → (∀ x, memF x f ↔ memF x g) → f = g := by
 intro f
 induction f with
 | nil =>
  intro g _ _ h
  cases g with
  | nil => rfl
  | cons b q t => exact absurd ((h (b, q)).2 (mem_cons.2 (.inl rfl))) mem_nil
 | cons a k r _ ih =>
  intro g hf hg h
  cases g with
  | nil => exact absurd ((h (a, k)).1 (mem_cons.2 (.inl rfl))) mem_nil
  | cons b q t =>
   obtain ⟨_, ga, hr⟩ := right_cons_iff.1 hf
   obtain ⟨_, gb, ht⟩ := right_cons_iff.1 hg
   have e : (a, k) = (b, q) := by
    rcases mem_cons.1 ((h (a, k)).1 (mem_cons.2 (.inl rfl))) with e | h1
    ·exact e
    ·rcases mem_cons.1 ((h (b, q)).2 (mem_cons.2 (.inl rfl))) with e | h2
     ·exact e.symm
     ·have l1 := gt_mem gb h1
      have l2 := gt_mem ga h2
      rw [lessS_asymm l1] at l2
      cases l2
   injection e with e1 e2
   subst e1 e2
   rw [ih hr ht fun x => ⟨fun hx => by
    rcases mem_cons.1 ((h x).1 (mem_cons.2 (.inr hx))) with rfl | h1
    ·have := gt_mem ga hx
     rw [lessS_irrefl] at this
     cases this
    ·exact h1, fun hx => by
    rcases mem_cons.1 ((h x).2 (mem_cons.2 (.inr hx))) with rfl | h1
    ·have := gt_mem gb hx
     rw [lessS_irrefl] at this
     cases this
    ·exact h1⟩]
def memI (t : Nat) (d : List UInt8) (k : Fo) : Fo → Prop
 | .nil => False
 | .cons t' d' k' r => (t = t' ∧ d = d' ∧ k = k') ∨ memI t d k r
theorem memI_app {t : Nat} {d : List UInt8} {k : Fo} : ∀ {f g : Fo}, memI t d k (f.app g) ↔ memI t d k f ∨ memI t d k g := by
 intro f
 induction f with
 | nil => intro g; simp [Fo.app, memI]
 | cons t' d' k' r _ ih => intro g; simp only [Fo.app, memI, ih, or_assoc]
theorem coll_mem {g : NdF → Fo} {y : SpD} {tag t : Nat} {d : List UInt8} {q : Fo} : ∀ {f : NdF}, memI t d q (collW g y tag f) ↔ t = tag ∧ ∃ x, memF x f ∧ x.1.name = y.name ∧ d = dtW y x.1 ∧ q = kdW g y x.1 x.2 := by
 intro f
 induction f with
 | nil => simp only [collW, memI]; exact ⟨fun h => h.elim, fun ⟨_, x, h, _⟩ => absurd h mem_nil⟩
 | cons a k r _ ih =>
  by_cases e : a.name = y.name
  ·simp only [collW, if_pos e, memI, ih]
   constructor
   ·rintro (⟨h1, h2, h3⟩ | ⟨h1, x, h2, h3⟩)
    ·exact ⟨h1, (a, k), mem_cons.2 (.inl rfl), e, h2, h3⟩
    ·exact ⟨h1, x, mem_cons.2 (.inr h2), h3⟩
   ·rintro ⟨h1, x, h2, h3⟩
    rcases mem_cons.1 h2 with rfl | h2
    ·exact .inl ⟨h1, h3.2⟩
    ·exact .inr ⟨h1, x, h2, h3⟩
  ·simp only [collW, if_neg e, ih]
   constructor
   ·rintro ⟨h1, x, h2, h3⟩
    exact ⟨h1, x, mem_cons.2 (.inr h2), h3⟩
   ·rintro ⟨h1, x, h2, h3⟩
    rcases mem_cons.1 h2 with rfl | h2
    ·exact absurd h3.1 e
    ·exact ⟨h1, x, h2, h3⟩
theorem it_mem {t : Nat} {d : List UInt8} {q : Fo} {f : NdF} (s : SpF) : ∀ i, memI t d q (itF s i f) ↔ ∃ j y, s.get? j = some y ∧ t = tgW y.1 (i + j) ∧ ∃ x, memF x f ∧ x.1.name = y.1.name ∧ d = dtW y.1 x.1 ∧ q = kdW (fun z => itF y.2 0 z) y.1 x.1 x.2 := by
 induction s with
 | nil => intro i; simp only [itF, memI]; exact ⟨fun h => h.elim, fun ⟨j, y, h, _⟩ => by cases h⟩
 | cons e k r _ ih =>
  intro i
  simp only [itF, memI_app, coll_mem, ih]
  constructor
  ·rintro (⟨h1, h2⟩ | ⟨j, y, h1, h2, h3⟩)
   ·exact ⟨0, (e, k), rfl, h1, h2⟩
   ·exact ⟨j + 1, y, h1, by rw [h2, show i + 1 + j = i + (j + 1) by omega], h3⟩
  ·rintro ⟨j, y, h1, h2, h3⟩
   cases j with
   | zero =>
    injection h1 with h1
    subst h1
    exact .inl ⟨h2, h3⟩
   | succ j => exact .inr ⟨j, y, h1, by rw [h2, show i + 1 + j = i + (j + 1) by omega], h3⟩
def fewN : SpF → Bool
 | .nil => true
 | .cons d s r => decide (d.names.length ≤ 256) && fewN s && fewN r
theorem few_get {s : SpF} : ∀ {j : Nat} {y : Sp}, fewN s = true → s.get? j = some y → y.1.names.length ≤ 256 ∧ fewN y.2 = true := by
 induction s with
 | nil => intro j y _ h; cases h
 | cons d k r _ ih =>
  intro j y h hy
  simp only [fewN, Bool.and_eq_true, decide_eq_true_eq] at h
  cases j with
  | zero => injection hy with hy; subst hy; exact h.1
  | succ j => exact ih h.2 hy
theorem pl_get {s : SpF} : ∀ {j : Nat} {y : Sp}, plB s = true → s.get? j = some y → (y.1.kind = 1 ∨ (y.1.kind = 3 ∧ plB y.2 = true)) := by
 induction s with
 | nil => intro j y _ h; cases h
 | cons d k r _ ih =>
  intro j y h hy
  simp only [plB, Bool.and_eq_true, Bool.or_eq_true, decide_eq_true_eq] at h
  cases j with
  | zero => injection hy with hy; subst hy; exact h.1.1
  | succ j => exact ih h.2 hy
def VdF (s : SpF) (f : NdF) : Prop := insideX s f = none ∧ rgtF f = true
theorem vd_get {s : SpF} {f : NdF} (hp : plB s = true) (h : VdF s f) {a : NdD} {k : NdF} (hm : memF (a, k) f) : ∃ j y, s.get? j = some y ∧ y.1.name = a.name ∧
  ((y.1.kind = 1 ∧ a.key = [] ∧ k = .nil ∧ rightX y.1 (vlOf a) = true) ∨ (y.1.kind = 3 ∧ a.kind = 0 ∧ a.num = 0 ∧ a.text = [] ∧ VdF y.2 k ∧ plB y.2 = true)) := by
 obtain ⟨i, hi⟩ := hm
 obtain ⟨j, y, hj, hy⟩ := all_get (scan_all h.1) hi
 obtain ⟨n, hn⟩ := scan_mem h.1 i a k hi j y hj hy
 obtain ⟨y', hy', hname, _⟩ := sp_get hj
 rw [hy] at hy'
 injection hy' with hy'
 subst hy'
 have hok := right_at.1 h.2 i (Fr.get_lt hi)
 unfold okAt at hok
 rw [hi] at hok
 simp only [Bool.and_eq_true] at hok
 have hx := hok.1
 refine ⟨j, y, hy, hname, ?_⟩
 unfold kidX1 at hn
 cases hh : headX y.1 a k n with
 | some e => rw [hh] at hn; cases hn
 | none =>
  rw [hh] at hn
  simp only at hn
  unfold headX at hh
  rcases pl_get hp hy with h1 | ⟨h3, hp2⟩
  ·rw [if_pos h1] at hh
   have hl : leafB y.1 a k = true := by
    cases hb : leafB y.1 a k with
    | true => rfl
    | false => rw [hb] at hh; cases hh
   simp only [leafB, Bool.and_eq_true, decide_eq_true_eq] at hl
   have hk0 : k = .nil := by
    cases k with
    | nil => rfl
    | cons b x z => have := hl.1.2; simp [Fr.len] at this
   exact .inl ⟨h1, hl.1.1, hk0, hl.2⟩
  ·have h1 : ¬ y.1.kind = 1 := by omega
   rw [if_neg h1, if_pos h3] at hh
   rw [if_neg h1] at hn
   have h0 : a.kind = 0 := by
    refine Classical.byContradiction fun hc => ?_
    rw [if_pos (.inl hc)] at hh
    cases hh
   unfold rgtX at hx
   rw [if_neg (by simp [h0])] at hx
   simp only [Bool.and_eq_true, decide_eq_true_eq] at hx
   exact .inr ⟨h3, h0, hx.1.1, hx.1.2, ⟨hn, hx.2⟩, hp2⟩
theorem ok_mem {f : NdF} {x : Nd} (h : OkF f) (hm : memF x f) : OkN x := by
 obtain ⟨i, hi⟩ := hm
 exact h.at hi
def InjAt (s : SpF) : Prop := ∀ f g, plB s = true → fewN s = true → VdF s f → VdF s g → OkF f → OkF g → itF s 0 f = itF s 0 g → f = g
theorem inj_half {s : SpF} (IH : ∀ j d q, s.get? j = some (d, q) → InjAt q) {f g : NdF} (hp : plB s = true) (hw : fewN s = true) (hf : VdF s f) (hg : VdF s g) (of : OkF f) (og : OkF g) (he : itF s 0 f = itF s 0 g) {x : Nd} (hx : memF x f) : memF x g := by
 obtain ⟨a, k⟩ := x
 obtain ⟨j, y, hy, hn, hc⟩ := vd_get hp hf hx
 have hmi : memI (tgW y.1 (0 + j)) (dtW y.1 a) (kdW (fun z => itF y.2 0 z) y.1 a k) (itF s 0 f) := (it_mem s 0).2 ⟨j, y, hy, rfl, (a, k), hx, hn.symm, rfl, rfl⟩
 rw [he] at hmi
 obtain ⟨j2, y2, hy2, ht, ⟨b, q⟩, hb, hbn, hd, hk⟩ := (it_mem s 0).1 hmi
 have hjj : j = j2 := by
  unfold tgW at ht
  split at ht <;> split at ht <;> omega
 subst hjj
 rw [hy] at hy2
 injection hy2 with hy2
 subst hy2
 obtain ⟨hw1, hw2⟩ := few_get hw hy
 have hnb : b.name = a.name := hbn.trans hn
 obtain ⟨j3, y3, hy3, hn3, hc3⟩ := vd_get hp hg hb
 have hoa := (ok_mem of hx).1
 have hob := (ok_mem og hb).1
 have hy33 : y3 = y := by
  -- the place of a name is its first one: both are found by vd_get through the same name
  obtain ⟨i1, hi1⟩ := hx
  obtain ⟨i2, hi2⟩ := hb
  obtain ⟨p1, z1, hp1, hz1⟩ := all_get (scan_all hf.1) hi1
  obtain ⟨p2, z2, hp2, hz2⟩ := all_get (scan_all hg.1) hi2
  have uniq : ∀ {s : SpF} {n : List UInt8} {i j : Nat} {u v : Sp}, plB s = true → s.get? i = some u → s.get? j = some v → u.1.name = n → v.1.name = n → i = j := by
   intro s
   induction s with
   | nil => intro n i j u v _ h; cases h
   | cons e l r _ ih =>
    intro n i j u v hpl hu hv h1 h2
    simp only [plB, Bool.and_eq_true] at hpl
    have hno : ∀ {m : Nat} {z : Sp}, r.get? m = some z → z.1.name ≠ e.name := fun hm => find_none (by
     cases hf : findX e.name r with
     | none => rfl
     | some w => have := hpl.1.2; rw [hf] at this; cases this) _ _ hm
    cases i with
    | zero =>
     cases j with
     | zero => rfl
     | succ j =>
      injection hu with hu
      subst hu
      exact absurd (h2.trans h1.symm) (hno hv)
    | succ i =>
     cases j with
     | zero =>
      injection hv with hv
      subst hv
      exact absurd (h1.trans h2.symm) (hno hu)
     | succ j => rw [ih hpl.2 hu hv h1 h2]
  have e := uniq hp hy3 hy (hn3.trans hnb) hn
  subst e
  rw [hy] at hy3
  injection hy3 with hy3
  exact hy3.symm
 subst hy33
 have hab : (a, k) = (b, q) := by
  rcases hc with ⟨h1, ha1, ha2, ha3⟩ | ⟨h3, ha1, ha2, ha3, ha4, ha5⟩
  ·rcases hc3 with ⟨_, hb1, hb2, hb3⟩ | ⟨h3, _⟩
   ·have hd' : dataX y3.1 (vlOf a) = dataX y3.1 (vlOf b) := by
     unfold dtW at hd
     rw [if_pos h1, if_pos h1] at hd
     exact hd
    have t1 := take_data ha3 hoa.num hw1
    have t2 := take_data hb3 hob.num hw1
    rw [hd', t2] at t1
    injection t1 with t1
    injection t1 with e1 e2 e3
    have : a = b := NdD.ext_ hnb.symm (ha1.trans hb1.symm) e1.symm e2.symm e3.symm
    rw [this, ha2, hb2]
   ·omega
  ·rcases hc3 with ⟨h1, _⟩ | ⟨_, hb1, hb2, hb3, hb4, _⟩
   ·omega
   ·have hk' : Fo.cons 0 a.key .nil (itF y3.2 0 k) = Fo.cons 0 b.key .nil (itF y3.2 0 q) := by
     unfold kdW at hk
     rw [if_neg (by omega), if_pos h3, if_neg (by omega), if_pos h3] at hk
     exact hk
    injection hk' with _ e2 _ e4
    have e5 := IH j y3.1 y3.2 hy k q ha5 hw2 ha4 hb4 (ok_mem of hx).2 (ok_mem og hb).2 e4
    have : a = b := NdD.ext_ hnb.symm e2 (ha1.trans hb1.symm) (ha2.trans hb2.symm) (ha3.trans hb3.symm)
    rw [this, e5]
 rw [hab]
 exact hb
theorem it_inj (s : SpF) : InjAt s := by
 refine Fr.byKids (P := InjAt) ?_ s
 clear s
 intro s IH f g hp hw hf hg of og he
 exact sorted_ext hf.2 hg.2 fun x => ⟨inj_half IH hp hw hf hg of og he, inj_half IH hp hw hg hf og of he.symm⟩
theorem root_few (v : Int) : fewN (rootX v).1.2 = true := by
 unfold rootX
 split
 ·rfl
 ·rename_i h
  have h' : v = 1 ∨ v = 2 ∨ v = 3 := by omega
  rcases h' with rfl | rfl | rfl <;> decide
theorem items_inj {v : Int} {x y : Nd} (hx : MayX v x = true) (hy : MayX v y = true) (ox : OkF x.2) (oy : OkF y.2) (h : ItemsX v x = ItemsX v y) : x = y := by
 obtain ⟨_, h2, h3, h4, _⟩ := may_parts hx
 obtain ⟨_, g2, g3, g4, _⟩ := may_parts hy
 unfold ItemsX at h
 rw [if_pos hx, if_pos hy] at h
 exact Prod.ext (h2.trans g2.symm) (it_inj _ _ _ (root_pl v) (root_few v) ⟨h4, h3⟩ ⟨g4, g3⟩ ox oy h)
theorem right_coll {g : NdF → Fo} {d : SpD} {i deep : Nat} (hk : d.kind = 1 ∨ d.kind = 3) (hd : deep ≤ 5) (hg : ∀ k, Fo.right (deep + 1) (g k) = true) : ∀ f : NdF, Fo.right deep (collW g d (tgW d i) f) = true := by
 intro f
 induction f with
 | nil => rfl
 | cons a k r _ ih =>
  simp only [collW]
  split
  ·have hdd : decide (deep ≤ 6) = true := decide_eq_true (by omega)
   have hdd2 : decide (deep + 1 ≤ 6) = true := decide_eq_true (by omega)
   rcases hk with h1 | h3
   ·have ht : ¬ tgW d i % 2 = 1 := by unfold tgW; rw [if_pos h1]; omega
    simp only [Fo.right, hdd, if_neg ht, kdW, if_pos h1, ih, Bool.and_true]
    rfl
   ·have h1 : ¬ d.kind = 1 := by omega
    have ht : tgW d i % 2 = 1 := by unfold tgW; rw [if_neg h1]; omega
    have hs : (dtW d a).isEmpty = true := by unfold dtW; rw [if_neg h1]; rfl
    simp only [Fo.right, hdd, if_pos ht, hs, kdW, if_neg h1, if_pos h3, ih, hdd2, hg k, Bool.and_true, Bool.true_and]
    rfl
  ·exact ih
theorem right_it (s : SpF) : ∀ (i deep : Nat) (f : NdF), plB s = true → deep + s.deep ≤ 6 → Fo.right deep (itF s i f) = true := by
 induction s with
 | nil => intro i deep f _ _; rfl
 | cons d k r ihk ihr =>
  intro i deep f hp hd
  simp only [plB, Bool.and_eq_true, Bool.or_eq_true, decide_eq_true_eq] at hp
  simp only [Fr.deep] at hd
  simp only [itF, Fo.right_app, Bool.and_eq_true]
  refine ⟨?_, ihr (i + 1) deep f hp.2 (by omega)⟩
  rcases hp.1.1 with h1 | ⟨h3, hq⟩
  ·-- a leaf has nothing within
   have : ∀ g : NdF → Fo, collW g d (tgW d i) f = collW (fun _ => .nil) d (tgW d i) f := by
    intro g
    induction f with
    | nil => rfl
    | cons a q t _ ih => simp only [collW, kdW, if_pos h1, ih]
   rw [this]
   exact right_coll (.inl h1) (by omega) (fun _ => rfl) f
  ·exact right_coll (.inr h3) (by omega) (fun q => ihk 0 (deep + 1) q hq (by omega)) f
theorem root_deep (v : Int) : 1 + (rootX v).1.2.deep ≤ 6 := by
 unfold rootX
 split
 ·decide
 ·rename_i h
  have h' : v = 1 ∨ v = 2 ∨ v = 3 := by omega
  rcases h' with rfl | rfl | rfl <;> decide
theorem right_items (v : Int) (x : Nd) : Fo.right 1 (ItemsX v x) = true := by
 unfold ItemsX
 split
 ·exact right_it _ 0 1 _ (root_pl v) (root_deep v)
 ·rfl
theorem fit_it (s : SpF) : ∀ (i : Nat) (f : NdF), s.size + i ≤ 1000000 → (itF s i f).fit := by
 induction s with
 | nil => intro i f _; trivial
 | cons d k r ihk ihr =>
  intro i f h
  simp only [Fr.size] at h
  simp only [itF, Fo.fit_app]
  refine ⟨?_, ihr (i + 1) f (by omega)⟩
  have ht : tgW d i < 18446744073709551616 := by unfold tgW; split <;> omega
  induction f with
  | nil => trivial
  | cons a q t _ ih =>
   simp only [collW]
   split
   ·refine ⟨ht, ?_, ih⟩
    unfold kdW
    split
    ·trivial
    ·split
     ·exact ⟨by omega, trivial, ihk 0 q (by omega)⟩
     ·exact ihk 0 q (by omega)
   ·exact ih
theorem root_size (v : Int) : (rootX v).1.2.size + 0 ≤ 1000000 := by
 unfold rootX
 split
 ·decide
 ·rename_i h
  have h' : v = 1 ∨ v = 2 ∨ v = 3 := by omega
  rcases h' with rfl | rfl | rfl <;> decide
theorem fit_items (v : Int) (x : Nd) : (ItemsX v x).fit := by
 unfold ItemsX
 split
 ·exact fit_it _ 0 _ (root_size v)
 ·trivial
theorem all_inj {F G : Fo} (hF : F.fit) (hG : G.fit) (rF : Fo.right 1 F = true) (rG : Fo.right 1 G = true) (lF : F.all.length ≤ 8192) (h : F.all = G.all) : F = G := by
 have h1 := gt_all F F.all.length 1 0 (Nat.le_refl _) (by omega) hF rF
 have h2 := gt_all G F.all.length 1 0 (by rw [h]; exact Nat.le_refl _) (by rw [← h]; omega) hG rG
 rw [h] at h1 h2
 rw [h2] at h1
 injection h1 with h1
 exact h1.symm
theorem bytes_inj {v w : Nat} {F G : Fo} (hv : v < 18446744073709551616) (hw : w < 18446744073709551616) (h : encV 9 v ++ F.all = encV 9 w ++ G.all) : v = w ∧ F.all = G.all := by
 have h1 := getV_enc v hv F.all
 have h2 := getV_enc w hw G.all
 rw [h, h2] at h1
 injection h1 with h1 _
 subst h1
 exact ⟨rfl, List.append_cancel_left h⟩
end Go.Proofs.YtodlhgflfcadmaaGreat
