/- TlvFnA EdtSpec Law18A Law18B EdtFrt -/
import Derived.Test.YtleidkpdpabkpaaGreatDoorAM17
import Derived.Test.YtleidkpdpabkpaaGreatDoorAM18
set_option linter.unusedSimpArgs false
set_option linter.unusedVariables false
set_option maxRecDepth 100000
set_option maxHeartbeats 8000000
namespace Go.Proofs.YtleidkpdpabkpaaGreatDoor
open Go.RowKit
def BoolB (b : Bool) (w : World) (r : Ending) (w' : World) : Prop := r = .returned (.bool b) ∧ Below w.heap.size w w'
theorem nests_yes (t : Nat) (dv kv : Value) (w : World) (h : t % 2 = 1) : Calls Tryz.prog 48 #[.agg #[.int .u64 (t : Int), dv, kv]] w (BoolB true w) := by
 have hb : ((t : Int) % 2 == 1) = true := by
  have h : (t : Int) % 2 = 1 := by omega
  rw [h]; rfl
 clear h
 go_enter Tryz.func48, Tryz.ntmps48
 go_wp2
 go_ret
 exact ⟨rfl, bAl⟩
theorem nests_no (t : Nat) (dv kv : Value) (w : World) (h : ¬ t % 2 = 1) : Calls Tryz.prog 48 #[.agg #[.int .u64 (t : Int), dv, kv]] w (BoolB false w) := by
 have hb : ((t : Int) % 2 == 1) = false := by
  have h : (t : Int) % 2 = 0 := by omega
  rw [h]; rfl
 clear h
 go_enter Tryz.func48, Tryz.ntmps48
 go_wp2
 go_ret
 exact ⟨rfl, bAl⟩
def pureB (t n m : Nat) : Bool := if t % 2 = 1 then ((n : Int) == 0) else ((m : Int) == 0)
theorem pure_any (t n m : Nat) (A A' : Option Addr) (c c' : Nat) (w : World) :
  Calls Tryz.prog 79 #[.agg #[.int .u64 (t : Int), .slice A n c, .slice A' m c']] w (BoolB (pureB t n m) w) := by
 unfold pureB
 by_cases h : t % 2 = 1
 ·rw [if_pos h]
  have HC := hHd (fun w => nests_yes t (.slice A n c) (.slice A' m c') w h)
  clear h
  go_enter Tryz.func79, Tryz.ntmps79
  go_wp2_with fail
  refine (HC.out _).mono ?_
  rintro r w1 ⟨rfl, hb1⟩
  obtain ⟨hc, hf⟩ := (⟨fun b o h => hb1.cell (p := ⟨b, o, none⟩) h, fun b o h => hb1.frozen (p := ⟨b, o, none⟩) h⟩ : (∀ b o, b < (w.alloc (.cells #[.int .u64 (t : Int), .slice A n c, .slice A' m c'] 58)).heap.size → w1.cell? ⟨b, o, none⟩ = (w.alloc (.cells #[.int .u64 (t : Int), .slice A n c, .slice A' m c'] 58)).cell? ⟨b, o, none⟩) ∧ (∀ b o, b < (w.alloc (.cells #[.int .u64 (t : Int), .slice A n c, .slice A' m c'] 58)).heap.size → w1.frozen? ⟨b, o, none⟩ = (w.alloc (.cells #[.int .u64 (t : Int), .slice A n c, .slice A' m c'] 58)).frozen? ⟨b, o, none⟩))
  go_wp2
  go_ret
  exact ⟨rfl, bAl.trans (hb1.mono (by simp))⟩
 ·rw [if_neg h]
  have HC := hHd (fun w => nests_no t (.slice A n c) (.slice A' m c') w h)
  clear h
  go_enter Tryz.func79, Tryz.ntmps79
  go_wp2_with fail
  refine (HC.out _).mono ?_
  rintro r w1 ⟨rfl, hb1⟩
  obtain ⟨hc, hf⟩ := (⟨fun b o h => hb1.cell (p := ⟨b, o, none⟩) h, fun b o h => hb1.frozen (p := ⟨b, o, none⟩) h⟩ : (∀ b o, b < (w.alloc (.cells #[.int .u64 (t : Int), .slice A n c, .slice A' m c'] 58)).heap.size → w1.cell? ⟨b, o, none⟩ = (w.alloc (.cells #[.int .u64 (t : Int), .slice A n c, .slice A' m c'] 58)).cell? ⟨b, o, none⟩) ∧ (∀ b o, b < (w.alloc (.cells #[.int .u64 (t : Int), .slice A n c, .slice A' m c'] 58)).heap.size → w1.frozen? ⟨b, o, none⟩ = (w.alloc (.cells #[.int .u64 (t : Int), .slice A n c, .slice A' m c'] 58)).frozen? ⟨b, o, none⟩))
  go_wp2
  go_ret
  exact ⟨rfl, bAl.trans (hb1.mono (by simp))⟩
theorem pureB_eq (t : Nat) (d : List UInt8) (k : Fo) : pureB t d.length k.len = (if t % 2 = 1 then d.isEmpty else k.len == 0) := by
 unfold pureB
 by_cases h : t % 2 = 1
 ·rw [if_pos h, if_pos h]
  cases d with
  | nil => rfl
  | cons b l => simp; omega
 ·rw [if_neg h, if_neg h]
  rw [Bool.eq_iff_iff]; simp
def Fo.cnt : Fo → Nat
 | .nil => 0
 | .cons _ _ k r => 1 + k.cnt + r.cnt
theorem Fo.cnt_app (f g : Fo) : (f.app g).cnt = f.cnt + g.cnt := by
 induction f with
 | nil => simp [Fo.app, Fo.cnt]
 | cons t d k r _ ih => simp only [Fo.app, Fo.cnt, ih]; omega
theorem Fo.cnt_le_wt (f : Fo) : f.cnt ≤ f.wt := by
 induction f with
 | nil => simp [Fo.cnt]
 | cons t d k r ihk ih => simp only [Fo.cnt, Fo.wt]; omega
theorem Fo.len_le_cnt (f : Fo) : f.len ≤ f.cnt := by
 induction f with
 | nil => simp [Fo.len]
 | cons t d k r _ ih => simp only [Fo.len, Fo.cnt]; omega
theorem Fo.cnt_all (f : Fo) : ∀ deep, Fo.right deep f = true → 2 * f.cnt ≤ f.all.length := by
 induction f with
 | nil => intro _ _; simp [Fo.cnt]
 | cons t d k r ihk ihr =>
  intro deep h
  simp only [Fo.right, Bool.and_eq_true, decide_eq_true_eq] at h
  obtain ⟨⟨⟨-, hs⟩, hk⟩, hr⟩ := h
  have h1 := ihk _ hk
  have h2 := ihr _ hr
  have e1 := (encV_length 9 t).1
  have e2 := (encV_length 9 (Fo.inn t d k.all).length).1
  simp only [Fo.cnt, Fo.all, List.length_append]
  by_cases ho : t % 2 = 1
  ·have hin : Fo.inn t d k.all = k.all := by unfold Fo.inn; rw [if_pos ho]
   rw [hin] at e2 ⊢
   omega
  ·rw [if_neg ho] at hs
   have h0 : k.cnt = 0 := by
    have := Fo.len_zero (by simpa using hs)
    subst this
    rfl
   omega
theorem Fo.cnt_take_le (j : Nat) (f : Fo) : (Fo.take j f).cnt + (Fo.drop j f).cnt = f.cnt := by
 have h := Fo.cnt_app (Fo.take j f) (Fo.drop j f)
 rw [Fo.take_app_drop] at h
 omega
section
attribute [local go_sem] Oper.semAt_some
def fewX18 (l : List EdD) : Bool := l.all (fun e => decide (sizeX e.node ≤ 300) && decide (sizeX e.old ≤ 300) && decide (e.way.length ≤ 20)) && decide (l.length ≤ 60)
theorem fewX18_iff {l : List EdD} : fewX18 l = true ↔ (∀ e ∈ l, sizeX e.node ≤ 300 ∧ sizeX e.old ≤ 300 ∧ e.way.length ≤ 20) ∧ l.length ≤ 60 := by
 simp [fewX18, and_assoc]
def FewN18 (l : List EdD) : Prop := l.length ≤ 1000000 ∧ ∀ e ∈ l, Few9 e.node ∧ Few9 e.old
theorem few18_any (l : List EdD) (v : Value) (w : World) (hv : EdsV (Bel w) w v l) (hl : FewN18 l) :
  Calls Tryz.prog 8 #[v] w (Ans9 (.bool (fewX18 l)) w) := by
 obtain ⟨A, c, rfl⟩ := hv.shape
 have HV := hHd hv
 have HL := hHd hl
 have l0 : l.length ≤ 1000000 := hl.1
 clear hv hl
 go_enter Tryz.func8, Tryz.ntmps8
 go_wp2
 go_loopw [3] (fun i wr => ∃ j : Nat, j ≤ l.length ∧ i = .int .i64 (j : Int) ∧ Hid (∀ e ∈ l.take j, sizeX e.node ≤ 300 ∧ sizeX e.old ≤ 300 ∧ e.way.length ≤ 20) ∧ Hid (Below w.heap.size w wr)) (fun i _ => l.length - (intOf i).toNat)
 case atStart => exact ⟨0, Nat.zero_le _, rfl, hHd (by simp), hHd (Below.refl _ _)⟩
 case round =>
  obtain ⟨j, hj, rfl, HK, HB⟩ := hrel
  have i1 : (0 : Int) ≤ (j : Int) := by omega
  by_cases hlt : j < l.length
  ·have i2 : (j : Int) < (l.length : Int) := by omega
   obtain ⟨e, he⟩ : ∃ e, l[j]? = some e := ⟨_, List.getElem?_eq_getElem hlt⟩
   have hem := List.mem_of_getElem? he
   have HM := hHd hem
   obtain ⟨g, o, Aw, cw, An, cn, Ao, co, rfl, -, -, hgS, hw, hn, hod, hcl⟩ := (HV.out.below HB.out).at he
   have HG : Hid (g < wr.heap.size) := hHd hgS
   have hq : ∀ W, Below wr.heap.size wr W → ∀ i u, (edC e.kind (.slice Aw e.way.length cw) e.node.1 (.slice An e.node.2.len cn) e.old.1 (.slice Ao e.old.2.len co))[i]? = some u → W.cell? ⟨g, o + j * 14 + i, none⟩ = some u := fun W hW i u hu => (hW.cell (p := ⟨g, o + j * 14 + i, none⟩) hgS).trans (hcl i u hu)
   have HQ := hHd hq
   have hn2 : LieN wr (ndC e.node.1 (.slice An e.node.2.len cn)) (e.node.1, e.node.2) := LieB.make hn
   have ho2 : LieN wr (ndC e.old.1 (.slice Ao e.old.2.len co)) (e.old.1, e.old.2) := LieB.make hod
   obtain ⟨z, hz⟩ : ∃ z, z = sizeX e.node := ⟨_, rfl⟩
   obtain ⟨y, hy⟩ : ∃ y, y = sizeX e.old := ⟨_, rfl⟩
   have hfw := HL.out.2 e hem
   have hc1 : ∀ W, Below wr.heap.size wr W → Hid (Calls Tryz.prog 16 #[.agg (ndC e.node.1 (.slice An e.node.2.len cn)).toArray] W (Ans9 (.int .i64 (z : Int)) W)) := fun W h => hHd (by rw [hz]; exact rsizet_any e.node _ W (hn2.below h) hfw.1)
   have hc2 : ∀ W, Below wr.heap.size wr W → Hid (Calls Tryz.prog 16 #[.agg (ndC e.old.1 (.slice Ao e.old.2.len co)).toArray] W (Ans9 (.int .i64 (y : Int)) W)) := fun W h => hHd (by rw [hy]; exact rsizet_any e.old _ W (ho2.below h) hfw.2)
   simp only [ndC] at hc1 hc2
   have C1 := hHd hc1
   have C2 := hHd hc2
   have HZ : Hid (z = sizeX e.node ∧ y = sizeX e.old) := hHd ⟨hz, hy⟩
   have lz : z ≤ 1000001 := by rw [hz]; have := hfw.1; unfold Few9 at this; show e.node.2.size + 1 ≤ _; omega
   have ly : y ≤ 1000001 := by rw [hy]; have := hfw.2; unfold Few9 at this; show e.old.2.size + 1 ≤ _; omega
   have HT := hHd (take_snocE he)
   have n0 : j < l.length := hlt
   have H0 : Hid (Below wr.heap.size wr wr) := hHd (Below.refl _ _)
   clear hcl he hw hn hod hn2 ho2 hc1 hc2 hq hz hy hfw hem hgS
   have a2 : wr.cell? ⟨g, o + j * 14 + 2, none⟩ = _ := HQ.out _ H0.out 2 _ rfl
   have a3 : wr.cell? ⟨g, o + j * 14 + 3, none⟩ = _ := HQ.out _ H0.out 3 _ rfl
   have a4 : wr.cell? ⟨g, o + j * 14 + 4, none⟩ = _ := HQ.out _ H0.out 4 _ rfl
   have a5 : wr.cell? ⟨g, o + j * 14 + 5, none⟩ = _ := HQ.out _ H0.out 5 _ rfl
   have a6 : wr.cell? ⟨g, o + j * 14 + 6, none⟩ = _ := HQ.out _ H0.out 6 _ rfl
   have a7 : wr.cell? ⟨g, o + j * 14 + 7, none⟩ = _ := HQ.out _ H0.out 7 _ rfl
   by_cases h1 : z ≤ 300
   ·have j1 : ¬ (300 : Int) < (z : Int) := by omega
    by_cases h2 : y ≤ 300
    ·have j2 : ¬ (300 : Int) < (y : Int) := by omega
     by_cases h3 : e.way.length ≤ 20
     ·have j3 : ¬ (20 : Int) < (e.way.length : Int) := by omega
      have HK2 : Hid (∀ x ∈ l.take (j + 1), sizeX x.node ≤ 300 ∧ sizeX x.old ≤ 300 ∧ x.way.length ≤ 20) := hHd (by
       rw [HT.out]
       intro x hx
       rcases List.mem_append.1 hx with hx | hx
       ·exact HK.out x hx
       ·obtain rfl : x = e := by simpa using hx
        exact ⟨by rw [← HZ.out.1]; exact h1, by rw [← HZ.out.2]; exact h2, h3⟩)
      clear h1 h2 h3
      go_wp2_with fail
      refine (C1.out wr H0.out).out.mono ?_
      rintro r w1 ⟨rfl, hb1⟩
      have HB1 := hHd hb1
      have b8 : w1.cell? ⟨g, o + j * 14 + 8, none⟩ = _ := HQ.out _ hb1 8 _ rfl
      have b9 : w1.cell? ⟨g, o + j * 14 + 9, none⟩ = _ := HQ.out _ hb1 9 _ rfl
      have b10 : w1.cell? ⟨g, o + j * 14 + 10, none⟩ = _ := HQ.out _ hb1 10 _ rfl
      have b11 : w1.cell? ⟨g, o + j * 14 + 11, none⟩ = _ := HQ.out _ hb1 11 _ rfl
      have b12 : w1.cell? ⟨g, o + j * 14 + 12, none⟩ = _ := HQ.out _ hb1 12 _ rfl
      have b13 : w1.cell? ⟨g, o + j * 14 + 13, none⟩ = _ := HQ.out _ hb1 13 _ rfl
      clear hb1
      go_wp2_with fail
      refine (C2.out w1 HB1.out).out.mono ?_
      rintro r w2 ⟨rfl, hb2⟩
      have HB2 := hHd (HB1.out.trans (hb2.mono HB1.out.size))
      have d1 : w2.cell? ⟨g, o + j * 14 + 1, none⟩ = _ := HQ.out _ HB2.out 1 _ rfl
      clear hb2
      go_wp2
      go_roundw
      case rel => exact ⟨j + 1, by omega, by go_num, HK2, hHd (HB.out.trans (HB2.out.mono HB.out.size))⟩
      case measure => simp [intOf]; omega
     ·have j3 : (20 : Int) < (e.way.length : Int) := by omega
      have HN : Hid (fewX18 l = false) := hHd (Bool.eq_false_iff.2 fun hh => h3 ((fewX18_iff.1 hh).1 e HM.out).2.2)
      clear h1 h2 h3
      go_wp2_with fail
      refine (C1.out wr H0.out).out.mono ?_
      rintro r w1 ⟨rfl, hb1⟩
      have HB1 := hHd hb1
      have b8 : w1.cell? ⟨g, o + j * 14 + 8, none⟩ = _ := HQ.out _ hb1 8 _ rfl
      have b9 : w1.cell? ⟨g, o + j * 14 + 9, none⟩ = _ := HQ.out _ hb1 9 _ rfl
      have b10 : w1.cell? ⟨g, o + j * 14 + 10, none⟩ = _ := HQ.out _ hb1 10 _ rfl
      have b11 : w1.cell? ⟨g, o + j * 14 + 11, none⟩ = _ := HQ.out _ hb1 11 _ rfl
      have b12 : w1.cell? ⟨g, o + j * 14 + 12, none⟩ = _ := HQ.out _ hb1 12 _ rfl
      have b13 : w1.cell? ⟨g, o + j * 14 + 13, none⟩ = _ := HQ.out _ hb1 13 _ rfl
      clear hb1
      go_wp2_with fail
      refine (C2.out w1 HB1.out).out.mono ?_
      rintro r w2 ⟨rfl, hb2⟩
      have HB2 := hHd (HB1.out.trans (hb2.mono HB1.out.size))
      have d1 : w2.cell? ⟨g, o + j * 14 + 1, none⟩ = _ := HQ.out _ HB2.out 1 _ rfl
      clear hb2
      go_wp2
      go_ret
      exact ⟨congrArg (fun b => Ending.returned (Value.bool b)) HN.out.symm, HB.out.trans (HB2.out.mono HB.out.size)⟩
    ·have j2 : (300 : Int) < (y : Int) := by omega
     have HN : Hid (fewX18 l = false) := hHd (Bool.eq_false_iff.2 fun hh => h2 (by rw [HZ.out.2]; exact ((fewX18_iff.1 hh).1 e HM.out).2.1))
     clear h1 h2
     go_wp2_with fail
     refine (C1.out wr H0.out).out.mono ?_
     rintro r w1 ⟨rfl, hb1⟩
     have HB1 := hHd hb1
     have b8 : w1.cell? ⟨g, o + j * 14 + 8, none⟩ = _ := HQ.out _ hb1 8 _ rfl
     have b9 : w1.cell? ⟨g, o + j * 14 + 9, none⟩ = _ := HQ.out _ hb1 9 _ rfl
     have b10 : w1.cell? ⟨g, o + j * 14 + 10, none⟩ = _ := HQ.out _ hb1 10 _ rfl
     have b11 : w1.cell? ⟨g, o + j * 14 + 11, none⟩ = _ := HQ.out _ hb1 11 _ rfl
     have b12 : w1.cell? ⟨g, o + j * 14 + 12, none⟩ = _ := HQ.out _ hb1 12 _ rfl
     have b13 : w1.cell? ⟨g, o + j * 14 + 13, none⟩ = _ := HQ.out _ hb1 13 _ rfl
     clear hb1
     go_wp2_with fail
     refine (C2.out w1 HB1.out).out.mono ?_
     rintro r w2 ⟨rfl, hb2⟩
     have HB2 := hHd (HB1.out.trans (hb2.mono HB1.out.size))
     have d1 : w2.cell? ⟨g, o + j * 14 + 1, none⟩ = _ := HQ.out _ HB2.out 1 _ rfl
     clear hb2
     go_wp2
     go_ret
     exact ⟨congrArg (fun b => Ending.returned (Value.bool b)) HN.out.symm, HB.out.trans (HB2.out.mono HB.out.size)⟩
   ·have j1 : (300 : Int) < (z : Int) := by omega
    have HN : Hid (fewX18 l = false) := hHd (Bool.eq_false_iff.2 fun hh => h1 (by rw [HZ.out.1]; exact ((fewX18_iff.1 hh).1 e HM.out).1))
    clear h1
    go_wp2_with fail
    refine (C1.out wr H0.out).out.mono ?_
    rintro r w1 ⟨rfl, hb1⟩
    have HB1 := hHd hb1
    have b8 : w1.cell? ⟨g, o + j * 14 + 8, none⟩ = _ := HQ.out _ hb1 8 _ rfl
    have b9 : w1.cell? ⟨g, o + j * 14 + 9, none⟩ = _ := HQ.out _ hb1 9 _ rfl
    have b10 : w1.cell? ⟨g, o + j * 14 + 10, none⟩ = _ := HQ.out _ hb1 10 _ rfl
    have b11 : w1.cell? ⟨g, o + j * 14 + 11, none⟩ = _ := HQ.out _ hb1 11 _ rfl
    have b12 : w1.cell? ⟨g, o + j * 14 + 12, none⟩ = _ := HQ.out _ hb1 12 _ rfl
    have b13 : w1.cell? ⟨g, o + j * 14 + 13, none⟩ = _ := HQ.out _ hb1 13 _ rfl
    clear hb1
    go_wp2
    go_ret
    exact ⟨congrArg (fun b => Ending.returned (Value.bool b)) HN.out.symm, HB.out.trans (HB1.out.mono HB.out.size)⟩
  ·obtain rfl : j = l.length := by omega
   have i2 : ¬ (l.length : Int) < (l.length : Int) := by omega
   have HF : Hid (fewX18 l = decide (l.length ≤ 60)) := hHd (by
    have h := HK.out
    rw [List.take_length] at h
    by_cases h6 : l.length ≤ 60
    ·rw [decide_eq_true h6, fewX18_iff]; exact ⟨h, h6⟩
    ·rw [decide_eq_false h6]; exact Bool.eq_false_iff.2 fun hh => h6 (fewX18_iff.1 hh).2)
   have HD : Hid (decide ((l.length : Int) ≤ 60) = decide (l.length ≤ 60)) := hHd (by rw [Bool.eq_iff_iff]; simp; omega)
   clear HK hlt
   go_wp2
   go_ret
   exact ⟨congrArg (fun b => Ending.returned (Value.bool b)) (HD.out.trans HF.out.symm), HB.out⟩
def OkL18 (l : List EdD) : Prop := l.length ≤ 1000000 ∧ (∀ e ∈ l, OkE18 e) ∧ (itsE18 leastB l).sz ≤ 1099511627776 ∧ (itsE18 leastB l).cnt ≤ 400000
structure EdtC (W0 : World) : Prop where
 check : ∀ (l : List EdD) (v : Value) (w : World), EdsV (Bel w) w v l → OkL18 l → Below W0.heap.size W0 w →
  Calls Tryz.prog 11 #[v] w (Ans9 (.bool (l.all okE18)) w)
 put : ∀ (l : List EdD) (v : Value) (w : World), EdsV (Bel w) w v l → OkL18 l → Below W0.heap.size W0 w →
  Calls Tryz.prog 9 #[v] w fun r w' => ∃ d A c, r = .returned (.tuple #[.slice A (putX18 leastB l).1.length c, .int .i64 ((putX18 leastB l).2 : Int)]) ∧ Rd w' d (.slice A (putX18 leastB l).1.length c) (putX18 leastB l).1 ∧ d < w'.heap.size ∧ Below w.heap.size w w'
 get : ∀ (s : List UInt8) (b : Value) (d : Nat) (w : World), Rd w d b s → s.length ≤ 9000 → Below W0.heap.size W0 w →
  Calls Tryz.prog 13 #[b] w (GetP18 s w)
def Awake18 (W0 : World) : Prop := ∀ w, Below W0.heap.size W0 w → Calls Tryz.prog 7 #[] w (Ans9 (.bool true) w)
theorem num_ok18 : ∀ f : NdF, OkF f → numF18 f := by
 intro f
 induction f with
 | nil => intro _; trivial
 | cons a k r ihk ihr => intro h; exact ⟨h.1.num, ihk h.2.1, ihr h.2.2⟩
theorem OkL18.num {l : List EdD} (h : OkL18 l) : ∀ e ∈ l, numN18 e.node ∧ numN18 e.old := fun e he =>
 ⟨⟨(h.2.1 e he).nodeT.1.num, num_ok18 _ (h.2.1 e he).nodeT.2⟩, ⟨(h.2.1 e he).oldT.1.num, num_ok18 _ (h.2.1 e he).oldT.2⟩⟩
theorem OkL18.few {l : List EdD} (h : OkL18 l) : FewE l := ⟨h.1, fun e he => ⟨(h.2.1 e he).way, (h.2.1 e he).node, (h.2.1 e he).old⟩⟩
theorem put_len18 (l : List EdD) : (putX18 leastB l).1.length ≤ 8192 := by
 unfold putX18
 split
 ·split
  ·rename_i h; exact h.2
  ·simp
 ·simp
theorem cnt_sz18 (f : Fo) : f.cnt ≤ f.sz := Nat.le_trans f.cnt_le_wt f.wt_le_sz
theorem okl_nil18 : OkL18 [] := ⟨Nat.zero_le _, fun e he => absurd he (by simp), by decide, by decide⟩
theorem get_okl18 (s : List UInt8) (hs : s.length ≤ 9000) : OkL18 (getX18 leastB V18 s).1 := by
 unfold getX18
 split
 ·exact okl_nil18
 ·rename_i h
  split
  ·exact okl_nil18
  ·have h1 := got_sz18 (b := s) (by simpa using h) (by omega)
   obtain ⟨k1, k2, k3⟩ := redE_ok18 (got18 s).1 (by omega)
   have h2 := cnt_sz18 (itsE18 leastB (redE18 V18 (got18 s).1))
   exact ⟨by simp only; omega, k1, by simp only; omega, by simp only; omega⟩
end
section
attribute [local go_sem] Oper.semAt_some
theorem same_dec18 (l : List EdD) : decide (l = l) = true := decide_eq_true rfl
theorem editsPuts_no (l : List EdD) (v : Value) (w : World) (hl : EdsV (Bel w) w v l) (hn : FewN18 l) (hX : fewX18 l = false) (HA : Awake18 w) : Calls Tryz.prog 3 #[v] w (Ans9 (.bool true) w) := by
 obtain ⟨A, c, rfl⟩ := hl.shape
 have HAW := hHd (HA w (Below.refl _ _))
 have HFW : ∀ W, Below w.heap.size w W → Hid (Calls Tryz.prog 8 #[.slice A l.length c] W (Ans9 (.bool false) W)) := fun W hW => hHd (by have h := few18_any l _ W (hl.below hW) hn; rw [hX] at h; exact h)
 clear hl hn hX
 go_enter Tryz.func3, Tryz.ntmps3
 go_wp2_with fail
 refine HAW.out.mono ?_
 rintro r w1 ⟨rfl, hb⟩
 have HB := hHd hb
 clear hb
 go_wp2_with fail
 refine (HFW _ HB.out).out.mono ?_
 rintro r w2 ⟨rfl, hb⟩
 have HB2 := hHd (HB.out.trans (hb.mono HB.out.size))
 clear hb
 go_wp2_with fail
 go_ret
 exact ⟨rfl, HB2.out⟩
theorem editsPuts_yes (l : List EdD) (v : Value) (w : World) (hl : EdsV (Bel w) w v l) (hn : FewN18 l) (hX : fewX18 l = true) (hok : OkL18 l) (C : EdtC w) (HA : Awake18 w) : Calls Tryz.prog 3 #[v] w (Ans9 (.bool true) w) := by
 obtain ⟨A, c, rfl⟩ := hl.shape
 have HAW := hHd (HA w (Below.refl _ _))
 have HFW : ∀ W, Below w.heap.size w W → Hid (Calls Tryz.prog 8 #[.slice A l.length c] W (Ans9 (.bool true) W)) := fun W hW => hHd (by have h := few18_any l _ W (hl.below hW) hn; rw [hX] at h; exact h)
 obtain ⟨⟨P, pe⟩, hp⟩ : ∃ x, x = putX18 leastB l := ⟨_, rfl⟩
 obtain ⟨ck, hck⟩ : ∃ b, b = l.all okE18 := ⟨_, rfl⟩
 have HPL : Hid (P.length ≤ 8192) := hHd (by have h := put_len18 l; rw [← hp] at h; exact h)
 have HP1 : ∀ W, Below w.heap.size w W → Hid (Calls Tryz.prog 9 #[.slice A l.length c] W (fun r w' => ∃ d A c, r = .returned (.tuple #[.slice A P.length c, .int .i64 (pe : Int)]) ∧ Rd w' d (.slice A P.length c) P ∧ d < w'.heap.size ∧ Below W.heap.size W w')) := fun W hW => hHd (by have h := C.put l _ W (hl.below hW) hok hW; rw [← hp] at h; exact h)
 have HP2 : ∀ W, Below w.heap.size w W → Hid (Calls Tryz.prog 10 #[.slice A l.length c] W (fun r w' => r = .returned (.tuple #[.string (txt P), .int .i64 (pe : Int)]) ∧ Below W.heap.size W w')) := fun W hW => hHd (by have h := rput18_any l _ W (hl.below hW) hok.1 hok.2.1 (fun _ => hok.2.2.1); unfold PutP18 at h; rw [← hp] at h; exact h)
 have HC1 : ∀ W, Below w.heap.size w W → Hid (Calls Tryz.prog 11 #[.slice A l.length c] W (Ans9 (.bool ck) W)) := fun W hW => hHd (by rw [hck]; exact C.check l _ W (hl.below hW) hok hW)
 have HC2 : ∀ W, Below w.heap.size w W → Hid (Calls Tryz.prog 12 #[.slice A l.length c] W (Ans9 (.bool ck) W)) := fun W hW => hHd (by rw [hck]; exact rcheck18_any l _ W (hl.below hW) hok.1 hok.2.1)
 have HGE : ∀ W d B e, Rd W d (.slice B P.length e) P → d < W.heap.size → Below w.heap.size w W → Hid (Calls Tryz.prog 13 #[.slice B P.length e] W (GetP18 P W)) := fun W d B e hr hd hW => hHd (C.get P _ d W hr (by have := HPL.out; omega) hW)
 have HLL : ∀ W, Below w.heap.size w W → EdsV (Bel W) W (.slice A l.length c) l := fun W hW => hl.below hW
 have HLB := hHd HLL
 have tp : (txt P).toList = P := txt_toList _
 have pp : (P != P) = false := by simp
 have pq : (P == P) = true := beq_self_eq_true _
 have cc : (ck != ck) = false := by simp
 have HNM := hHd hok.num
 have HFE := hHd hok.few
 have HPE := hHd hp
 clear hl hn hX hok hp hck HLL
 by_cases hpe : pe = 0
 ·have y1 : ((pe : Int) == 0) = true := by simp [hpe]
  have y2 : ((pe : Int) != 0) = false := by simp [hpe]
  have y3 : ((pe : Int) != (pe : Int)) = false := by simp
  have HGX : Hid (getX18 leastB V18 P = (l, 0)) := hHd (put_get (fun n hn => V_least18 n hn) (show putX18 leastB l = (P, 0) by rw [← HPE.out, hpe]) HNM.out)
  clear hpe
  go_enter Tryz.func3, Tryz.ntmps3
  go_wp2_with fail
  refine HAW.out.mono ?_
  rintro r w1 ⟨rfl, hb⟩
  have HB1 := hHd hb
  clear hb
  go_wp2_with fail
  refine (HFW _ HB1.out).out.mono ?_
  rintro r w2 ⟨rfl, hb⟩
  have HB2 := hHd (HB1.out.trans (hb.mono HB1.out.size))
  clear hb
  go_wp2_with fail
  refine (HP1 _ HB2.out).out.mono ?_
  rintro r w3 ⟨d, B, e, rfl, hrd, hd, hb⟩
  have HB3 := hHd (HB2.out.trans (hb.mono HB2.out.size))
  have HRD := hHd hrd
  have HD := hHd hd
  clear hb hrd hd
  go_wp2_with fail
  refine (HP2 _ HB3.out).out.mono ?_
  rintro r w4 ⟨rfl, hb⟩
  have HB4 := hHd (HB3.out.trans (hb.mono HB3.out.size))
  have HRD4 := hHd (HRD.out.below' hb)
  have HD4 := hHd (Nat.lt_of_lt_of_le HD.out hb.size)
  clear hb HRD HD
  have hst : (convert 25 9 (.slice B P.length e)).run Tryz.prog w4 = .ok (.string (txt P)) w4 := str_of HRD4.out
  go_wp2_with fail
  refine (HC1 _ HB4.out).out.mono ?_
  rintro r w5 ⟨rfl, hb⟩
  have HB5 := hHd (HB4.out.trans (hb.mono HB4.out.size))
  have HRD5 := hHd (HRD4.out.below' hb)
  have HD5 := hHd (Nat.lt_of_lt_of_le HD4.out hb.size)
  clear hb HRD4 HD4 hst
  go_wp2_with fail
  refine (HC2 _ HB5.out).out.mono ?_
  rintro r w6 ⟨rfl, hb⟩
  have HB6 := hHd (HB5.out.trans (hb.mono HB5.out.size))
  have HRD6 := hHd (HRD5.out.below' hb)
  have HD6 := hHd (Nat.lt_of_lt_of_le HD5.out hb.size)
  clear hb HRD5 HD5
  go_wp2_with fail
  refine (HGE _ d B e HRD6.out HD6.out HB6.out).out.mono ?_
  rintro r w7 ⟨m, rfl, hm, hb⟩
  rw [HGX.out] at hm
  rw [HGX.out]
  obtain ⟨M, mc, rfl⟩ := hm.shape
  have HB7 := hHd (HB6.out.trans (hb.mono HB6.out.size))
  have HSM : Hid (Calls Tryz.prog 14 #[.slice M l.length mc, .slice A l.length c] w7 (Ans9 (.bool true) w7)) := hHd (by have h := rsame16_any l l _ _ w7 hm (HLB.out w7 HB7.out) HFE.out HFE.out; rw [same_dec18] at h; exact h)
  clear hb hm HRD6 HD6
  go_wp2_with fail
  refine HSM.out.mono ?_
  rintro r w8 ⟨rfl, hb⟩
  have HB8 := hHd (HB7.out.trans (hb.mono HB7.out.size))
  clear hb
  go_wp2_with fail
  go_ret
  exact ⟨rfl, HB8.out⟩
 ·have y1 : ((pe : Int) == 0) = false := by simp [hpe]
  have y2 : ((pe : Int) != 0) = true := by simp [hpe]
  have y3 : ((pe : Int) != (pe : Int)) = false := by simp
  have hP : P = [] := by have h := put_none (L := leastB) (l := l) (by rw [← HPE.out]; exact hpe); rw [← HPE.out] at h; exact h
  subst hP
  clear hpe
  go_enter Tryz.func3, Tryz.ntmps3
  go_wp2_with fail
  refine HAW.out.mono ?_
  rintro r w1 ⟨rfl, hb⟩
  have HB1 := hHd hb
  clear hb
  go_wp2_with fail
  refine (HFW _ HB1.out).out.mono ?_
  rintro r w2 ⟨rfl, hb⟩
  have HB2 := hHd (HB1.out.trans (hb.mono HB1.out.size))
  clear hb
  go_wp2_with fail
  refine (HP1 _ HB2.out).out.mono ?_
  rintro r w3 ⟨d, B, e, rfl, hrd, hd, hb⟩
  have HB3 := hHd (HB2.out.trans (hb.mono HB2.out.size))
  have HRD := hHd hrd
  have HD := hHd hd
  clear hb hrd hd
  go_wp2_with fail
  refine (HP2 _ HB3.out).out.mono ?_
  rintro r w4 ⟨rfl, hb⟩
  have HB4 := hHd (HB3.out.trans (hb.mono HB3.out.size))
  have HRD4 := hHd (HRD.out.below' hb)
  have HD4 := hHd (Nat.lt_of_lt_of_le HD.out hb.size)
  clear hb HRD HD
  have hst : (convert 25 9 (.slice B 0 e)).run Tryz.prog w4 = .ok (.string (txt [])) w4 := str_of HRD4.out
  go_wp2_with fail
  refine (HC1 _ HB4.out).out.mono ?_
  rintro r w5 ⟨rfl, hb⟩
  have HB5 := hHd (HB4.out.trans (hb.mono HB4.out.size))
  have HRD5 := hHd (HRD4.out.below' hb)
  have HD5 := hHd (Nat.lt_of_lt_of_le HD4.out hb.size)
  clear hb HRD4 HD4 hst
  go_wp2_with fail
  refine (HC2 _ HB5.out).out.mono ?_
  rintro r w6 ⟨rfl, hb⟩
  have HB6 := hHd (HB5.out.trans (hb.mono HB5.out.size))
  have HRD6 := hHd (HRD5.out.below' hb)
  have HD6 := hHd (Nat.lt_of_lt_of_le HD5.out hb.size)
  clear hb HRD5 HD5
  go_wp2_with fail
  refine (HGE _ d B e HRD6.out HD6.out HB6.out).out.mono ?_
  rintro r w7 ⟨m, rfl, hm, hb⟩
  have HB7 := hHd (HB6.out.trans (hb.mono HB6.out.size))
  clear hb hm HRD6 HD6
  go_wp2_with fail
  go_ret
  exact ⟨rfl, HB7.out⟩
theorem editsPuts_walk (l : List EdD) (v : Value) (w : World) (hl : EdsV (Bel w) w v l) (hn : FewN18 l) (hok : fewX18 l = true → OkL18 l) (C : EdtC w) (HA : Awake18 w) : Calls Tryz.prog 3 #[v] w (Ans9 (.bool true) w) := by
 cases hX : fewX18 l with
 | false => exact editsPuts_no l v w hl hn hX HA
 | true => exact editsPuts_yes l v w hl hn hX (hok hX) C HA
end
section
attribute [local go_sem] Oper.semAt_some
theorem editsGets_long (n : Nat) (A : Option Addr) (c : Nat) (w : World) (hs : ¬ n ≤ 9000) (HA : Awake18 w) : Calls Tryz.prog 4 #[.slice A n c] w (Ans9 (.bool true) w) := by
 have HAW := hHd (HA w (Below.refl _ _))
 have i1 : (9000 : Int) < (n : Int) := by omega
 clear hs
 go_enter Tryz.func4, Tryz.ntmps4
 go_wp2_with fail
 refine HAW.out.mono ?_
 rintro r w1 ⟨rfl, hb⟩
 have HB := hHd hb
 clear hb
 go_wp2_with fail
 go_ret
 exact ⟨rfl, HB.out⟩
theorem editsGets_short (s : List UInt8) (A : Option Addr) (c d : Nat) (w : World) (hb : Rd w d (.slice A s.length c) s) (hs : s.length ≤ 9000) (C : EdtC w) (HA : Awake18 w) : Calls Tryz.prog 4 #[.slice A s.length c] w (Ans9 (.bool true) w) := by
 have HAW := hHd (HA w (Below.refl _ _))
 obtain ⟨⟨X, ge⟩, hx⟩ : ∃ x, x = getX18 leastB V18 s := ⟨_, rfl⟩
 have hok := get_okl18 s hs
 rw [← hx] at hok
 simp only at hok
 obtain ⟨⟨P, pe⟩, hp⟩ : ∃ x, x = putX18 leastB X := ⟨_, rfl⟩
 have HX : Hid (getX18 leastB V18 s = (X, ge)) := hHd hx.symm
 have HPX : Hid (putX18 leastB X = (P, pe)) := hHd hp.symm
 have HRD : Hid (∀ W, Below w.heap.size w W → Rd W d (.slice A s.length c) s) := hHd (fun W hW => hb.below' hW)
 have HGE : ∀ W, Below w.heap.size w W → Hid (Calls Tryz.prog 13 #[.slice A s.length c] W (GetP18 s W)) := fun W hW => hHd (C.get s _ d W (hb.below' hW) hs hW)
 have HGR : ∀ W, Hid (Calls Tryz.prog 15 #[.string (txt s)] W (GetP18 s W)) := fun W => hHd (rget18_any s W (by omega))
 have HP1 : ∀ M mc W, EdsV (Bel W) W (.slice M X.length mc) X → Below w.heap.size w W → Hid (Calls Tryz.prog 9 #[.slice M X.length mc] W (fun r w' => ∃ d A c, r = .returned (.tuple #[.slice A P.length c, .int .i64 (pe : Int)]) ∧ Rd w' d (.slice A P.length c) P ∧ d < w'.heap.size ∧ Below W.heap.size W w')) := fun M mc W hv hW => hHd (by have h := C.put X _ W hv hok hW; rw [← hp] at h; exact h)
 have HC1 : ∀ M mc W, EdsV (Bel W) W (.slice M X.length mc) X → Below w.heap.size w W → Hid (Calls Tryz.prog 11 #[.slice M X.length mc] W (Ans9 (.bool (X.all okE18)) W)) := fun M mc W hv hW => hHd (C.check X _ W hv hok hW)
 have HFE := hHd hok.few
 have z0 : (ge != ge) = false := by simp
 have z1 : (ge == ge) = true := beq_self_eq_true _
 clear hb hok hx hp
 by_cases hge : ge = 0
 ·have hpp : putX18 leastB X = (s, 0) := get_put (V := V18) (by rw [HX.out, hge])
  rw [HPX.out] at hpp
  injection hpp with e1 e2
  have e3 := e1.symm
  clear e1
  subst e3 e2 hge
  have HAL : Hid (X.all okE18 = true) := hHd (put_ok.1 HPX.out).1
  have tp : (txt s).toList = s := txt_toList _
  have pq : (s == s) = true := beq_self_eq_true _
  have i1 : ¬ (9000 : Int) < (s.length : Int) := by omega
  clear hs
  go_enter Tryz.func4, Tryz.ntmps4
  go_wp2_with fail
  refine HAW.out.mono ?_
  rintro r w1 ⟨rfl, hb1⟩
  have HB1 := hHd hb1
  clear hb1
  go_wp2_with fail
  refine (HGE _ HB1.out).out.mono ?_
  rintro r w2 ⟨m, rfl, hm, hb2⟩
  rw [HX.out]
  rw [HX.out] at hm
  obtain ⟨M, mc, rfl⟩ := hm.shape
  have HM2 := hHd hm
  have HB2 := hHd (HB1.out.trans (hb2.mono HB1.out.size))
  have hst : (convert 25 9 (.slice A s.length c)).run Tryz.prog w2 = .ok (.string (txt s)) w2 := str_of (HRD.out _ HB2.out)
  clear hb2 hm
  go_wp2_with fail
  refine (HGR _).out.mono ?_
  rintro r w3 ⟨n, rfl, hn, hb3⟩
  rw [HX.out]
  rw [HX.out] at hn
  obtain ⟨N, nc, rfl⟩ := hn.shape
  have HB3 := hHd (HB2.out.trans (hb3.mono HB2.out.size))
  have hm3 := HM2.out.below hb3
  have HM3 := hHd hm3
  have HSM : Hid (Calls Tryz.prog 14 #[.slice M X.length mc, .slice N X.length nc] w3 (Ans9 (.bool true) w3)) := hHd (by have h := rsame16_any X X _ _ w3 hm3 hn HFE.out HFE.out; rw [same_dec18] at h; exact h)
  clear hb3 hn hm3 HM2 hst
  go_wp2_with fail
  refine HSM.out.mono ?_
  rintro r w4 ⟨rfl, hb4⟩
  have HB4 := hHd (HB3.out.trans (hb4.mono HB3.out.size))
  have HM4 := hHd (HM3.out.below hb4)
  have HPU := hHd (HP1 _ _ _ HM4.out HB4.out)
  clear hb4 HM3 HSM
  go_wp2_with fail
  refine HPU.out.out.mono ?_
  rintro r w5 ⟨pd, B, e, rfl, hrd, hd, hb5⟩
  have HB5 := hHd (HB4.out.trans (hb5.mono HB4.out.size))
  have HM5 := hHd (HM4.out.below hb5)
  have hst : (convert 25 9 (.slice B s.length e)).run Tryz.prog w5 = .ok (.string (txt s)) w5 := str_of hrd
  have hst2 : (convert 25 9 (.slice A s.length c)).run Tryz.prog w5 = .ok (.string (txt s)) w5 := str_of (HRD.out _ HB5.out)
  have HCK := HC1 _ _ _ HM5.out HB5.out
  rw [HAL.out] at HCK
  clear hb5 hrd hd HM4 HPU
  go_wp2_with fail
  refine HCK.out.mono ?_
  rintro r w6 ⟨rfl, hb6⟩
  have HB6 := hHd (HB5.out.trans (hb6.mono HB5.out.size))
  clear hb6
  go_wp2_with fail
  go_ret
  exact ⟨rfl, HB6.out⟩
 ·have y1 : (ge == 0) = false := beq_eq_false_iff_ne.2 hge
  have y2 : (ge != 0) = true := by simp [hge]
  have hX0 : X = [] := by have h := get_none (L := leastB) (V := V18) (b := s) (by rw [HX.out]; exact hge); rw [HX.out] at h; exact h
  have y5 : ((X.length : Int) == 0) = true := by simp [hX0]
  have y6 : (X.length == 0) = true := by simp [hX0]
  clear hge hX0
  have i1 : ¬ (9000 : Int) < (s.length : Int) := by omega
  clear hs
  go_enter Tryz.func4, Tryz.ntmps4
  go_wp2_with fail
  refine HAW.out.mono ?_
  rintro r w1 ⟨rfl, hb1⟩
  have HB1 := hHd hb1
  clear hb1
  go_wp2_with fail
  refine (HGE _ HB1.out).out.mono ?_
  rintro r w2 ⟨m, rfl, hm, hb2⟩
  rw [HX.out]
  rw [HX.out] at hm
  obtain ⟨M, mc, rfl⟩ := hm.shape
  have HM2 := hHd hm
  have HB2 := hHd (HB1.out.trans (hb2.mono HB1.out.size))
  have hst : (convert 25 9 (.slice A s.length c)).run Tryz.prog w2 = .ok (.string (txt s)) w2 := str_of (HRD.out _ HB2.out)
  clear hb2 hm
  go_wp2_with fail
  refine (HGR _).out.mono ?_
  rintro r w3 ⟨n, rfl, hn, hb3⟩
  rw [HX.out]
  rw [HX.out] at hn
  obtain ⟨N, nc, rfl⟩ := hn.shape
  have HB3 := hHd (HB2.out.trans (hb3.mono HB2.out.size))
  have hm3 := HM2.out.below hb3
  have HM3 := hHd hm3
  have HSM : Hid (Calls Tryz.prog 14 #[.slice M X.length mc, .slice N X.length nc] w3 (Ans9 (.bool true) w3)) := hHd (by have h := rsame16_any X X _ _ w3 hm3 hn HFE.out HFE.out; rw [same_dec18] at h; exact h)
  clear hb3 hn hm3 HM2 hst
  go_wp2_with fail
  refine HSM.out.mono ?_
  rintro r w4 ⟨rfl, hb4⟩
  have HB4 := hHd (HB3.out.trans (hb4.mono HB3.out.size))
  have HM4 := hHd (HM3.out.below hb4)
  have HPU := hHd (HP1 _ _ _ HM4.out HB4.out)
  clear hb4 HM3 HSM
  go_wp2_with fail
  refine HPU.out.out.mono ?_
  rintro r w5 ⟨pd, B, e, rfl, hrd, hd, hb5⟩
  have HB5 := hHd (HB4.out.trans (hb5.mono HB4.out.size))
  have HM5 := hHd (HM4.out.below hb5)
  clear hb5 hrd hd HM4 HPU
  go_wp2_with fail
  go_ret
  exact ⟨rfl, HB5.out⟩
theorem editsGets_walk (zs : List Int) (n : Nat) (A : Option Addr) (c : Nat) (w : World) (hb : IsRow .u8 w A n c zs) (C : EdtC w) (HA : Awake18 w) : Calls Tryz.prog 4 #[.slice A n c] w (Ans9 (.bool true) w) := by
 by_cases hs : n ≤ 9000
 ·obtain ⟨d, s, rfl, _, hr⟩ := hb.rd (by omega)
  exact editsGets_short s A c d w hr hs C HA
 ·exact editsGets_long n A c w hs HA
end
theorem rowE.take18 {S : Nat → Prop} {w : World} : ∀ {l : List EdD} {xs : List Value} (k : Nat), rowE S w xs l → rowE S w (xs.take (k * 14)) (l.take k) := by
 intro l
 induction l with
 | nil => intro xs k h; rw [show xs = [] from h]; simp [rowE]
 | cons e l ih =>
  intro xs k ⟨cs, ys, h1, h2, h3⟩
  subst h1
  cases k with
  | zero => simp [rowE]
  | succ k =>
   refine ⟨cs, ys.take (k * 14), ?_, h2, ih k h3⟩
   rw [List.take_append, h2.len, List.take_of_length_le (by rw [h2.len]; omega)]
   congr 2
   omega
theorem rowE.drop18 {S : Nat → Prop} {w : World} : ∀ {l : List EdD} {xs : List Value} (k : Nat), rowE S w xs l → rowE S w (xs.drop (k * 14)) (l.drop k) := by
 intro l
 induction l with
 | nil => intro xs k h; rw [show xs = [] from h]; simp [rowE]
 | cons e l ih =>
  intro xs k ⟨cs, ys, h1, h2, h3⟩
  subst h1
  cases k with
  | zero => exact ⟨cs, ys, by simp, h2, h3⟩
  | succ k =>
   rw [List.drop_append, h2.len, List.drop_of_length_le (by rw [h2.len]; omega), List.nil_append, show (k + 1) * 14 - 14 = k * 14 by omega]
   exact ih k h3
theorem EdsV.take18 {S : Nat → Prop} {w : World} {A : Option Addr} {n c : Nat} {l : List EdD} (h : EdsV S w (.slice A n c) l) (k : Nat) (hk : k ≤ n) : EdsV S w (.slice A k c) (l.take k) := by
 obtain ⟨A', c', e, h1, h2⟩ := h
 injection e with e1 e2 e3
 subst e1 e2 e3
 refine ⟨A, c, by rw [List.length_take, Nat.min_eq_left hk], by rw [List.length_take]; omega, fun h0 => ?_⟩
 rw [List.length_take] at h0
 obtain ⟨g, o, xs, rfl, h3, h4, h5⟩ := h2 (by omega)
 refine ⟨g, o, _, rfl, h3, h4.take18 k, fun j u hu => h5 j u ?_⟩
 rw [List.getElem?_take] at hu
 split at hu
 ·exact hu
 ·cases hu
theorem EdsV.drop18 {S : Nat → Prop} {w : World} {g o n c : Nat} {l : List EdD} (h : EdsV S w (.slice (some ⟨g, o, none⟩) n c) l) (k : Nat) (hk : k ≤ n) : EdsV S w (.slice (some ⟨g, o + k * 14, none⟩) (n - k) (c - k)) (l.drop k) := by
 obtain ⟨A', c', e, h1, h2⟩ := h
 injection e with e1 e2 e3
 subst e2 e3
 refine ⟨_, _, by rw [List.length_drop], by rw [List.length_drop]; omega, fun h0 => ?_⟩
 rw [List.length_drop] at h0
 obtain ⟨g', o', xs, e, h3, h4, h5⟩ := h2 (by omega)
 rw [← e1] at e
 injection e with e
 injection e with e2 e3
 subst e2 e3
 refine ⟨g, _, _, rfl, h3, h4.drop18 k, fun j u hu => ?_⟩
 rw [List.getElem?_drop] at hu
 have := h5 _ u hu
 rwa [← Nat.add_assoc] at this
theorem EdsV.tail_18 {S : Nat → Prop} {w : World} {A : Option Addr} {n c : Nat} {l : List EdD} (h : EdsV S w (.slice A n c) l) (k : Nat) (hk : k ≤ n) : EdsV S w (.slice (if c = k then A else Option.map (fun x => x.add (k * 14)) A) (n - k) (c - k)) (l.drop k) := by
 have hn : n = l.length := by obtain ⟨_, _, e, _⟩ := h; injection e
 have hc : n ≤ c := by obtain ⟨_, _, e, h1, _⟩ := h; injection e with _ _ e; rw [e, hn]; exact h1
 by_cases hz : n - k = 0
 ·have : l.drop k = [] := List.drop_eq_nil_iff.2 (by omega)
  rw [this, hz]
  exact ⟨_, _, rfl, Nat.zero_le _, fun h => absurd h (by simp)⟩
 ·rw [if_neg (by omega)]
  obtain ⟨A', c', e, h1, h2⟩ := id h
  injection e with e1 e2 e3
  obtain ⟨g, o, _, e4, _⟩ := h2 (by omega)
  rw [← e1] at e4
  subst e4
  have e5 : Option.map (fun x : Addr => x.add (k * 14)) (some ⟨g, o, none⟩) = some ⟨g, o + k * 14, none⟩ := by
   simp only [Option.map_some]
   congr 1
   unfold Addr.add; split <;> simp_all
  rw [e5]
  exact h.drop18 k hk
theorem okl_take18 {l : List EdD} (h : OkL18 l) (k : Nat) : OkL18 (l.take k) ∧ OkL18 (l.drop k) := by
 obtain ⟨h1, h2, h3, h4⟩ := h
 have e : itsE18 leastB l = (itsE18 leastB (l.take k)).app (itsE18 leastB (l.drop k)) := by rw [← its_app18, List.take_append_drop]
 rw [e, Fo.sz_app] at h3
 rw [e, Fo.cnt_app] at h4
 exact ⟨⟨by rw [List.length_take]; omega, fun x hx => h2 x (List.mem_of_mem_take hx), by omega, by omega⟩, ⟨by rw [List.length_drop]; omega, fun x hx => h2 x (List.mem_of_mem_drop hx), by omega, by omega⟩⟩
end Go.Proofs.YtleidkpdpabkpaaGreatDoor
