/- VadRefE -/
import Derived.Test.YtleidkpdpabkpaaGreatDoorBM22
set_option linter.unusedSimpArgs false
set_option linter.unusedVariables false
set_option maxRecDepth 100000
set_option maxHeartbeats 8000000
namespace Go.Proofs.YtleidkpdpabkpaaGreatDoor
open Go.RowKit
section
attribute [local go_sem] Oper.semAt_some
def wayO (l : List Stp) : Option Bad → Bad
 | none => (0, [])
 | some b => (b.1, l ++ b.2)
def RInP (k : NdF) : Prop := ∀ (s : Sp) (cs : List Value) (a : NdD) (A : Option Addr) (c : Nat) (l : List Stp) (vw : Value) (w : World), SpL w.heap.size w cs s → SpOk s.2 → s.2.len ≤ 1000000 → RowT w.heap.size w (.slice A k.len c) k → WayV w.heap.size w vw l →
 l.length + k.size ≤ 1000000 → OkF k → Calls Tryz.prog 67 #[.agg cs.toArray, .agg (cN a (.slice A k.len c)), vw] w (FirstP (wayO l (insideX s.2 k)) w)
theorem rone_box (nm : List UInt8) (kd ty lo hi : Nat) (ns : List (List UInt8)) (mu : Bool) (mo : Nat) (sf : SpF) (B1 : Option Addr) (m1 : Nat) (A1 : Option Addr) (c1 : Nat) (d : Nat) (a : NdD) (k : NdF) (A : Option Addr) (c ahead : Nat) (l : List Stp) (Aw : Option Addr) (cw : Nat) (w : World) (hs : SpL w.heap.size w ((cT nm kd ty lo hi ns mu mo B1 m1 A1 sf.len c1) : Array Value).toList ((⟨nm, kd, ty, lo, hi, ns, mu, mo⟩ : SpD), sf)) (hso : SpOk sf) (hsl : sf.len ≤ 1000000) (hv : Vals w d (.slice B1 ns.length m1) (txts ns)) (hns : ns.length ≤ 1000000) (hrow : RowT w.heap.size w (.slice A k.len c) k) (hway : WayV w.heap.size w (.slice Aw l.length cw) l) (hll : l.length + k.size ≤ 1000000) (hok : OkD a) (hkf : OkF k) (hah : ahead ≤ 1000000) (h1 : kd ≠ 1) (h3 : kd ≠ 3) (hW : RInP k) : Calls Tryz.prog 97 #[.agg (cT nm kd ty lo hi ns mu mo B1 m1 A1 sf.len c1), .agg (cN a (.slice A k.len c)), .int .i64 (ahead : Int), .slice Aw l.length cw] w (FirstP (wayO l (kidX1 ((⟨nm, kd, ty, lo, hi, ns, mu, mo⟩ : SpD), sf) a k ahead)) w) := by
 have hx1 : Below w.heap.size w (w.alloc (.cells (cT nm kd ty lo hi ns mu mo B1 m1 A1 sf.len c1) 109)) := bAl
 have hx2 : Below w.heap.size w ((w.alloc (.cells (cT nm kd ty lo hi ns mu mo B1 m1 A1 sf.len c1) 109)).alloc (.cells (cN a (.slice A k.len c)) 42)) := hx1.alloc hx1.size _
 have hk1 : Blk ((w.alloc (.cells (cT nm kd ty lo hi ns mu mo B1 m1 A1 sf.len c1) 109)).alloc (.cells (cN a (.slice A k.len c)) 42)) w.heap.size 109 (cT nm kd ty lo hi ns mu mo B1 m1 A1 sf.len c1) := (Blk.new w 109 (cT nm kd ty lo hi ns mu mo B1 m1 A1 sf.len c1)).alloc _
 have hk2 : Blk ((w.alloc (.cells (cT nm kd ty lo hi ns mu mo B1 m1 A1 sf.len c1) 109)).alloc (.cells (cN a (.slice A k.len c)) 42)) (w.heap.size + 1) 42 (cN a (.slice A k.len c)) := Blk.newA (w := (w.alloc (.cells (cT nm kd ty lo hi ns mu mo B1 m1 A1 sf.len c1) 109))) (by simp) _ _
 have HK1 := hHd hk1
 have HK2 := hHd hk2
 have HX2 := hHd hx2
 have HW2 := hHd (hway.under hx2 (Nat.le_refl _) hx2.size)
 have y1 := (hk1.cell 1).trans rfl
 obtain ⟨q0, q1, q2, q3, q4, q5⟩ := cl6 HK2.out
 have k1 : ((kd : Int) == 1) = false := beq_eq_false_iff_ne.2 (by omega)
 have k3 : ((kd : Int) == 3) = false := beq_eq_false_iff_ne.2 (by omega)
 have hkx : kidX1 ((⟨nm, kd, ty, lo, hi, ns, mu, mo⟩ : SpD), sf) a k ahead = if a.kind ≠ 0 ∨ a.key ≠ [] then some (23, []) else insideX sf k := by
  unfold kidX1 headX
  simp only [if_neg h1, if_neg h3]
  by_cases h : a.kind ≠ 0 ∨ a.key ≠ []
  ·simp only [if_pos h]
  ·simp only [if_neg h]
 have HKX := hHd hkx
 have HW := hHd (hW ((⟨nm, kd, ty, lo, hi, ns, mu, mo⟩ : SpD), sf) ((cT nm kd ty lo hi ns mu mo B1 m1 A1 sf.len c1) : Array Value).toList a A c l (.slice Aw l.length cw) ((w.alloc (.cells (cT nm kd ty lo hi ns mu mo B1 m1 A1 sf.len c1) 109)).alloc (.cells (cN a (.slice A k.len c)) 42)) (hs.keep (fun g hg => hx2.block g hg) hx2.size) hso hsl (hrow.under hx2 (Nat.le_refl _) hx2.size) (hway.under hx2 (Nat.le_refl _) hx2.size) hll hkf)
 clear hs hso hsl hv hns hrow hway hll hok hkf hah h1 h3 hW hkx hx1 hx2 hk1 hk2
 go_enter Tryz.func97, Tryz.ntmps97
 by_cases ha : a.kind = 0
 ·have e0 : (a.kind != 0) = false := by rw [ha]; rfl
  have HA := hHd ha
  clear ha
  by_cases hb : a.key = []
  ·have e1 : ((txt a.key).toList == []) = true := by rw [txt_toList, hb]; rfl
   have HX : Hid (kidX1 ((⟨nm, kd, ty, lo, hi, ns, mu, mo⟩ : SpD), sf) a k ahead = insideX sf k) := hHd (by rw [HKX.out, if_neg (by rintro (h | h); exact h HA.out; exact h hb)])
   clear hb
   have y0 := (HK1.out.cell 0).trans rfl
   have y2 := (HK1.out.cell 2).trans rfl
   have y3 := (HK1.out.cell 3).trans rfl
   have y4 := (HK1.out.cell 4).trans rfl
   have y5 := (HK1.out.cell 5).trans rfl
   have y6 := (HK1.out.cell 6).trans rfl
   have y7 := (HK1.out.cell 7).trans rfl
   have y8 := (HK1.out.cell 8).trans rfl
   go_wp2_with fail
   refine HW.out.mono ?_
   rintro r w5 ⟨v5, rfl, hv5, hb5⟩
   obtain ⟨A5, c5, rfl⟩ := hv5.shape
   have HV5 := hHd hv5
   have HB5 := hHd (HX2.out.trans (hb5.mono HX2.out.size))
   clear hv5 hb5
   go_wp2
   go_ret2
   rw [HX.out]
   exact ⟨_, rfl, HV5.out, HB5.out⟩
  ·have e1 : ((txt a.key).toList == []) = false := by rw [txt_toList]; exact beq_eq_false_iff_ne.2 hb
   have HX : Hid (kidX1 ((⟨nm, kd, ty, lo, hi, ns, mu, mo⟩ : SpD), sf) a k ahead = some (23, [])) := hHd (by rw [HKX.out, if_pos (.inr hb)])
   clear hb
   go_wp2
   go_ret2
   rw [HX.out]
   exact ⟨_, rfl, by simpa [wayO] using HW2.out, HX2.out⟩
 ·have e0 : (a.kind != 0) = true := by unfold bne; rw [beq_eq_false_iff_ne.2 ha]; rfl
  have HX : Hid (kidX1 ((⟨nm, kd, ty, lo, hi, ns, mu, mo⟩ : SpD), sf) a k ahead = some (23, [])) := hHd (by rw [HKX.out, if_pos (.inl ha)])
  clear ha
  go_wp2
  go_ret2
  rw [HX.out]
  exact ⟨_, rfl, by simpa [wayO] using HW2.out, HX2.out⟩
theorem rone_list (nm : List UInt8) (kd ty lo hi : Nat) (ns : List (List UInt8)) (mu : Bool) (mo : Nat) (sf : SpF) (B1 : Option Addr) (m1 : Nat) (A1 : Option Addr) (c1 : Nat) (d : Nat) (a : NdD) (k : NdF) (A : Option Addr) (c ahead : Nat) (l : List Stp) (Aw : Option Addr) (cw : Nat) (w : World) (hs : SpL w.heap.size w ((cT nm kd ty lo hi ns mu mo B1 m1 A1 sf.len c1) : Array Value).toList ((⟨nm, kd, ty, lo, hi, ns, mu, mo⟩ : SpD), sf)) (hso : SpOk sf) (hsl : sf.len ≤ 1000000) (hv : Vals w d (.slice B1 ns.length m1) (txts ns)) (hns : ns.length ≤ 1000000) (hrow : RowT w.heap.size w (.slice A k.len c) k) (hway : WayV w.heap.size w (.slice Aw l.length cw) l) (hll : l.length + k.size ≤ 1000000) (hok : OkD a) (hkf : OkF k) (hah : ahead ≤ 1000000) (h3 : kd = 3) (hW : RInP k) : Calls Tryz.prog 97 #[.agg (cT nm kd ty lo hi ns mu mo B1 m1 A1 sf.len c1), .agg (cN a (.slice A k.len c)), .int .i64 (ahead : Int), .slice Aw l.length cw] w (FirstP (wayO l (kidX1 ((⟨nm, kd, ty, lo, hi, ns, mu, mo⟩ : SpD), sf) a k ahead)) w) := by
 have hx1 : Below w.heap.size w (w.alloc (.cells (cT nm kd ty lo hi ns mu mo B1 m1 A1 sf.len c1) 109)) := bAl
 have hx2 : Below w.heap.size w ((w.alloc (.cells (cT nm kd ty lo hi ns mu mo B1 m1 A1 sf.len c1) 109)).alloc (.cells (cN a (.slice A k.len c)) 42)) := hx1.alloc hx1.size _
 have hk1 : Blk ((w.alloc (.cells (cT nm kd ty lo hi ns mu mo B1 m1 A1 sf.len c1) 109)).alloc (.cells (cN a (.slice A k.len c)) 42)) w.heap.size 109 (cT nm kd ty lo hi ns mu mo B1 m1 A1 sf.len c1) := (Blk.new w 109 (cT nm kd ty lo hi ns mu mo B1 m1 A1 sf.len c1)).alloc _
 have hk2 : Blk ((w.alloc (.cells (cT nm kd ty lo hi ns mu mo B1 m1 A1 sf.len c1) 109)).alloc (.cells (cN a (.slice A k.len c)) 42)) (w.heap.size + 1) 42 (cN a (.slice A k.len c)) := Blk.newA (w := (w.alloc (.cells (cT nm kd ty lo hi ns mu mo B1 m1 A1 sf.len c1) 109))) (by simp) _ _
 have HK1 := hHd hk1
 have HK2 := hHd hk2
 have HX2 := hHd hx2
 have HW2 := hHd (hway.under hx2 (Nat.le_refl _) hx2.size)
 have y1 := (hk1.cell 1).trans rfl
 obtain ⟨q0, q1, q2, q3, q4, q5⟩ := cl6 HK2.out
 have k1 : ((kd : Int) == 1) = false := beq_eq_false_iff_ne.2 (by omega)
 have k3 : ((kd : Int) == 3) = true := beq_iff_eq.2 (by omega)
 have hkx : kidX1 ((⟨nm, kd, ty, lo, hi, ns, mu, mo⟩ : SpD), sf) a k ahead = if a.kind ≠ 0 ∨ identX a.key = false then some (23, []) else if mo ≤ ahead then some (27, []) else insideX sf k := by
  unfold kidX1 headX
  simp only [if_neg (show ¬ kd = 1 by omega), if_pos h3]
  by_cases h : a.kind ≠ 0 ∨ identX a.key = false
  ·simp only [if_pos h]
  ·simp only [if_neg h]
   by_cases h2 : mo ≤ ahead
   ·simp only [if_pos h2]
   ·simp only [if_neg h2]
 have HKX := hHd hkx
 have HW := hHd (hW ((⟨nm, kd, ty, lo, hi, ns, mu, mo⟩ : SpD), sf) ((cT nm kd ty lo hi ns mu mo B1 m1 A1 sf.len c1) : Array Value).toList a A c l (.slice Aw l.length cw) ((w.alloc (.cells (cT nm kd ty lo hi ns mu mo B1 m1 A1 sf.len c1) 109)).alloc (.cells (cN a (.slice A k.len c)) 42)) (hs.keep (fun g hg => hx2.block g hg) hx2.size) hso hsl (hrow.under hx2 (Nat.le_refl _) hx2.size) (hway.under hx2 (Nat.le_refl _) hx2.size) hll hkf)
 have HID := hHd (rident_any a.key (by have := hok.key; omega) ((w.alloc (.cells (cT nm kd ty lo hi ns mu mo B1 m1 A1 sf.len c1) 109)).alloc (.cells (cN a (.slice A k.len c)) 42)))
 have n0 : (ahead : Int) ≤ 1000000 := by omega
 clear hs hso hsl hv hns hrow hway hll hok hkf h3 hW hkx hx1 hx2 hk1 hk2
 go_enter Tryz.func97, Tryz.ntmps97
 go_wp2_with fail
 refine HID.out.mono ?_
 rintro r w' ⟨rfl, rfl⟩
 by_cases ha : a.kind = 0
 ·have e0 : (a.kind != 0) = false := by rw [ha]; rfl
  have HA := hHd ha
  clear ha
  cases hidx : identX a.key with
  | false =>
   have HX : Hid (kidX1 ((⟨nm, kd, ty, lo, hi, ns, mu, mo⟩ : SpD), sf) a k ahead = some (23, [])) := hHd (by rw [HKX.out, if_pos (.inr hidx)])
   clear hidx
   go_wp2
   go_ret2
   rw [HX.out]
   exact ⟨_, rfl, by simpa [wayO] using HW2.out, HX2.out⟩
  | true =>
   have HKY : Hid (kidX1 ((⟨nm, kd, ty, lo, hi, ns, mu, mo⟩ : SpD), sf) a k ahead = if mo ≤ ahead then some (27, []) else insideX sf k) := hHd (by rw [HKX.out, if_neg (by rintro (h | h); exact h HA.out; rw [hidx] at h; cases h)])
   clear hidx
   have y7 := (HK1.out.cell 7).trans rfl
   by_cases hm : mo ≤ ahead
   ·have k4 : (mo : Int) ≤ (ahead : Int) := by omega
    have HX : Hid (kidX1 ((⟨nm, kd, ty, lo, hi, ns, mu, mo⟩ : SpD), sf) a k ahead = some (27, [])) := hHd (by rw [HKY.out, if_pos hm])
    clear hm
    go_wp2
    go_ret2
    rw [HX.out]
    exact ⟨_, rfl, by simpa [wayO] using HW2.out, HX2.out⟩
   ·have k4 : ¬ (mo : Int) ≤ (ahead : Int) := by omega
    have HX : Hid (kidX1 ((⟨nm, kd, ty, lo, hi, ns, mu, mo⟩ : SpD), sf) a k ahead = insideX sf k) := hHd (by rw [HKY.out, if_neg hm])
    clear hm
    have y0 := (HK1.out.cell 0).trans rfl
    have y2 := (HK1.out.cell 2).trans rfl
    have y3 := (HK1.out.cell 3).trans rfl
    have y4 := (HK1.out.cell 4).trans rfl
    have y5 := (HK1.out.cell 5).trans rfl
    have y6 := (HK1.out.cell 6).trans rfl
    have y7 := (HK1.out.cell 7).trans rfl
    have y8 := (HK1.out.cell 8).trans rfl
    go_wp2_with fail
    refine HW.out.mono ?_
    rintro r w5 ⟨v5, rfl, hv5, hb5⟩
    obtain ⟨A5, c5, rfl⟩ := hv5.shape
    have HV5 := hHd hv5
    have HB5 := hHd (HX2.out.trans (hb5.mono HX2.out.size))
    clear hv5 hb5
    go_wp2
    go_ret2
    rw [HX.out]
    exact ⟨_, rfl, HV5.out, HB5.out⟩
 ·have e0 : (a.kind != 0) = true := by unfold bne; rw [beq_eq_false_iff_ne.2 ha]; rfl
  have HX : Hid (kidX1 ((⟨nm, kd, ty, lo, hi, ns, mu, mo⟩ : SpD), sf) a k ahead = some (23, [])) := hHd (by rw [HKX.out, if_pos (.inl ha)])
  clear ha
  go_wp2
  go_ret2
  rw [HX.out]
  exact ⟨_, rfl, by simpa [wayO] using HW2.out, HX2.out⟩
theorem rone_leaf (nm : List UInt8) (kd ty lo hi : Nat) (ns : List (List UInt8)) (mu : Bool) (mo : Nat) (sf : SpF) (B1 : Option Addr) (m1 : Nat) (A1 : Option Addr) (c1 : Nat) (d : Nat) (a : NdD) (k : NdF) (A : Option Addr) (c ahead : Nat) (l : List Stp) (Aw : Option Addr) (cw : Nat) (w : World) (hs : SpL w.heap.size w ((cT nm kd ty lo hi ns mu mo B1 m1 A1 sf.len c1) : Array Value).toList ((⟨nm, kd, ty, lo, hi, ns, mu, mo⟩ : SpD), sf)) (hso : SpOk sf) (hsl : sf.len ≤ 1000000) (hv : Vals w d (.slice B1 ns.length m1) (txts ns)) (hns : ns.length ≤ 1000000) (hrow : RowT w.heap.size w (.slice A k.len c) k) (hway : WayV w.heap.size w (.slice Aw l.length cw) l) (hll : l.length + k.size ≤ 1000000) (hok : OkD a) (hkf : OkF k) (hah : ahead ≤ 1000000) (h1 : kd = 1) : Calls Tryz.prog 97 #[.agg (cT nm kd ty lo hi ns mu mo B1 m1 A1 sf.len c1), .agg (cN a (.slice A k.len c)), .int .i64 (ahead : Int), .slice Aw l.length cw] w (FirstP (wayO l (kidX1 ((⟨nm, kd, ty, lo, hi, ns, mu, mo⟩ : SpD), sf) a k ahead)) w) := by
 have hx1 : Below w.heap.size w (w.alloc (.cells (cT nm kd ty lo hi ns mu mo B1 m1 A1 sf.len c1) 109)) := bAl
 have hx2 : Below w.heap.size w ((w.alloc (.cells (cT nm kd ty lo hi ns mu mo B1 m1 A1 sf.len c1) 109)).alloc (.cells (cN a (.slice A k.len c)) 42)) := hx1.alloc hx1.size _
 have hk1 : Blk ((w.alloc (.cells (cT nm kd ty lo hi ns mu mo B1 m1 A1 sf.len c1) 109)).alloc (.cells (cN a (.slice A k.len c)) 42)) w.heap.size 109 (cT nm kd ty lo hi ns mu mo B1 m1 A1 sf.len c1) := (Blk.new w 109 (cT nm kd ty lo hi ns mu mo B1 m1 A1 sf.len c1)).alloc _
 have hk2 : Blk ((w.alloc (.cells (cT nm kd ty lo hi ns mu mo B1 m1 A1 sf.len c1) 109)).alloc (.cells (cN a (.slice A k.len c)) 42)) (w.heap.size + 1) 42 (cN a (.slice A k.len c)) := Blk.newA (w := (w.alloc (.cells (cT nm kd ty lo hi ns mu mo B1 m1 A1 sf.len c1) 109))) (by simp) _ _
 have HK1 := hHd hk1
 have HK2 := hHd hk2
 have HX2 := hHd hx2
 have HW2 := hHd (hway.under hx2 (Nat.le_refl _) hx2.size)
 have y1 := (hk1.cell 1).trans rfl
 obtain ⟨q0, q1, q2, q3, q4, q5⟩ := cl6 HK2.out
 have k1 : ((kd : Int) == 1) = true := beq_iff_eq.2 (by omega)
 have hkx : kidX1 ((⟨nm, kd, ty, lo, hi, ns, mu, mo⟩ : SpD), sf) a k ahead = if leafB (⟨nm, kd, ty, lo, hi, ns, mu, mo⟩ : SpD) a k = true then none else some (23, []) := by
  unfold kidX1 headX
  simp only [if_pos h1]
  cases hb : leafB (⟨nm, kd, ty, lo, hi, ns, mu, mo⟩ : SpD) a k with
  | true => simp only [if_true]
  | false => rfl
 have HKX := hHd hkx
 have hv2 : Vals ((w.alloc (.cells (cT nm kd ty lo hi ns mu mo B1 m1 A1 sf.len c1) 109)).alloc (.cells (cN a (.slice A k.len c)) 42)) d (.slice B1 ns.length m1) (txts ns) := hv.heap (fun h0 => by
  obtain ⟨_, _, _, _, h2⟩ := hv
  exact hx2.block d (h2 h0).1)
 have HRI := hHd (vrright_any (⟨nm, kd, ty, lo, hi, ns, mu, mo⟩ : SpD) (vlOf a) B1 m1 d A1 sf.len c1 ((w.alloc (.cells (cT nm kd ty lo hi ns mu mo B1 m1 A1 sf.len c1) 109)).alloc (.cells (cN a (.slice A k.len c)) 42)) hv2 hns hok.vl)
 obtain ⟨rb, hrb⟩ : ∃ rb, rb = rightX (⟨nm, kd, ty, lo, hi, ns, mu, mo⟩ : SpD) (vlOf a) := ⟨_, rfl⟩
 have HLB : Hid (leafB (⟨nm, kd, ty, lo, hi, ns, mu, mo⟩ : SpD) a k = (decide (a.key = []) && decide (k.len = 0) && rb)) := hHd (by rw [hrb]; rfl)
 rw [← hrb] at HRI
 have y0 := (HK1.out.cell 0).trans rfl
 have y2 := (HK1.out.cell 2).trans rfl
 have y3 := (HK1.out.cell 3).trans rfl
 have y4 := (HK1.out.cell 4).trans rfl
 have y5 := (HK1.out.cell 5).trans rfl
 have y6 := (HK1.out.cell 6).trans rfl
 have y7 := (HK1.out.cell 7).trans rfl
 have y8 := (HK1.out.cell 8).trans rfl
 clear hs hso hsl hv hns hrow hway hll hok hkf h1 hkx hx1 hx2 hk1 hk2 hv2 hrb
 go_enter Tryz.func97, Tryz.ntmps97
 go_wp2_with fail
 refine HRI.out.mono ?_
 rintro r w5 ⟨rfl, hb5⟩
 have HB5 := hHd (HX2.out.trans (hb5.mono HX2.out.size))
 have HN5 := hHd (HK2.out.below hb5 HK2.out.lt)
 have HW5 := hHd (HW2.out.below hb5)
 clear hb5 y0 y1 y2 y3 y4 y5 y6 y7 y8 q0 q1 q2 q3 q4 q5
 obtain ⟨q0, q1, q2, q3, q4, q5⟩ := cl6 HN5.out
 by_cases hb : a.key = []
 ·have e1 : ((txt a.key).toList == []) = true := by rw [txt_toList, hb]; rfl
  have HB1 : Hid (decide (a.key = []) = true) := hHd (decide_eq_true hb)
  clear hb
  by_cases hl : k.len = 0
  ·have i1 : ¬ (0 : Int) < (k.len : Int) := by omega
   have HL1 : Hid (decide (k.len = 0) = true) := hHd (decide_eq_true hl)
   clear hl
   cases rb with
   | true =>
    have HX : Hid (kidX1 ((⟨nm, kd, ty, lo, hi, ns, mu, mo⟩ : SpD), sf) a k ahead = none) := hHd (by rw [HKX.out, HLB.out, HB1.out, HL1.out]; rfl)
    go_wp2
    go_ret2
    rw [HX.out]
    exact ⟨_, rfl, WayV.nil _ _ _ _, HB5.out⟩
   | false =>
    have HX : Hid (kidX1 ((⟨nm, kd, ty, lo, hi, ns, mu, mo⟩ : SpD), sf) a k ahead = some (23, [])) := hHd (by rw [HKX.out, HLB.out, HB1.out, HL1.out]; rfl)
    go_wp2
    go_ret2
    rw [HX.out]
    exact ⟨_, rfl, by simpa [wayO] using HW5.out, HB5.out⟩
  ·have i1 : (0 : Int) < (k.len : Int) := by omega
   have HX : Hid (kidX1 ((⟨nm, kd, ty, lo, hi, ns, mu, mo⟩ : SpD), sf) a k ahead = some (23, [])) := hHd (by rw [HKX.out, HLB.out, decide_eq_false hl]; simp)
   clear hl
   go_wp2
   go_ret2
   rw [HX.out]
   exact ⟨_, rfl, by simpa [wayO] using HW5.out, HB5.out⟩
 ·have e1 : ((txt a.key).toList == []) = false := by rw [txt_toList]; exact beq_eq_false_iff_ne.2 hb
  have HX : Hid (kidX1 ((⟨nm, kd, ty, lo, hi, ns, mu, mo⟩ : SpD), sf) a k ahead = some (23, [])) := hHd (by rw [HKX.out, HLB.out, decide_eq_false hb]; simp)
  clear hb
  go_wp2
  go_ret2
  rw [HX.out]
  exact ⟨_, rfl, by simpa [wayO] using HW5.out, HB5.out⟩
theorem rone_any (nm : List UInt8) (kd ty lo hi : Nat) (ns : List (List UInt8)) (mu : Bool) (mo : Nat) (sf : SpF) (B1 : Option Addr) (m1 : Nat) (A1 : Option Addr) (c1 : Nat) (d : Nat) (a : NdD) (k : NdF) (A : Option Addr) (c ahead : Nat) (l : List Stp) (Aw : Option Addr) (cw : Nat) (w : World) (hs : SpL w.heap.size w ((cT nm kd ty lo hi ns mu mo B1 m1 A1 sf.len c1) : Array Value).toList ((⟨nm, kd, ty, lo, hi, ns, mu, mo⟩ : SpD), sf)) (hso : SpOk sf) (hsl : sf.len ≤ 1000000) (hv : Vals w d (.slice B1 ns.length m1) (txts ns)) (hns : ns.length ≤ 1000000) (hrow : RowT w.heap.size w (.slice A k.len c) k) (hway : WayV w.heap.size w (.slice Aw l.length cw) l) (hll : l.length + k.size ≤ 1000000) (hok : OkD a) (hkf : OkF k) (hah : ahead ≤ 1000000) (hW : RInP k) : Calls Tryz.prog 97 #[.agg (cT nm kd ty lo hi ns mu mo B1 m1 A1 sf.len c1), .agg (cN a (.slice A k.len c)), .int .i64 (ahead : Int), .slice Aw l.length cw] w (FirstP (wayO l (kidX1 ((⟨nm, kd, ty, lo, hi, ns, mu, mo⟩ : SpD), sf) a k ahead)) w) := by
 by_cases h1 : kd = 1
 ·exact rone_leaf nm kd ty lo hi ns mu mo sf B1 m1 A1 c1 d a k A c ahead l Aw cw w hs hso hsl hv hns hrow hway hll hok hkf hah h1
 ·by_cases h3 : kd = 3
  ·exact rone_list nm kd ty lo hi ns mu mo sf B1 m1 A1 c1 d a k A c ahead l Aw cw w hs hso hsl hv hns hrow hway hll hok hkf hah h3 hW
  ·exact rone_box nm kd ty lo hi ns mu mo sf B1 m1 A1 c1 d a k A c ahead l Aw cw w hs hso hsl hv hns hrow hway hll hok hkf hah h1 h3 hW
end
end Go.Proofs.YtleidkpdpabkpaaGreatDoor
