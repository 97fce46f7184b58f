/- PthSpec Law15A Law15B -/
import Derived.Test.YtikmilcdibldhaaDoorAM0
import Derived.Test.YtikmilcdibldhaaDoorAM9
import Derived.Test.YtikmilcdibldhaaDoorAM11
import Derived.Test.YtikmilcdibldhaaDoorAM12
import Derived.Lib.AppendZeros
set_option linter.unusedSimpArgs false
set_option linter.unusedVariables false
namespace Go.Proofs.YtikmilcdibldhaaDoor
open Go.RowKit
def PthParseC (W0 : World) : Prop := ∀ (s : List UInt8) (w : World), s.length ≤ 1000000 → Below W0.heap.size W0 w → Calls Tryd.prog 8 #[.string (txt s)] w (PrsP (parseX s) w)
def PthShowC (W0 : World) : Prop := ∀ (l : List Stp) (v : Value) (w : World), WayV w.heap.size w v l → l.length ≤ 1000000 → (∀ s ∈ l, s.1.length ≤ 9223372036854775807 ∧ s.2.length ≤ 9223372036854775807) → Below W0.heap.size W0 w →
 Calls Tryd.prog 11 #[v] w (ShowP l w)
def PthAtC (W0 : World) : Prop := ∀ (x : Int) (l : List Stp) (v : Value) (w : World), -9223372036854775808 ≤ x → x ≤ 9223372036854775807 → WayV w.heap.size w v l → l.length ≤ 1000000 → (∀ s ∈ l, s.1.length ≤ 9223372036854775807 ∧ s.2.length ≤ 9223372036854775807) → Below W0.heap.size W0 w →
 Calls Tryd.prog 12 #[.int .i64 x, v] w (LieSp (atP x l) w)
def PthUnderC (W0 : World) : Prop := ∀ (l m : List Stp) (va vb : Value) (w : World), WayV w.heap.size w va l → WayV w.heap.size w vb m → l.length ≤ 1000000 → m.length ≤ 1000000 → Below W0.heap.size W0 w →
 Calls Tryd.prog 17 #[va, vb] w (Ans9 (.bool (underX l m)) w)
structure PthC (W0 : World) : Prop where
 parse : PthParseC W0
 show_ : PthShowC W0
 at_ : PthAtC W0
 under : PthUnderC W0
theorem plain15_l {w : World} {cs : List Value} {x : Sp} (h : Lies w cs x) (hf : Few x) : Calls Tryd.prog 16 #[.agg cs.toArray] w (fun r w' => ∃ cs', r = .returned (.agg cs'.toArray) ∧ Lies w' cs' x ∧ Below w.heap.size w w') := by
 obtain ⟨S, N, hS, hN, h⟩ := h
 refine (splain_any15 x.2 x.1 cs w S N h hS hN (Nat.le_trans hf.1 (by omega))).mono ?_
 rintro r w' ⟨cs', rfl, h2, hb⟩
 exact ⟨cs', rfl, ⟨_, N, fun g hg => hg.2, fun g hg => Nat.lt_of_lt_of_le (hN g hg) hb.size, h2⟩, hb⟩
theorem few_atP (v : Int) (l : List Stp) : Few (atP v l).1 := by
 rcases atP_in v l with h | ⟨h1, h2, h⟩
 ·rw [h]; exact zero_few
 ·exact few_in h1 h2 h
def Awake15 (W0 : World) : Prop := ∀ w, Below W0.heap.size W0 w → Calls Tryd.prog 7 #[] w fun r w' => r = .returned (.bool true) ∧ Below w.heap.size w w'
def exT : List UInt8 := [47, 112, 111, 114, 116, 91, 97, 93, 47, 117, 112]
def exB : List UInt8 := [47, 112, 111, 114, 116, 91, 65, 93]
def exW : List Stp := [([112, 111, 114, 116], [97]), ([117, 112], [])]
theorem ex_parse : parseX exT = (exW, 0, 0) := by decide
theorem ex_bad : parseX exB = ([], 22, 6) := by decide
theorem ex_show : showX exW = exT := by decide
theorem ex_at : (atP 1 exW).2 = 0 ∧ (atP 1 exW).1.1.typ = 3 := by decide
theorem ex_at2 : (atP 1 [([112, 111, 114, 116], [])]).2 = 23 := by decide
theorem ex_under : underX exW (exW.take 1) = true := by decide
theorem ex_under2 : underX (exW.take 1) exW = false := by decide
end Go.Proofs.YtikmilcdibldhaaDoor
namespace Go.Proofs.YtikmilcdibldhaaDoor
open Go.RowKit
attribute [local go_sem] Oper.semAt_some
theorem eq_step15 (s t : Stp) (W : World) : (binOp .eql 46 (.agg #[.string (txt s.1), .string (txt s.2)]) (.agg #[.string (txt t.1), .string (txt t.2)])).run Tryd.prog W = .ok (.bool (decide (s = t))) W := by
 rw [run_eql_struct, show (10000 : Nat) = 9999 + 1 from rfl, run_equalIn_agg W 9999 46 _ _ (by simp only [Program.fieldsOf, Tryd.underlying46]) (by kernel_rfl)]
 simp only [Program.fieldsOf, Tryd.underlying46]
 simp only [Op.eqFields]
 go_simp
 simp only [txt_toList]
 by_cases h1 : s.1 = t.1
 ·by_cases h2 : s.2 = t.2
  ·have h : s = t := Prod.ext h1 h2
   simp [h]
  ·have h : s ≠ t := fun e => h2 (congrArg Prod.snd e)
   simp [h1, h2, h]
 ·have h : s ≠ t := fun e => h1 (congrArg Prod.fst e)
  simp [h1, h]
set_option maxRecDepth 100000 in
set_option maxHeartbeats 4000000 in
theorem awake15 {W0 : World} (C : PthC W0) : Awake15 W0 := by
 intro w hw
 have hc1 : Calls Tryd.prog 8 #[.string ⟨#[47, 112, 111, 114, 116, 91, 97, 93, 47, 117, 112]⟩] w (PrsP (exW, 0, 0) w) := by have h := C.parse exT w (by decide) hw; rwa [ex_parse] at h
 have hc2 : ∀ W, Below w.heap.size w W → Hid (Calls Tryd.prog 8 #[.string ⟨#[47, 112, 111, 114, 116, 91, 65, 93]⟩] W (PrsP ([], 22, 6) W)) := fun W h => Lib.hid (by have h := C.parse exB W (by decide) (hw.trans (h.mono hw.size)); rwa [ex_bad] at h)
 obtain ⟨x, hx⟩ : ∃ x, x = (atP 1 exW).1 := ⟨_, rfl⟩
 have hxt : x.1.typ = 3 := by rw [hx]; exact ex_at.2
 have hc3 : ∀ W v, Below w.heap.size w W → WayV W.heap.size W v exW → Hid (Calls Tryd.prog 12 #[.int .i64 1, v] W (LieSp (x, 0) W)) := fun W v h hv => Lib.hid (by
  have h := C.at_ 1 exW v W (by omega) (by omega) hv (by decide) (by decide) (hw.trans (h.mono hw.size))
  rwa [show atP 1 exW = (x, 0) from Prod.ext hx.symm ex_at.1] at h)
 obtain ⟨y, hy⟩ : ∃ y, y = (atP 1 [([112, 111, 114, 116], [])]).1 := ⟨_, rfl⟩
 have hc4 : ∀ W v, Below w.heap.size w W → WayV W.heap.size W v [([112, 111, 114, 116], [])] → Hid (Calls Tryd.prog 12 #[.int .i64 1, v] W (LieSp (y, 23) W)) := fun W v h hv => Lib.hid (by
  have h := C.at_ 1 _ v W (by omega) (by omega) hv (by decide) (by decide) (hw.trans (h.mono hw.size))
  rwa [show atP 1 [([112, 111, 114, 116], [])] = (y, 23) from Prod.ext hy.symm ex_at2] at h)
 have hc5 : ∀ W v, Below w.heap.size w W → WayV W.heap.size W v exW → Hid (Calls Tryd.prog 11 #[v] W (fun r w' => r = .returned (.string ⟨#[47, 112, 111, 114, 116, 91, 97, 93, 47, 117, 112]⟩) ∧ Below W.heap.size W w')) := fun W v h hv => Lib.hid (by
  have h := C.show_ exW v W hv (by decide) (by decide) (hw.trans (h.mono hw.size))
  unfold ShowP at h
  rw [ex_show] at h
  exact h)
 have hc6 : ∀ W, Below w.heap.size w W → Hid (Calls Tryd.prog 11 #[.slice none 0 0] W (fun r w' => r = .returned (.string ⟨#[47]⟩) ∧ Below W.heap.size W w')) := fun W h => Lib.hid (C.show_ [] _ W (WayV.nil _ _ _ _) (by decide) (by simp) (hw.trans (h.mono hw.size)))
 have hc7 : ∀ W u v, Below w.heap.size w W → WayV W.heap.size W u exW → WayV W.heap.size W v (exW.take 1) → Hid (Calls Tryd.prog 17 #[u, v] W (Ans9 (.bool true) W)) := fun W u v h hu hv => Lib.hid (by
  have h := C.under exW (exW.take 1) u v W hu hv (by decide) (by decide) (hw.trans (h.mono hw.size))
  rwa [ex_under] at h)
 have hc8 : ∀ W u v, Below w.heap.size w W → WayV W.heap.size W u exW → WayV W.heap.size W v (exW.take 1) → Hid (Calls Tryd.prog 17 #[v, u] W (Ans9 (.bool false) W)) := fun W u v h hu hv => Lib.hid (by
  have h := C.under (exW.take 1) exW v u W hv hu (by decide) (by decide) (hw.trans (h.mono hw.size))
  rwa [ex_under2] at h)
 have C1 := Lib.hid hc1
 have C2 := Lib.hid hc2
 have C3 := Lib.hid hc3
 have C4 := Lib.hid hc4
 have C5 := Lib.hid hc5
 have C6 := Lib.hid hc6
 have C7 := Lib.hid hc7
 have C8 := Lib.hid hc8
 have HXT := Lib.hid hxt
 clear hc1 hc2 hc3 hc4 hc5 hc6 hc7 hc8 hx hy hxt C hw
 go_enter Tryd.func7, Tryd.ntmps7
 go_wp2_with fail
 refine C1.out.mono ?_
 rintro r w1 ⟨v1, rfl, hv1, hb1⟩
 obtain ⟨A, c, rfl⟩ := hv1.shape
 have HV1 := Lib.hid hv1
 have HB1 := Lib.hid hb1
 clear hv1 hb1
 go_wp2_with fail
 refine (C2.out w1 HB1.out).out.mono ?_
 rintro r w2 ⟨v2, rfl, hv2, hb2⟩
 have HV2 := Lib.hid (HV1.out.below hb2)
 have HB2 := Lib.hid (HB1.out.trans (hb2.mono HB1.out.size))
 clear hv2 hb2
 go_wp2_with fail
 refine (C3.out w2 _ HB2.out HV2.out).out.mono ?_
 rintro r w3 ⟨cs, rfl, hl, hb3⟩
 obtain ⟨Bn, mn, Ak, ck, rfl⟩ := hl.shape
 have hal : Below w3.heap.size w3 (w3.alloc (.cells #[.string (txt x.1.name), .int .i64 (x.1.kind : Int), .int .i64 (x.1.typ : Int), .int .u64 (x.1.low : Int), .int .u64 (x.1.high : Int), .slice Bn x.1.names.length mn, .bool x.1.must, .int .i64 (x.1.most : Int), .slice Ak x.2.len ck] 34)) := (Below.refl _ _).alloc (Nat.le_refl _) _
 have hal2 : Below w3.heap.size w3 ((w3.alloc (.cells #[.string (txt x.1.name), .int .i64 (x.1.kind : Int), .int .i64 (x.1.typ : Int), .int .u64 (x.1.low : Int), .int .u64 (x.1.high : Int), .slice Bn x.1.names.length mn, .bool x.1.must, .int .i64 (x.1.most : Int), .slice Ak x.2.len ck] 34)).alloc (.cells #[.string ⟨#[112, 111, 114, 116]⟩, .string ⟨#[]⟩] 46)) := hal.alloc hal.size _
 have HX3 : Hid (Blk ((w3.alloc (.cells #[.string (txt x.1.name), .int .i64 (x.1.kind : Int), .int .i64 (x.1.typ : Int), .int .u64 (x.1.low : Int), .int .u64 (x.1.high : Int), .slice Bn x.1.names.length mn, .bool x.1.must, .int .i64 (x.1.most : Int), .slice Ak x.2.len ck] 34)).alloc (.cells #[.string ⟨#[112, 111, 114, 116]⟩, .string ⟨#[]⟩] 46)) w3.heap.size 34 #[.string (txt x.1.name), .int .i64 (x.1.kind : Int), .int .i64 (x.1.typ : Int), .int .u64 (x.1.low : Int), .int .u64 (x.1.high : Int), .slice Bn x.1.names.length mn, .bool x.1.must, .int .i64 (x.1.most : Int), .slice Ak x.2.len ck]) := Lib.hid ((Blk.new w3 34 #[.string (txt x.1.name), .int .i64 (x.1.kind : Int), .int .i64 (x.1.typ : Int), .int .u64 (x.1.low : Int), .int .u64 (x.1.high : Int), .slice Bn x.1.names.length mn, .bool x.1.must, .int .i64 (x.1.most : Int), .slice Ak x.2.len ck]).alloc _)
 have HV3 := Lib.hid (HV2.out.below (hb3.trans (hal2.mono hb3.size)))
 have HB3 := Lib.hid (HB2.out.trans ((hb3.trans (hal2.mono hb3.size)).mono HB2.out.size))
 have HW3 : Hid (WayV ((w3.alloc (.cells #[.string (txt x.1.name), .int .i64 (x.1.kind : Int), .int .i64 (x.1.typ : Int), .int .u64 (x.1.low : Int), .int .u64 (x.1.high : Int), .slice Bn x.1.names.length mn, .bool x.1.must, .int .i64 (x.1.most : Int), .slice Ak x.2.len ck] 34)).alloc (.cells #[.string ⟨#[112, 111, 114, 116]⟩, .string ⟨#[]⟩] 46)).heap.size ((w3.alloc (.cells #[.string (txt x.1.name), .int .i64 (x.1.kind : Int), .int .i64 (x.1.typ : Int), .int .u64 (x.1.low : Int), .int .u64 (x.1.high : Int), .slice Bn x.1.names.length mn, .bool x.1.must, .int .i64 (x.1.most : Int), .slice Ak x.2.len ck] 34)).alloc (.cells #[.string ⟨#[112, 111, 114, 116]⟩, .string ⟨#[]⟩] 46)) (.slice (some ⟨w3.heap.size + 1, 0, none⟩) 1 1) [([112, 111, 114, 116], [])]) := Lib.hid (by
  have h := (OwnS.one (w := (w3.alloc (.cells #[.string (txt x.1.name), .int .i64 (x.1.kind : Int), .int .i64 (x.1.typ : Int), .int .u64 (x.1.low : Int), .int .u64 (x.1.high : Int), .slice Bn x.1.names.length mn, .bool x.1.must, .int .i64 (x.1.most : Int), .slice Ak x.2.len ck] 34))) ([112, 111, 114, 116], []) (base := 0) (Nat.zero_le _)).way
  rwa [show (w3.alloc (.cells #[.string (txt x.1.name), .int .i64 (x.1.kind : Int), .int .i64 (x.1.typ : Int), .int .u64 (x.1.low : Int), .int .u64 (x.1.high : Int), .slice Bn x.1.names.length mn, .bool x.1.must, .int .i64 (x.1.most : Int), .slice Ak x.2.len ck] 34)).heap.size = w3.heap.size + 1 by simp] at h)
 clear hl hb3 hal hal2
 go_wp2_with fail
 refine (C4.out _ _ HB3.out HW3.out).out.mono ?_
 rintro r w4 ⟨cs4, rfl, hl4, hb4⟩
 obtain ⟨Bm, mm, Am, cm, rfl⟩ := hl4.shape
 have hal : Below w4.heap.size w4 (w4.alloc (.cells #[.string (txt y.1.name), .int .i64 (y.1.kind : Int), .int .i64 (y.1.typ : Int), .int .u64 (y.1.low : Int), .int .u64 (y.1.high : Int), .slice Bm y.1.names.length mm, .bool y.1.must, .int .i64 (y.1.most : Int), .slice Am y.2.len cm] 34)) := (Below.refl _ _).alloc (Nat.le_refl _) _
 have HX4 : Hid (Blk (w4.alloc (.cells #[.string (txt y.1.name), .int .i64 (y.1.kind : Int), .int .i64 (y.1.typ : Int), .int .u64 (y.1.low : Int), .int .u64 (y.1.high : Int), .slice Bm y.1.names.length mm, .bool y.1.must, .int .i64 (y.1.most : Int), .slice Am y.2.len cm] 34)) w3.heap.size 34 #[.string (txt x.1.name), .int .i64 (x.1.kind : Int), .int .i64 (x.1.typ : Int), .int .u64 (x.1.low : Int), .int .u64 (x.1.high : Int), .slice Bn x.1.names.length mn, .bool x.1.must, .int .i64 (x.1.most : Int), .slice Ak x.2.len ck]) := Lib.hid (HX3.out.below (hb4.trans (hal.mono hb4.size)) HX3.out.lt)
 have HV4 : Hid (WayV (w4.alloc (.cells #[.string (txt y.1.name), .int .i64 (y.1.kind : Int), .int .i64 (y.1.typ : Int), .int .u64 (y.1.low : Int), .int .u64 (y.1.high : Int), .slice Bm y.1.names.length mm, .bool y.1.must, .int .i64 (y.1.most : Int), .slice Am y.2.len cm] 34)).heap.size (w4.alloc (.cells #[.string (txt y.1.name), .int .i64 (y.1.kind : Int), .int .i64 (y.1.typ : Int), .int .u64 (y.1.low : Int), .int .u64 (y.1.high : Int), .slice Bm y.1.names.length mm, .bool y.1.must, .int .i64 (y.1.most : Int), .slice Am y.2.len cm] 34)) (.slice A exW.length c) exW) := Lib.hid (HV3.out.below (hb4.trans (hal.mono hb4.size)))
 have HB4 : Hid (Below w.heap.size w (w4.alloc (.cells #[.string (txt y.1.name), .int .i64 (y.1.kind : Int), .int .i64 (y.1.typ : Int), .int .u64 (y.1.low : Int), .int .u64 (y.1.high : Int), .slice Bm y.1.names.length mm, .bool y.1.must, .int .i64 (y.1.most : Int), .slice Am y.2.len cm] 34))) := Lib.hid (HB3.out.trans ((hb4.trans (hal.mono hb4.size)).mono HB3.out.size))
 clear hl4 hb4 hal
 obtain ⟨g, o, eA, -, k1, -, k3, k4⟩ := HV4.out.at (j := 0) rfl
 subst eA
 have c0 : ((w4.alloc (.cells #[.string (txt y.1.name), .int .i64 (y.1.kind : Int), .int .i64 (y.1.typ : Int), .int .u64 (y.1.low : Int), .int .u64 (y.1.high : Int), .slice Bm y.1.names.length mm, .bool y.1.must, .int .i64 (y.1.most : Int), .slice Am y.2.len cm] 34))).cell? ⟨g, o, none⟩ = some (.string ⟨#[112, 111, 114, 116]⟩) := k3
 have c1 : ((w4.alloc (.cells #[.string (txt y.1.name), .int .i64 (y.1.kind : Int), .int .i64 (y.1.typ : Int), .int .u64 (y.1.low : Int), .int .u64 (y.1.high : Int), .slice Bm y.1.names.length mm, .bool y.1.must, .int .i64 (y.1.most : Int), .slice Am y.2.len cm] 34))).cell? ⟨g, o + 1, none⟩ = some (.string ⟨#[97]⟩) := k4
 have e1 : ∀ W, (binOp .eql 46 (.agg #[.string ⟨#[112, 111, 114, 116]⟩, .string ⟨#[97]⟩]) (.agg #[.string ⟨#[112, 111, 114, 116]⟩, .string ⟨#[97]⟩])).run Tryd.prog W = .ok (.bool true) W := fun W => (eq_step15 ([112, 111, 114, 116], [97]) ([112, 111, 114, 116], [97]) W).trans (by simp)
 have le2 : exW.length = 2 := rfl
 have HLC : Hid (2 ≤ c) := Lib.hid k1
 have HF4 : Hid (WayV (w4.alloc (.cells #[.string (txt y.1.name), .int .i64 (y.1.kind : Int), .int .i64 (y.1.typ : Int), .int .u64 (y.1.low : Int), .int .u64 (y.1.high : Int), .slice Bm y.1.names.length mm, .bool y.1.must, .int .i64 (y.1.most : Int), .slice Am y.2.len cm] 34)).heap.size (w4.alloc (.cells #[.string (txt y.1.name), .int .i64 (y.1.kind : Int), .int .i64 (y.1.typ : Int), .int .u64 (y.1.low : Int), .int .u64 (y.1.high : Int), .slice Bm y.1.names.length mm, .bool y.1.must, .int .i64 (y.1.most : Int), .slice Am y.2.len cm] 34)) (.slice (some ⟨g, o, none⟩) 1 c) (exW.take 1)) := Lib.hid (HV4.out.front 1 (by decide))
 rw [le2] at HV4 HV3 ⊢
 clear k1 k3 k4
 go_wp2_with fail
 refine (C5.out _ _ HB4.out HV4.out).out.mono ?_
 rintro r w5 ⟨rfl, hb5⟩
 have HX5 := Lib.hid (HX4.out.below hb5 HX4.out.lt)
 have HV5 := Lib.hid (HV4.out.below hb5)
 have HF5 := Lib.hid (HF4.out.below hb5)
 have HB5 := Lib.hid (HB4.out.trans (hb5.mono HB4.out.size))
 have q2 : w5.cell? ⟨w3.heap.size, 2, none⟩ = some (.int .i64 3) := ((HX5.out.cell 2).trans rfl).trans (by rw [HXT.out]; rfl)
 clear hb5 c0 c1 e1
 go_wp2_with fail
 refine (C6.out _ HB5.out).out.mono ?_
 rintro r w6 ⟨rfl, hb6⟩
 have HV6 := Lib.hid (HV5.out.below hb6)
 have HF6 := Lib.hid (HF5.out.below hb6)
 have HB6 := Lib.hid (HB5.out.trans (hb6.mono HB5.out.size))
 clear hb6 q2
 have lc : (2 : Int) ≤ (c : Int) := by have := HLC.out; omega
 have lc1 : (1 : Int) ≤ (c : Int) := by omega
 have lc2 : 1 ≤ c := by have := HLC.out; omega
 go_wp2_with fail
 refine (C7.out _ _ _ HB6.out HV6.out HF6.out).out.mono ?_
 rintro r w7 ⟨rfl, hb7⟩
 have HV7 := Lib.hid (HV6.out.below hb7)
 have HF7 := Lib.hid (HF6.out.below hb7)
 have HB7 := Lib.hid (HB6.out.trans (hb7.mono HB6.out.size))
 clear hb7
 go_wp2_with fail
 refine (C8.out _ _ _ HB7.out HV7.out HF7.out).out.mono ?_
 rintro r w8 ⟨rfl, hb8⟩
 have HB8 := Lib.hid (HB7.out.trans (hb8.mono HB7.out.size))
 clear hb8
 go_wp2
 go_ret
 exact ⟨rfl, HB8.out⟩
end Go.Proofs.YtikmilcdibldhaaDoor
namespace Go.Proofs.YtikmilcdibldhaaDoor
open Go.RowKit
attribute [local go_sem] Oper.semAt_some
set_option maxRecDepth 100000 in
set_option maxHeartbeats 4000000 in
theorem pathTells_walk (s : List UInt8) (hs : s.length ≤ 9223372036854775807) (w : World) (C : PthC w) (HA : Awake15 w) :
  Calls Tryd.prog 3 #[.string (txt s)] w (fun r w' => r = .returned (.bool true) ∧ Below w.heap.size w w') := by
 have HAW := Lib.hid (HA w (Below.refl _ _))
 have hsz := txt_size s
 clear HA
 by_cases h5 : 500 < s.length
 ·have i0 : (500 : Int) < (s.length : Int) := by omega
  clear C h5
  go_enter Tryd.func3, Tryd.ntmps3
  go_wp2_with fail
  refine HAW.out.mono ?_
  rintro r w1 ⟨rfl, hB1⟩
  have HB1 := Lib.hid hB1
  clear hB1
  go_wp2
  go_ret
  exact ⟨rfl, HB1.out⟩
 have i0 : ¬ (500 : Int) < (s.length : Int) := by omega
 obtain ⟨l, e, a, hX⟩ : ∃ l e a, parseX s = (l, e, a) := ⟨_, _, _, rfl⟩
 have hl : l.length ≤ 1000000 := by
  rcases parse_ways s with ⟨l', h, -, h6, -⟩ | ⟨e', a', h, -, -⟩
  ·rw [hX] at h
   obtain rfl : l = l' := congrArg Prod.fst h
   omega
  ·rw [hX] at h
   obtain rfl : l = [] := congrArg Prod.fst h
   simp
 have hc1 : ∀ W, Below w.heap.size w W → Hid (Calls Tryd.prog 8 #[.string (txt s)] W (PrsP (l, e, a) W)) := fun W h => Lib.hid (by rw [← hX]; exact C.parse s W (by omega) h)
 have hc2 : ∀ W, Hid (Calls Tryd.prog 9 #[.string (txt s)] W (PrsP (l, e, a) W)) := fun W => Lib.hid (by rw [← hX]; exact rparse15_any s (by omega) W)
 have C1 := Lib.hid hc1
 have C2 := Lib.hid hc2
 have HL := Lib.hid hl
 clear hc1 hc2 hl hX C h5
 go_enter Tryd.func3, Tryd.ntmps3
 go_wp2_with fail
 refine HAW.out.mono ?_
 rintro r w1 ⟨rfl, hB1⟩
 have HB1 := Lib.hid hB1
 clear hB1
 go_wp2_with fail
 refine (C1.out w1 HB1.out).out.mono ?_
 rintro r w2 ⟨v1, rfl, hv1, hb2⟩
 have HV1 := Lib.hid hv1
 have HB2 := Lib.hid (HB1.out.trans (hb2.mono HB1.out.size))
 clear hv1 hb2
 go_wp2_with fail
 refine (C2.out w2).out.mono ?_
 rintro r w3 ⟨v2, rfl, hv2, hb3⟩
 have HV13 := Lib.hid (HV1.out.below hb3)
 have HV2 := Lib.hid hv2
 have HB3 := Lib.hid (HB2.out.trans (hb3.mono HB2.out.size))
 clear hv2 hb3
 have hst := rsteps10_any l l v1 v2 w3 HV13.out HV2.out HL.out HL.out
 rw [decide_eq_true rfl] at hst
 have HST := Lib.hid hst
 clear hst
 go_wp2_with fail
 refine HST.out.mono ?_
 rintro r w4 ⟨rfl, hb4⟩
 have HB4 := Lib.hid (HB3.out.trans (hb4.mono HB3.out.size))
 clear hb4
 go_wp2
 go_ret
 exact ⟨by simp, HB4.out⟩
set_option maxRecDepth 100000 in
set_option maxHeartbeats 4000000 in
theorem pathOwn_bad (s : List UInt8) (x : Stp) (e a : Nat) (w : World) (h5 : s.length ≤ 500) (hX : parseX s = ([], e, a)) (he : e ≠ 0) (ha : a ≤ s.length) (C : PthC w) (HA : Awake15 w) :
  Calls Tryd.prog 5 #[.string (txt s), .agg #[.string (txt x.1), .string (txt x.2)]] w (fun r w' => r = .returned (.bool true) ∧ Below w.heap.size w w') := by
 have HAW := Lib.hid (HA (w.alloc (.cells #[.string (txt x.1), .string (txt x.2)] 46)) ((Below.refl _ _).alloc (Nat.le_refl _) _))
 have hsz := txt_size s
 have hc1 : ∀ W, Below w.heap.size w W → Hid (Calls Tryd.prog 8 #[.string (txt s)] W (PrsP ([], e, a) W)) := fun W h => Lib.hid (by rw [← hX]; exact C.parse s W (by omega) h)
 have C1 := Lib.hid hc1
 have i0 : ¬ (500 : Int) < (s.length : Int) := by omega
 have n1 : ((e : Int) == 0) = false := beq_eq_false_iff_ne.2 (by omega)
 have n2 : ((e : Int) != 0) = true := by unfold bne; rw [n1]; rfl
 have m1 : (0 : Int) ≤ (a : Int) := by omega
 have m2 : (a : Int) ≤ (s.length : Int) := by omega
 have HAL : Hid (Below w.heap.size w (w.alloc (.cells #[.string (txt x.1), .string (txt x.2)] 46))) := Lib.hid ((Below.refl _ _).alloc (Nat.le_refl _) _)
 clear hc1 hX he ha C HA h5
 go_enter Tryd.func5, Tryd.ntmps5
 go_wp2_with fail
 refine HAW.out.mono ?_
 rintro r w1 ⟨rfl, hB1⟩
 have HB1 := Lib.hid (HAL.out.trans (hB1.mono HAL.out.size))
 clear hB1
 go_wp2_with fail
 refine (C1.out w1 HB1.out).out.mono ?_
 rintro r w2 ⟨v1, rfl, hv1, hb2⟩
 obtain ⟨A, c, rfl⟩ := hv1.shape
 have HB2 := Lib.hid (HB1.out.trans (hb2.mono HB1.out.size))
 rw [List.length_nil]
 clear hv1 hb2
 go_wp2
 go_ret
 exact ⟨rfl, HB2.out⟩
set_option maxRecDepth 100000 in
set_option maxHeartbeats 4000000 in
theorem pathOwn_ok (s : List UInt8) (x : Stp) (l m : List Stp) (f b : Nat) (w : World) (h5 : s.length ≤ 500) (hX : parseX s = (l, 0, 0)) (hl6 : l.length ≤ 6) (hok : l.all okS = true) (hsh : showX l = s) (hY : parseX (s ++ nUpT) = (m, f, b))
  (hm : (f = 0 ∧ m.length = l.length + 1) ∨ (f = 13 ∧ l.length = 6) ∨ (f = 22 ∧ l.length = 0)) (C : PthC w) (HA : Awake15 w) :
  Calls Tryd.prog 5 #[.string (txt s), .agg #[.string (txt x.1), .string (txt x.2)]] w (fun r w' => r = .returned (.bool true) ∧ Below w.heap.size w w') := by
 have HAW := Lib.hid (HA (w.alloc (.cells #[.string (txt x.1), .string (txt x.2)] 46)) ((Below.refl _ _).alloc (Nat.le_refl _) _))
 have hsz := txt_size s
 have ts : (txt s).toList = s := txt_toList s
 have hc1 : ∀ W, Below w.heap.size w W → Hid (Calls Tryd.prog 8 #[.string (txt s)] W (PrsP (l, 0, 0) W)) := fun W h => Lib.hid (by rw [← hX]; exact C.parse s W (by omega) h)
 have hc2 : ∀ W, Below w.heap.size w W → Hid (Calls Tryd.prog 8 #[.string (txt (s ++ nUpT))] W (PrsP (m, f, b) W)) := fun W h => Lib.hid (by rw [← hY]; exact C.parse _ W (by rw [List.length_append]; simp [nUpT]; omega) h)
 have hszs : ∀ t ∈ l, t.1.length ≤ 9223372036854775807 ∧ t.2.length ≤ 9223372036854775807 := fun t ht => by
  have h := List.all_eq_true.1 hok t ht
  unfold okS at h
  simp only [Bool.and_eq_true, Bool.or_eq_true] at h
  have h1 := ident_len h.1
  refine ⟨by omega, ?_⟩
  rcases h.2 with h2 | h2
  ·have := ident_len h2; omega
  ·have h3 : t.2 = [] := by simpa using h2
   rw [h3]; simp
 have hc3 : ∀ W v, Below w.heap.size w W → WayV W.heap.size W v l → Hid (Calls Tryd.prog 11 #[v] W (fun r w' => r = .returned (.string (txt s)) ∧ Below W.heap.size W w')) := fun W v h hv => Lib.hid (by
  have h := C.show_ l v W hv (by omega) hszs h
  unfold ShowP at h
  rwa [hsh] at h)
 have hc4 : ∀ W u v, Below w.heap.size w W → WayV W.heap.size W u (l ++ [x]) → WayV W.heap.size W v l → Hid (Calls Tryd.prog 17 #[u, v] W (Ans9 (.bool true) W)) := fun W u v h hu hv => Lib.hid (by
  have h := C.under (l ++ [x]) l u v W hu hv (by rw [List.length_append]; simp; omega) (by omega) h
  rwa [under_app] at h)
 have hc5 : ∀ W u v, Below w.heap.size w W → WayV W.heap.size W u (l ++ [x]) → WayV W.heap.size W v l → Hid (Calls Tryd.prog 17 #[v, u] W (Ans9 (.bool false) W)) := fun W u v h hu hv => Lib.hid (by
  have h := C.under l (l ++ [x]) v u W hv hu (by omega) (by rw [List.length_append]; simp; omega) h
  rwa [under_longer] at h)
 have hc6 : ∀ W v, Below w.heap.size w W → WayV W.heap.size W v l → Hid (Calls Tryd.prog 17 #[v, .slice none 0 0] W (Ans9 (.bool true) W)) := fun W v h hv => Lib.hid (by
  have h := C.under l [] v (.slice none 0 0) W hv (WayV.nil _ _ _ _) (by omega) (by simp) h
  rwa [under_self] at h)
 have C1 := Lib.hid hc1
 have C2 := Lib.hid hc2
 have C3 := Lib.hid hc3
 have C4 := Lib.hid hc4
 have C5 := Lib.hid hc5
 have C6 := Lib.hid hc6
 have i0 : ¬ (500 : Int) < (s.length : Int) := by omega
 have HAL : Hid (Below w.heap.size w (w.alloc (.cells #[.string (txt x.1), .string (txt x.2)] 46))) := Lib.hid ((Below.refl _ _).alloc (Nat.le_refl _) _)
 have HXB : Hid (Blk (w.alloc (.cells #[.string (txt x.1), .string (txt x.2)] 46)) w.heap.size 46 #[.string (txt x.1), .string (txt x.2)]) := Lib.hid (Blk.new w 46 _)
 have cat : txt s ++ ⟨#[47, 117, 112]⟩ = txt (s ++ nUpT) := txt_catS s nUpT
 have sz1 : (txt s).size ≤ 500 := by rw [txt_size]; omega
 have HM := Lib.hid hm
 have H6 := Lib.hid hl6
 clear hc1 hc2 hc3 hc4 hc5 hc6 hX hY hok hsh hszs C HA h5 hm hl6
 go_enter Tryd.func5, Tryd.ntmps5
 go_wp2_with fail
 refine HAW.out.mono ?_
 rintro r w1 ⟨rfl, hB1⟩
 have HX1 := Lib.hid (HXB.out.below hB1 HXB.out.lt)
 have HB1 := Lib.hid (HAL.out.trans (hB1.mono HAL.out.size))
 clear hB1
 go_wp2_with fail
 refine (C1.out w1 HB1.out).out.mono ?_
 rintro r w2 ⟨v1, rfl, hv1, hb2⟩
 obtain ⟨A, c, rfl⟩ := hv1.shape
 have HV2 := Lib.hid hv1
 have HX2 := Lib.hid (HX1.out.below hb2 HX1.out.lt)
 have HB2 := Lib.hid (HB1.out.trans (hb2.mono HB1.out.size))
 clear hv1 hb2
 obtain ⟨v3, w3, hr3, hown3, hb3⟩ := app_way w2 (.slice A l.length c) l HV2.out (by have := H6.out; omega)
 obtain ⟨A3, c3, rfl⟩ := hown3.shape
 have HR3 := Lib.hid hr3
 have HX3 := Lib.hid (HX2.out.below hb3 HX2.out.lt)
 have HV3 := Lib.hid (HV2.out.below hb3)
 have HB3 := Lib.hid (HB2.out.trans (hb3.mono HB2.out.size))
 have hal : Below w3.heap.size w3 (w3.alloc (.cells #[.string (txt x.1), .string (txt x.2)] 46)) := (Below.refl _ _).alloc (Nat.le_refl _) _
 have HOC : Hid (OwnS w2.heap.size (w3.alloc (.cells #[.string (txt x.1), .string (txt x.2)] 46)) (.slice A3 l.length c3) l) := Lib.hid (hown3.below hal)
 have HBC := Lib.hid (Blk.new w3 46 #[.string (txt x.1), .string (txt x.2)])
 have HON : Hid (∀ u ∈ [Value.string (txt x.1), .string (txt x.2)], u.oneCell' = true) := Lib.hid (by simp [Value.oneCell'])
 have HSC : Hid (w2.heap.size ≤ (w3.alloc (.cells #[.string (txt x.1), .string (txt x.2)] 46)).heap.size) := Lib.hid (Nat.le_trans hb3.size hal.size)
 have HVC : Hid (WayV (w3.alloc (.cells #[.string (txt x.1), .string (txt x.2)] 46)).heap.size (w3.alloc (.cells #[.string (txt x.1), .string (txt x.2)] 46)) (.slice A l.length c) l ∧ Below w.heap.size w (w3.alloc (.cells #[.string (txt x.1), .string (txt x.2)] 46)) ∧ WayV w2.heap.size (w3.alloc (.cells #[.string (txt x.1), .string (txt x.2)] 46)) (.slice A l.length c) l) := Lib.hid ⟨HV3.out.below hal, HB3.out.trans (hal.mono HB3.out.size), HV2.out.under (hb3.trans (hal.mono hb3.size)) (Nat.le_refl _) (Nat.le_refl _)⟩
 have l6 : l.length ≤ 6 := H6.out
 clear hr3 hown3 hb3 hal
 have q0 := (HX3.out.cell 0).trans rfl
 have q1 := (HX3.out.cell 1).trans rfl
 go_upto_region 12 with (at_builtin; first | (refine Lib.wpList_append_run _ rfl (.tmp 41) (.tmp 42) 23 23 rfl _ _ rfl rfl _ _ HR3.out ?_) | (refine wpList_append_k (P := Tryd.prog) (ts := 23) Tryd.underlying23 Tryd.cellsSt szeroN (by omega) rfl (.tmp 44) (.tmp 46) rfl rfl w2.heap.size (.slice A3 l.length c3) l.length (stC l) rfl HOC.out w3.heap.size rfl [.string (txt x.1), .string (txt x.2)] HBC.out rfl HON.out (by omega) (by omega) HSC.out ?_; intro v' w' hap))
 have HOW4 : Hid (OwnS w2.heap.size w' v' (l ++ [x])) := Lib.hid (own_snoc (x := x) hap.1)
 have hb4 : Below w2.heap.size (w3.alloc (.cells #[.string (txt x.1), .string (txt x.2)] 46)) w' := hap.below HOC.out HSC.out
 have HV4 : Hid (WayV w'.heap.size w' (.slice A l.length c) l) := Lib.hid (HVC.out.2.2.under hb4 (Nat.le_refl _) (Nat.le_trans HSC.out hb4.size))
 have HB4 : Hid (Below w.heap.size w w') := Lib.hid (HVC.out.2.1.trans (hb4.mono HB2.out.size))
 obtain ⟨A4, c4, e4⟩ := HOW4.out.shape
 obtain ⟨N, hN⟩ : ∃ N, N = (l ++ [x]).length := ⟨_, rfl⟩
 rw [← hN] at e4
 subst e4
 have HNN := Lib.hid hN
 clear hap hb4 q0 q1 hN
 go_wp2_with fail
 refine (C2.out _ HB4.out).out.mono ?_
 rintro r w5 ⟨v5, rfl, hv5, hb5⟩
 obtain ⟨A5, c5, rfl⟩ := hv5.shape
 have HOW5 := Lib.hid (HOW4.out.way.below hb5)
 have HV5 := Lib.hid (HV4.out.below hb5)
 have HB5 := Lib.hid (HB4.out.trans (hb5.mono HB4.out.size))
 clear hv5 hb5 cat
 have hw : ((f : Int) == 0 ) = true ∧ ((m.length : Int) == (l.length : Int) + 1) = true ∧ (m.length == l.length + 1) = true ∨ ((f : Int) == 0) = false ∧ ((l.length : Int) == 6) = true ∧ (l.length == 6) = true ∧ ((f : Int) == 13) = true ∨
   ((f : Int) == 0) = false ∧ ((l.length : Int) == 6) = false ∧ (l.length == 6) = false ∧ ((l.length : Int) == 0) = true ∧ (l.length == 0) = true ∧ ((f : Int) == 22) = true := by
  rcases HM.out with ⟨h1, h2⟩ | ⟨h1, h2⟩ | ⟨h1, h2⟩
  ·exact .inl ⟨beq_iff_eq.2 (by omega), beq_iff_eq.2 (by omega), beq_iff_eq.2 (by omega)⟩
  ·exact .inr (.inl ⟨beq_eq_false_iff_ne.2 (by omega), beq_iff_eq.2 (by omega), beq_iff_eq.2 (by omega), beq_iff_eq.2 (by omega)⟩)
  ·exact .inr (.inr ⟨beq_eq_false_iff_ne.2 (by omega), beq_eq_false_iff_ne.2 (by omega), beq_eq_false_iff_ne.2 (by omega), beq_iff_eq.2 (by omega), beq_iff_eq.2 (by omega), beq_iff_eq.2 (by omega)⟩)
 rcases hw with ⟨g1, g2, g3⟩ | ⟨g1, g2, g3, g4⟩ | ⟨g1, g2, g3, g4, g5, g6⟩
 all_goals
  go_wp2_with fail
  refine (C3.out _ _ HB5.out HV5.out).out.mono ?_
  rintro r w6 ⟨rfl, hb6⟩
  have HOW6 := Lib.hid (HOW5.out.below hb6)
  have HV6 := Lib.hid (HV5.out.below hb6)
  have HB6 := Lib.hid (HB5.out.trans (hb6.mono HB5.out.size))
  clear hb6
  go_wp2_with fail
  refine (C4.out _ _ _ HB6.out HOW6.out HV6.out).out.mono ?_
  rintro r w7 ⟨rfl, hb7⟩
  have HOW7 := Lib.hid (HOW6.out.below hb7)
  have HV7 := Lib.hid (HV6.out.below hb7)
  have HB7 := Lib.hid (HB6.out.trans (hb7.mono HB6.out.size))
  clear hb7
  go_wp2_with fail
  refine (C5.out _ _ _ HB7.out HOW7.out HV7.out).out.mono ?_
  rintro r w8 ⟨rfl, hb8⟩
  have HV8 := Lib.hid (HV7.out.below hb8)
  have HB8 := Lib.hid (HB7.out.trans (hb8.mono HB7.out.size))
  clear hb8
  go_wp2_with fail
  refine (C6.out _ _ HB8.out HV8.out).out.mono ?_
  rintro r w9 ⟨rfl, hb9⟩
  have HB9 := Lib.hid (HB8.out.trans (hb9.mono HB8.out.size))
  clear hb9
  go_wp2
  go_ret
  exact ⟨rfl, HB9.out⟩
set_option maxRecDepth 100000 in
theorem pathOwn_walk (s : List UInt8) (x : Stp) (hs : s.length ≤ 9223372036854775807) (w : World) (C : PthC w) (HA : Awake15 w) :
  Calls Tryd.prog 5 #[.string (txt s), .agg #[.string (txt x.1), .string (txt x.2)]] w (fun r w' => r = .returned (.bool true) ∧ Below w.heap.size w w') := by
 by_cases h5 : 500 < s.length
 ·have HAW := Lib.hid (HA (w.alloc (.cells #[.string (txt x.1), .string (txt x.2)] 46)) ((Below.refl _ _).alloc (Nat.le_refl _) _))
  have HAL : Hid (Below w.heap.size w (w.alloc (.cells #[.string (txt x.1), .string (txt x.2)] 46))) := Lib.hid ((Below.refl _ _).alloc (Nat.le_refl _) _)
  have hsz := txt_size s
  have i0 : (500 : Int) < (s.length : Int) := by omega
  clear C h5 HA
  go_enter Tryd.func5, Tryd.ntmps5
  go_wp2_with fail
  refine HAW.out.mono ?_
  rintro r w1 ⟨rfl, hB1⟩
  have HB1 := Lib.hid (HAL.out.trans (hB1.mono HAL.out.size))
  clear hB1
  go_wp2
  go_ret
  exact ⟨rfl, HB1.out⟩
 rcases parse_ways s with ⟨l, h, hok, h6, hsh⟩ | ⟨e, a, h, he, ha⟩
 ·obtain ⟨m, f, b, hY⟩ : ∃ m f b, parseX (s ++ nUpT) = (m, f, b) := ⟨_, _, _, rfl⟩
  refine pathOwn_ok s x l m f b w (by omega) h h6 hok hsh hY ?_ C HA
  have hp := parse_more h hok h6 hsh
  rw [hY] at hp
  rcases hp with ⟨h1, h2, h3⟩ | ⟨h1, h2, h3⟩ | ⟨h1, h2⟩
  ·exact .inr (.inr ⟨h2, by rw [h1]; rfl⟩)
  ·exact .inr (.inl ⟨h2, h1⟩)
  ·have e1 : m = l ++ [([117, 112], [])] := congrArg Prod.fst h2
   have e2 : f = 0 := congrArg (fun p => p.2.1) h2
   exact .inl ⟨e2, by rw [e1, List.length_append]; rfl⟩
 ·exact pathOwn_bad s x e a w (by omega) h he ha C HA
end Go.Proofs.YtikmilcdibldhaaDoor
