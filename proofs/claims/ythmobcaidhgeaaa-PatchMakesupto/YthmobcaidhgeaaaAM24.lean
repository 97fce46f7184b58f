/- PpvA PpvB -/
import Derived.Test.YthmobcaidhgeaaaAM23
set_option linter.unusedSimpArgs false
set_option linter.unusedVariables false
set_option maxRecDepth 100000
set_option maxHeartbeats 8000000
namespace Go.Proofs.Ythmobcaidhgeaaa
open Go.RowKit
section
attribute [local go_sem] Oper.semAt_some
theorem pleaf_any (a : NdD) (u : Value) (w : World) :
  Calls Try.prog 42 #[.agg (cN a u)] w (Ans9 (.bool (decide (a.kind ≠ 0))) w) := by
 have HB : Hid (Below w.heap.size w (w.alloc (.cells (cN a u) 27))) := hHd bAl
 by_cases h : a.kind = 0
 ·have e1 : (a.kind == 0) = true := beq_iff_eq.2 h
  have e2 : (a.kind != 0) = false := by simp [h]
  have HD : Hid (decide (a.kind ≠ 0) = false) := hHd (by simp [h])
  clear h
  go_enter Try.func42, Try.ntmps42
  go_wp2
  go_ret
  exact ⟨by rw [HD.out]; rfl, HB.out⟩
 ·have e1 : (a.kind == 0) = false := beq_eq_false_iff_ne.2 h
  have e2 : (a.kind != 0) = true := by simp [h]
  have HD : Hid (decide (a.kind ≠ 0) = true) := hHd (by simp [h])
  clear h
  go_enter Try.func42, Try.ntmps42
  go_wp2
  go_ret
  exact ⟨by rw [HD.out]; rfl, HB.out⟩
theorem step_eql17 (s t : Stp) (W : World) : (binOp .eql 47 (.agg #[.string (txt s.1), .string (txt s.2)]) (.agg #[.string (txt t.1), .string (txt t.2)])).run Try.prog W = .ok (.bool (decide (s = t))) W := by
 rw [run_eql_struct, show (10000 : Nat) = 9999 + 1 from rfl, run_equalIn_agg W 9999 47 _ _ (by simp only [Program.fieldsOf, Try.underlying47]) (by kernel_rfl)]
 simp only [Program.fieldsOf, Try.underlying47]
 simp only [Op.eqFields]
 go_simp
 simp only [txt_toList]
 by_cases h1 : s.1 = t.1
 ·by_cases h2 : s.2 = t.2
  ·have h : s = t := Prod.ext h1 h2
   simp [h]
  ·have h : s ≠ t := fun e => h2 (congrArg Prod.snd e)
   simp [h1, h2, h]
 ·have h : s ≠ t := fun e => h1 (congrArg Prod.fst e)
  simp [h1, h]
def endsX (l : List Stp) (s : Stp) : Bool := decide (l.getLast? = some s)
theorem pfor_nil (a p o n : NdD) (f pf og : NdF) (A P O B : Option Addr) (c pc oc m : Nat) (K : Int) (u : Value) (w : World) :
  Calls Try.prog 38 #[.agg #[.string (txt a.name), .string (txt a.key), .int .i64 a.kind, .int .u64 (a.num : Int), .string (txt a.text), .slice A f.len c, .int .i64 K, .slice B 0 m, .string (txt p.name), .string (txt p.key), .int .i64 p.kind, .int .u64 (p.num : Int), .string (txt p.text), .slice P pf.len pc, .string (txt o.name), .string (txt o.key), .int .i64 o.kind, .int .u64 (o.num : Int), .string (txt o.text), .slice O og.len oc], .agg (cN n u)] w (Ans9 (.bool false) w) := by
 have HB : Hid (Below w.heap.size w ((w.alloc (.cells #[.string (txt a.name), .string (txt a.key), .int .i64 a.kind, .int .u64 (a.num : Int), .string (txt a.text), .slice A f.len c, .int .i64 K, .slice B 0 m, .string (txt p.name), .string (txt p.key), .int .i64 p.kind, .int .u64 (p.num : Int), .string (txt p.text), .slice P pf.len pc, .string (txt o.name), .string (txt o.key), .int .i64 o.kind, .int .u64 (o.num : Int), .string (txt o.text), .slice O og.len oc] 51)).alloc (.cells (cN n u) 27))) := hHd (bAl.alloc (by simp) _)
 go_enter Try.func38, Try.ntmps38
 go_wp2_with fail
 go_region
 go_wp2_with fail
 go_ret
 exact ⟨rfl, HB.out.drew⟩
theorem pfor_some (a p o n : NdD) (f pf og : NdF) (A P O : Option Addr) (c pc oc m K g d : Nat) (k : Int) (s : Stp) (u : Value) (w : World) (hg : g < w.heap.size) (h0 : w.cell? ⟨g, d + K * 2, none⟩ = some (.string (txt s.1))) (h1 : w.cell? ⟨g, d + K * 2 + 1, none⟩ = some (.string (txt s.2))) (hK : K ≤ 1000000) (hm : K + 1 ≤ m) :
  Calls Try.prog 38 #[.agg #[.string (txt a.name), .string (txt a.key), .int .i64 a.kind, .int .u64 (a.num : Int), .string (txt a.text), .slice A f.len c, .int .i64 k, .slice (some ⟨g, d, none⟩) (K + 1) m, .string (txt p.name), .string (txt p.key), .int .i64 p.kind, .int .u64 (p.num : Int), .string (txt p.text), .slice P pf.len pc, .string (txt o.name), .string (txt o.key), .int .i64 o.kind, .int .u64 (o.num : Int), .string (txt o.text), .slice O og.len oc], .agg (cN n u)] w (Ans9 (.bool (decide (s = stp n))) w) := by
 have hb : Below w.heap.size w ((w.alloc (.cells #[.string (txt a.name), .string (txt a.key), .int .i64 a.kind, .int .u64 (a.num : Int), .string (txt a.text), .slice A f.len c, .int .i64 k, .slice (some ⟨g, d, none⟩) (K + 1) m, .string (txt p.name), .string (txt p.key), .int .i64 p.kind, .int .u64 (p.num : Int), .string (txt p.text), .slice P pf.len pc, .string (txt o.name), .string (txt o.key), .int .i64 o.kind, .int .u64 (o.num : Int), .string (txt o.text), .slice O og.len oc] 51)).alloc (.cells (cN n u) 27)) := bAl.alloc (by simp) _
 have HB := hHd hb
 have q0 : ((w.alloc (.cells #[.string (txt a.name), .string (txt a.key), .int .i64 a.kind, .int .u64 (a.num : Int), .string (txt a.text), .slice A f.len c, .int .i64 k, .slice (some ⟨g, d, none⟩) (K + 1) m, .string (txt p.name), .string (txt p.key), .int .i64 p.kind, .int .u64 (p.num : Int), .string (txt p.text), .slice P pf.len pc, .string (txt o.name), .string (txt o.key), .int .i64 o.kind, .int .u64 (o.num : Int), .string (txt o.text), .slice O og.len oc] 51)).alloc (.cells (cN n u) 27)).cell? ⟨g, d + K * 2, none⟩ = some (.string (txt s.1)) := (hb.cell (p := ⟨g, d + K * 2, none⟩) hg).trans h0
 have q1 : ((w.alloc (.cells #[.string (txt a.name), .string (txt a.key), .int .i64 a.kind, .int .u64 (a.num : Int), .string (txt a.text), .slice A f.len c, .int .i64 k, .slice (some ⟨g, d, none⟩) (K + 1) m, .string (txt p.name), .string (txt p.key), .int .i64 p.kind, .int .u64 (p.num : Int), .string (txt p.text), .slice P pf.len pc, .string (txt o.name), .string (txt o.key), .int .i64 o.kind, .int .u64 (o.num : Int), .string (txt o.text), .slice O og.len oc] 51)).alloc (.cells (cN n u) 27)).cell? ⟨g, d + K * 2 + 1, none⟩ = some (.string (txt s.2)) := (hb.cell (p := ⟨g, d + K * 2 + 1, none⟩) hg).trans h1
 have e1 := step_eql17 s (stp n)
 have i1 : (0 : Int) ≤ (K : Int) := by omega
 have i2 : (K : Int) < (K : Int) + 1 := by omega
 have i3 : IntKind.i64.wrap ((K : Int) + 1 - 1) = (K : Int) := by rw [show (K : Int) + 1 - 1 = (K : Int) by omega]; exact Go.IntWalk.i64_in _ (by omega)
 unfold stp at e1
 clear hb h0 h1
 go_enter Try.func38, Try.ntmps38
 go_wp2_with fail
 go_region
 go_wp2_with fail
 go_ret
 exact ⟨rfl, HB.out.drew⟩
end
section
attribute [local go_sem] Oper.semAt_some
theorem NewT.lieP {base : Nat} {w : World} {cs : List Value} {x : Nd} (h : NewT base w cs x) : LieP 0 base w cs x := by
 obtain ⟨S, h1, h2, h3, v, h4, h5⟩ := h
 exact FrN.mono stay_nd ⟨h2, h3.1, v, h4, h5.plain⟩ (fun g hg => .inr ⟨(h1 g hg).1, (h1 g hg).lt⟩) (fun _ h => h)
theorem pfor_any (a p o n : NdD) (f pf og : NdF) (A P O B : Option Addr) (c pc oc m : Nat) (k : Int) (l : List Stp) (u : Value) (w : World) (hv : WayV w.heap.size w (.slice B l.length m) l) (hl : l.length ≤ 1000000) :
  Calls Try.prog 38 #[.agg #[.string (txt a.name), .string (txt a.key), .int .i64 a.kind, .int .u64 (a.num : Int), .string (txt a.text), .slice A f.len c, .int .i64 k, .slice B l.length m, .string (txt p.name), .string (txt p.key), .int .i64 p.kind, .int .u64 (p.num : Int), .string (txt p.text), .slice P pf.len pc, .string (txt o.name), .string (txt o.key), .int .i64 o.kind, .int .u64 (o.num : Int), .string (txt o.text), .slice O og.len oc], .agg (cN n u)] w (Ans9 (.bool (endsX l (stp n))) w) := by
 by_cases h0 : l = []
 ·subst h0
  exact pfor_nil a p o n f pf og A P O B c pc oc m k u w
 ·obtain ⟨s, hs, hlast⟩ := last_at h0
  have hpos : 0 < l.length := List.length_pos_iff.2 h0
  obtain ⟨K, hK⟩ : ∃ K, K = l.length - 1 := ⟨_, rfl⟩
  rw [← hK] at hs
  have e : l.length = K + 1 := by omega
  have hcap : l.length ≤ m := by obtain ⟨_, _, h1, h2, _⟩ := hv; injection h1 with _ _ h3; omega
  obtain ⟨g, d, rfl, -, -, hg, c0, c1⟩ := hv.at hs
  have h := pfor_some a p o n f pf og A P O c pc oc m K g d k s u w hg c0 c1 (by omega) (by omega)
  unfold endsX
  rw [hlast, e, show decide (some s = some (stp n)) = decide (s = stp n) by simp]
  exact h
def oldX (n : Nd) (l : List Stp) (o : Nd) : Nat := if (GetX n l).2 = false then 30 else if (GetX n l).1 ≠ o then 23 else 0
theorem pold_any (a p o : NdD) (f pf og : NdF) (A P O B : Option Addr) (c pc oc m : Nat) (k : Int) (l : List Stp) (w : World) (hx : LieN w (ndC a (.slice A f.len c)) (a, f)) (hv : WayV w.heap.size w (.slice B l.length m) l) (ho : LieN w (ndC o (.slice O og.len oc)) (o, og)) (hf : f.size ≤ 1000000) (hog : og.size ≤ 1000000) (hl : l.length ≤ 1000000) :
  Calls Try.prog 40 #[.agg #[.string (txt a.name), .string (txt a.key), .int .i64 a.kind, .int .u64 (a.num : Int), .string (txt a.text), .slice A f.len c, .int .i64 k, .slice B l.length m, .string (txt p.name), .string (txt p.key), .int .i64 p.kind, .int .u64 (p.num : Int), .string (txt p.text), .slice P pf.len pc, .string (txt o.name), .string (txt o.key), .int .i64 o.kind, .int .u64 (o.num : Int), .string (txt o.text), .slice O og.len oc]] w (Ans9 (.int .i64 (oldX (a, f) l (o, og) : Int)) w) := by
 obtain ⟨⟨ya, yf⟩, hy⟩ : ∃ y, y = (GetX (a, f) l).1 := ⟨_, rfl⟩
 have hyf : yf.size ≤ 1000000 := by have h := GetX_few17 (a, f) l; rw [← hy] at h; exact Nat.le_trans h hf
 have HB : Hid (Below w.heap.size w (w.alloc (.cells #[.string (txt a.name), .string (txt a.key), .int .i64 a.kind, .int .u64 (a.num : Int), .string (txt a.text), .slice A f.len c, .int .i64 k, .slice B l.length m, .string (txt p.name), .string (txt p.key), .int .i64 p.kind, .int .u64 (p.num : Int), .string (txt p.text), .slice P pf.len pc, .string (txt o.name), .string (txt o.key), .int .i64 o.kind, .int .u64 (o.num : Int), .string (txt o.text), .slice O og.len oc] 51))) := hHd bAl
 have HX : Hid (Blk (w.alloc (.cells #[.string (txt a.name), .string (txt a.key), .int .i64 a.kind, .int .u64 (a.num : Int), .string (txt a.text), .slice A f.len c, .int .i64 k, .slice B l.length m, .string (txt p.name), .string (txt p.key), .int .i64 p.kind, .int .u64 (p.num : Int), .string (txt p.text), .slice P pf.len pc, .string (txt o.name), .string (txt o.key), .int .i64 o.kind, .int .u64 (o.num : Int), .string (txt o.text), .slice O og.len oc] 51)) w.heap.size 51 #[.string (txt a.name), .string (txt a.key), .int .i64 a.kind, .int .u64 (a.num : Int), .string (txt a.text), .slice A f.len c, .int .i64 k, .slice B l.length m, .string (txt p.name), .string (txt p.key), .int .i64 p.kind, .int .u64 (p.num : Int), .string (txt p.text), .slice P pf.len pc, .string (txt o.name), .string (txt o.key), .int .i64 o.kind, .int .u64 (o.num : Int), .string (txt o.text), .slice O og.len oc]) := hHd (Blk.new _ _ _)
 cases his : (GetX (a, f) l).2 with
 | false =>
  have HV : Hid (oldX (a, f) l (o, og) = 30) := hHd (by unfold oldX; rw [if_pos his])
  have HG : ∀ W, Below w.heap.size w W → Hid (Calls Try.prog 25 #[.agg (cN a (.slice A f.len c)), .slice B l.length m] W (TreP (ya, yf) (.bool false) W)) := fun W hW => hHd (by have h := getT W (a, f) l _ _ W (hx.below hW) (hv.below hW) hf hl (Below.refl _ _); rw [← hy, his] at h; exact h)
  clear hx hv ho hf hog hl hy his
  go_enter Try.func40, Try.ntmps40
  go_wp2_with fail
  refine (HG _ HB.out).out.mono ?_
  rintro r w1 ⟨cs, rfl, hn, hb⟩
  obtain ⟨A3, c3, rfl, -⟩ := hn.lieP.shape
  have HB1 := hHd ((HB.out.trans (hb.mono HB.out.size)).alloc (HB.out.trans (hb.mono HB.out.size)).size (.cells (cN ya (.slice A3 yf.len c3)) 27))
  clear hn hb
  go_wp2_with fail
  go_ret
  exact ⟨by rw [HV.out]; rfl, HB1.out⟩
 | true =>
  cases hs : decide ((ya, yf) = (o, og)) with
  | false =>
   have HV : Hid (oldX (a, f) l (o, og) = 23) := hHd (by unfold oldX; rw [if_neg (by rw [his]; simp), ← hy, if_pos (of_decide_eq_false hs)])
   have HG : ∀ W, Below w.heap.size w W → Hid (Calls Try.prog 25 #[.agg (cN a (.slice A f.len c)), .slice B l.length m] W (TreP (ya, yf) (.bool true) W)) := fun W hW => hHd (by have h := getT W (a, f) l _ _ W (hx.below hW) (hv.below hW) hf hl (Below.refl _ _); rw [← hy, his] at h; exact h)
   have HS : ∀ W cs, LieN W cs (ya, yf) → Below w.heap.size w W → Hid (Calls Try.prog 49 #[.agg cs.toArray, .agg (cN o (.slice O og.len oc))] W (Ans9 (.bool false) W)) := fun W cs hc hW => hHd (by have h := sameT W (ya, yf) (o, og) cs _ W hc (ho.below hW) hyf hog (Below.refl _ _); rw [hs] at h; exact h)
   clear hx hv ho hf hog hl hy his
   go_enter Try.func40, Try.ntmps40
   go_wp2_with fail
   refine (HG _ HB.out).out.mono ?_
   rintro r w1 ⟨cs, rfl, hn, hb⟩
   obtain ⟨A3, c3, rfl, -⟩ := hn.lieP.shape
   have hba : Below w1.heap.size w1 (w1.alloc (.cells (cN ya (.slice A3 yf.len c3)) 27)) := bAl
   have HB1 := hHd ((HB.out.trans (hb.mono HB.out.size)).trans (hba.mono (HB.out.trans (hb.mono HB.out.size)).size))
   have HX1 := hHd ((HX.out.below hb HX.out.lt).below hba (HX.out.below hb HX.out.lt).lt)
   have HS1 := (HS _ _ (hn.lies.below hba) HB1.out)
   have HY1 : Hid (Blk (w1.alloc (.cells (cN ya (.slice A3 yf.len c3)) 27)) w1.heap.size 27 (cN ya (.slice A3 yf.len c3))) := hHd (Blk.new _ _ _)
   clear hn hb hba
   have q0 := (HX1.out.cell 14).trans rfl
   have q1 := (HX1.out.cell 15).trans rfl
   have q2 := (HX1.out.cell 16).trans rfl
   have q3 := (HX1.out.cell 17).trans rfl
   have q4 := (HX1.out.cell 18).trans rfl
   have q5 := (HX1.out.cell 19).trans rfl
   obtain ⟨y0, y1, y2, y3, y4, y5⟩ := cl6 HY1.out
   go_wp2_with fail
   refine HS1.out.mono ?_
   rintro r w2 ⟨rfl, hb⟩
   have HB2 := hHd (HB1.out.trans (hb.mono HB1.out.size))
   clear hb q0 q1 q2 q3 q4 q5 y0 y1 y2 y3 y4 y5 HS1 HY1 HX1
   go_wp2_with fail
   go_ret
   exact ⟨by rw [HV.out]; rfl, HB2.out⟩
  | true =>
   have HV : Hid (oldX (a, f) l (o, og) = 0) := hHd (by unfold oldX; rw [if_neg (by rw [his]; simp), ← hy, if_neg (by simp [of_decide_eq_true hs])])
   have HG : ∀ W, Below w.heap.size w W → Hid (Calls Try.prog 25 #[.agg (cN a (.slice A f.len c)), .slice B l.length m] W (TreP (ya, yf) (.bool true) W)) := fun W hW => hHd (by have h := getT W (a, f) l _ _ W (hx.below hW) (hv.below hW) hf hl (Below.refl _ _); rw [← hy, his] at h; exact h)
   have HS : ∀ W cs, LieN W cs (ya, yf) → Below w.heap.size w W → Hid (Calls Try.prog 49 #[.agg cs.toArray, .agg (cN o (.slice O og.len oc))] W (Ans9 (.bool true) W)) := fun W cs hc hW => hHd (by have h := sameT W (ya, yf) (o, og) cs _ W hc (ho.below hW) hyf hog (Below.refl _ _); rw [hs] at h; exact h)
   clear hx hv ho hf hog hl hy his
   go_enter Try.func40, Try.ntmps40
   go_wp2_with fail
   refine (HG _ HB.out).out.mono ?_
   rintro r w1 ⟨cs, rfl, hn, hb⟩
   obtain ⟨A3, c3, rfl, -⟩ := hn.lieP.shape
   have hba : Below w1.heap.size w1 (w1.alloc (.cells (cN ya (.slice A3 yf.len c3)) 27)) := bAl
   have HB1 := hHd ((HB.out.trans (hb.mono HB.out.size)).trans (hba.mono (HB.out.trans (hb.mono HB.out.size)).size))
   have HX1 := hHd ((HX.out.below hb HX.out.lt).below hba (HX.out.below hb HX.out.lt).lt)
   have HS1 := (HS _ _ (hn.lies.below hba) HB1.out)
   have HY1 : Hid (Blk (w1.alloc (.cells (cN ya (.slice A3 yf.len c3)) 27)) w1.heap.size 27 (cN ya (.slice A3 yf.len c3))) := hHd (Blk.new _ _ _)
   clear hn hb hba
   have q0 := (HX1.out.cell 14).trans rfl
   have q1 := (HX1.out.cell 15).trans rfl
   have q2 := (HX1.out.cell 16).trans rfl
   have q3 := (HX1.out.cell 17).trans rfl
   have q4 := (HX1.out.cell 18).trans rfl
   have q5 := (HX1.out.cell 19).trans rfl
   obtain ⟨y0, y1, y2, y3, y4, y5⟩ := cl6 HY1.out
   go_wp2_with fail
   refine HS1.out.mono ?_
   rintro r w2 ⟨rfl, hb⟩
   have HB2 := hHd (HB1.out.trans (hb.mono HB1.out.size))
   clear hb q0 q1 q2 q3 q4 q5 y0 y1 y2 y3 y4 y5 HS1 HY1 HX1
   go_wp2_with fail
   go_ret
   exact ⟨by rw [HV.out]; rfl, HB2.out⟩
end
end Go.Proofs.Ythmobcaidhgeaaa
