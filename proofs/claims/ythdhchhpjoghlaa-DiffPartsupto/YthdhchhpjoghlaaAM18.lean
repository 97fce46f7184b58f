/- DfvA PtvUnd DfvD -/
import Derived.Test.YthdhchhpjoghlaaAM0
import Derived.Test.YthdhchhpjoghlaaAM2
import Derived.Test.YthdhchhpjoghlaaAM17
import Derived.Laws.ResultCell
import Derived.Deep.DeepCutAuto
import Derived.Test.YthdhchhpjoghlaaAM3
import Derived.Test.YthdhchhpjoghlaaAM9
set_option linter.unusedSimpArgs false
set_option linter.unusedVariables false
namespace Go.Proofs.Ythdhchhpjoghlaa
open Go.RowKit
attribute [local go_sem] Oper.semAt_some
def set14 (w : World) (b : Nat) (x0 x1 x2 x3 x4 x5 x6 x7 x8 x9 x10 x11 x12 x13 : Value) : World := (((((((((((((w.setCell ⟨b, 0, none⟩ x0).setCell ⟨b, 1, none⟩ x1).setCell ⟨b, 2, none⟩ x2).setCell ⟨b, 3, none⟩ x3).setCell ⟨b, 4, none⟩ x4).setCell ⟨b, 5, none⟩ x5).setCell ⟨b, 6, none⟩ x6).setCell ⟨b, 7, none⟩ x7).setCell ⟨b, 8, none⟩ x8).setCell ⟨b, 9, none⟩ x9).setCell ⟨b, 10, none⟩ x10).setCell ⟨b, 11, none⟩ x11).setCell ⟨b, 12, none⟩ x12).setCell ⟨b, 13, none⟩ x13
set_option maxHeartbeats 4000000 in
theorem Blk.set14 {w : World} {b : Nat} {t : TypeId} {y0 y1 y2 y3 y4 y5 y6 y7 y8 y9 y10 y11 y12 y13 : Value} (h : Blk w b t #[y0, y1, y2, y3, y4, y5, y6, y7, y8, y9, y10, y11, y12, y13]) (x0 x1 x2 x3 x4 x5 x6 x7 x8 x9 x10 x11 x12 x13 : Value) : Blk (set14 w b x0 x1 x2 x3 x4 x5 x6 x7 x8 x9 x10 x11 x12 x13) b t #[x0, x1, x2, x3, x4, x5, x6, x7, x8, x9, x10, x11, x12, x13] := by
 have h2 := ((((((((((((((h).set_ 0 x0).set_ 1 x1).set_ 2 x2).set_ 3 x3).set_ 4 x4).set_ 5 x5).set_ 6 x6).set_ 7 x7).set_ 8 x8).set_ 9 x9).set_ 10 x10).set_ 11 x11).set_ 12 x12).set_ 13 x13
 simp only [layS] at h2
 exact h2
theorem set14_below {B : Nat} {w : World} {b : Nat} {x0 x1 x2 x3 x4 x5 x6 x7 x8 x9 x10 x11 x12 x13 : Value} (h : B ≤ b) : Below B w (set14 w b x0 x1 x2 x3 x4 x5 x6 x7 x8 x9 x10 x11 x12 x13) := (((((((((((((((Below.refl B w).setCell (p := ⟨b, 0, none⟩) h x0).setCell (p := ⟨b, 1, none⟩) h x1).setCell (p := ⟨b, 2, none⟩) h x2).setCell (p := ⟨b, 3, none⟩) h x3).setCell (p := ⟨b, 4, none⟩) h x4).setCell (p := ⟨b, 5, none⟩) h x5).setCell (p := ⟨b, 6, none⟩) h x6).setCell (p := ⟨b, 7, none⟩) h x7).setCell (p := ⟨b, 8, none⟩) h x8).setCell (p := ⟨b, 9, none⟩) h x9).setCell (p := ⟨b, 10, none⟩) h x10).setCell (p := ⟨b, 11, none⟩) h x11).setCell (p := ⟨b, 12, none⟩) h x12).setCell (p := ⟨b, 13, none⟩) h x13)
theorem set14_other {w : World} {b g : Nat} {x0 x1 x2 x3 x4 x5 x6 x7 x8 x9 x10 x11 x12 x13 : Value} (h : g ≠ b) : (set14 w b x0 x1 x2 x3 x4 x5 x6 x7 x8 x9 x10 x11 x12 x13).heap[g]? = w.heap[g]? := by
 unfold set14
 rw [Below.heap_setCell _ _ _ _ h, Below.heap_setCell _ _ _ _ h, Below.heap_setCell _ _ _ _ h, Below.heap_setCell _ _ _ _ h, Below.heap_setCell _ _ _ _ h, Below.heap_setCell _ _ _ _ h, Below.heap_setCell _ _ _ _ h, Below.heap_setCell _ _ _ _ h, Below.heap_setCell _ _ _ _ h, Below.heap_setCell _ _ _ _ h, Below.heap_setCell _ _ _ _ h, Below.heap_setCell _ _ _ _ h, Below.heap_setCell _ _ _ _ h, Below.heap_setCell _ _ _ _ h]
set_option maxHeartbeats 1000000 in
set_option maxRecDepth 100000 in
theorem dleaf_any (a : NdD) (u : Value) (w : World) :
  Calls Try.prog 25 #[.agg #[.string (txt a.name), .string (txt a.key), .int .i64 a.kind, .int .u64 (a.num : Int), .string (txt a.text), u]] w (Ans9 (.bool (decide (a.kind ≠ 0))) w) := by
 have HB : Hid (Below w.heap.size w (w.alloc (.cells #[.string (txt a.name), .string (txt a.key), .int .i64 a.kind, .int .u64 (a.num : Int), .string (txt a.text), u] 27))) := Lib.hid ((Below.refl _ _).alloc (Nat.le_refl _) _)
 by_cases h : a.kind = 0
 ·have e1 : (a.kind == 0) = true := beq_iff_eq.2 h
  have e2 : (a.kind != 0) = false := by simp [h]
  have HD : Hid (decide (a.kind ≠ 0) = false) := Lib.hid (by simp [h])
  clear h
  go_enter Try.func25, Try.ntmps25
  go_wp2
  go_ret
  exact ⟨by rw [HD.out]; rfl, HB.out⟩
 ·have e1 : (a.kind == 0) = false := beq_eq_false_iff_ne.2 h
  have e2 : (a.kind != 0) = true := by simp [h]
  have HD : Hid (decide (a.kind ≠ 0) = true) := Lib.hid (by simp [h])
  clear h
  go_enter Try.func25, Try.ntmps25
  go_wp2
  go_ret
  exact ⟨by rw [HD.out]; rfl, HB.out⟩
inductive Veil16 (P : Prop) : Prop
 | mk : P → Veil16 P
theorem Veil16.out {P : Prop} (h : Veil16 P) : P := by cases h; assumption
def OwnSP (l : List Stp) (w : World) (r : Ending) (w' : World) : Prop := ∃ v, r = .returned v ∧ OwnS w.heap.size w' v l ∧ Below w.heap.size w w'
set_option maxRecDepth 100000 in
set_option maxHeartbeats 1000000 in
theorem clones_none (c : Nat) (w : World) : Calls Try.prog 48 #[.slice none 0 c] w (OwnSP [] w) := by
 have HC : Hid (OwnSP [] w (.returned (.slice none 0 0)) w) := Lib.hid ⟨_, rfl, OwnS.nil _ _, Below.refl _ _⟩
 have e9 : ∀ W, (binOp .eql 33 (.slice none 0 c) (.slice none 0 0)).run Try.prog W = .ok (.bool true) W := fun W => Go.Lib.run_eql_slice_nil W _ _ _ _ _ _ _ Try.underlying33
 go_enter Try.func48, Try.ntmps48
 go_wp2
 go_ret
 exact HC.out
theorem run_clone (w : World) (ad : Addr) (l : List Stp) (c : Nat) (hv : WayV w.heap.size w (.slice (some ad) l.length c) l) (hl : l.length ≤ 1000000) :
  ∃ v' w', (Builtin.append_ #[33, 33] 33 #[.slice (some ⟨w.heap.size, 0, none⟩) 0 0, .slice (some ad) l.length c]).run Try.prog (w.alloc (.cells #[] 39)) = .ok v' w' ∧ OwnSP l w (.returned v') w' := by
 have hbw : Below w.heap.size w (w.alloc (.cells #[] 39)) := (Below.refl _ _).alloc (Nat.le_refl _) _
 have hown : OwnK 39 2 (w.alloc (.cells #[] 39)) w.heap.size (.slice (some ⟨w.heap.size, 0, none⟩) 0 0) 0 [] := ⟨rfl, .inr ⟨w.heap.size, 0, #[], rfl, Nat.le_refl _, Blk.new w _ _, Nat.le_refl _, by unfold maxLen; omega, rfl, rfl⟩⟩
 have hv' := hv.below hbw
 obtain ⟨i, hi, hz0, hz1, hz2⟩ := info_parts Try.cellsSt
 have hcells : ∀ j u, (stC l)[j]? = some u → (w.alloc (.cells #[] 39)).cell? (ad.add j) = some u := by
  intro j u hu
  by_cases h0 : 0 < l.length
  ·obtain ⟨ad', e, hc⟩ := hv'.cells h0
   injection e with e
   subst e
   exact hc j u hu
  ·have e : l = [] := List.eq_nil_of_length_eq_zero (by omega)
   subst e
   simp [stC] at hu
 obtain ⟨v', w', hr, h2, h3, -, h5⟩ := run_append_own_at (P := Try.prog) (w.alloc (.cells #[] 39)) w.heap.size 33 33 39 i (.agg #[.string ⟨#[]⟩, .string ⟨#[]⟩]) 2 32 Try.underlying33 hi hz0 hz1 hz2 szeroN (by omega) (.slice (some ⟨w.heap.size, 0, none⟩) 0 0) 0 [] hown ad l.length c (stC l) (stC_len l) hcells (stC_one l) (by unfold maxLen; omega) (by omega) hbw.size
 rw [Nat.zero_add] at h2
 exact ⟨v', w', hr, _, rfl, h2, hbw.grown h3 hbw.size fun k e => by have e2 : some w.heap.size = some k := e; injection e2 with e2; omega⟩
set_option maxRecDepth 100000 in
set_option maxHeartbeats 1000000 in
theorem clones_some (ad : Addr) (l : List Stp) (c : Nat) (w : World) (hv : WayV w.heap.size w (.slice (some ad) l.length c) l) (hl : l.length ≤ 1000000) : Calls Try.prog 48 #[.slice (some ad) l.length c] w (OwnSP l w) := by
 have HR := Lib.hid (run_clone w ad l c hv hl)
 clear hv hl
 have e9 : ∀ W, (binOp .eql 33 (.slice (some ad) l.length c) (.slice none 0 0)).run Try.prog W = .ok (.bool false) W := fun W => Go.Lib.run_eql_slice_nil W _ _ _ _ _ _ _ Try.underlying33
 obtain ⟨v', w', hr, hp⟩ := HR.out
 have HRN := Lib.hid hr
 have HP := Lib.hid hp
 clear hr hp HR
 go_enter Try.func48, Try.ntmps48
 go_wp2_with (at_builtin; refine Lib.wpList_append_run _ rfl (.tmp 5) (.tmp 6) 33 33 rfl _ _ rfl rfl _ _ HRN.out ?_)
 go_wp2
 go_ret
 exact HP.out
theorem clones_any (l : List Stp) (v : Value) (w : World) (hv : WayV w.heap.size w v l) (hl : l.length ≤ 1000000) : Calls Try.prog 48 #[v] w (OwnSP l w) := by
 obtain ⟨A, c, rfl⟩ := hv.shape
 cases A with
 | none =>
  obtain ⟨A', c', e, h1, h2⟩ := hv
  injection e with e1 e2 e3
  subst e1
  by_cases h0 : 0 < l.length
  ·obtain ⟨_, _, he, _⟩ := h2 h0
   cases he
  ·have e : l = [] := List.eq_nil_of_length_eq_zero (by omega)
   subst e
   exact clones_none c w
 | some ad => exact clones_some ad l c w hv hl
def NewP (x : Nd) (w : World) (r : Ending) (w' : World) : Prop := ∃ A c, r = .returned (.agg (ndC x.1 (.slice A x.2.len c)).toArray) ∧ RowS (Fresh9 w.heap.size w') w' (.slice A x.2.len c) x.2 ∧ Below w.heap.size w w'
theorem Fresh9.keep {b b' : Nat} {w w' : World} {g : Nat} (h : Fresh9 b w g) (e : w'.heap[g]? = w.heap[g]?) (hb : b' ≤ b) : Fresh9 b' w' g := by
 obtain ⟨h1, cs, t, h2⟩ := h
 exact ⟨Nat.le_trans hb h1, cs, t, e.trans h2⟩
theorem OwnS.wf {b : Nat} {w : World} {v : Value} {l : List Stp} (h : OwnS b w v l) : WayS (Fresh9 b w) w v l := by
 rcases OwnK.row h with ⟨d, ⟨h0, A, c, rfl, h1, h2⟩, hd⟩
 refine ⟨A, c, rfl, h1, fun hp => ?_⟩
 obtain ⟨hlt, off, rfl, hc⟩ := h2 hp
 refine ⟨d, off, rfl, ⟨hd hp, ?_⟩, fun j s hs => ?_⟩
 ·rcases h.2 with ⟨e, _⟩ | ⟨g, cap, cur, e, _, hg, _⟩
  ·cases e
  ·injection e with e1
   injection e1 with e1
   injection e1 with e1
   subst e1
   exact ⟨cur, _, hg⟩
 ·obtain ⟨g1, g2⟩ := stC_at l j s hs
  exact ⟨hc _ _ g1, by have := hc _ _ g2; rwa [← Nat.add_assoc] at this⟩
theorem NewT.rows {base : Nat} {w : World} {cs : List Value} {x : Nd} (h : NewT base w cs x) : ∃ A c, cs = ndC x.1 (.slice A x.2.len c) ∧ RowS (Fresh9 base w) w (.slice A x.2.len c) x.2 := by
 obtain ⟨S, h1, _, ⟨⟨kv, rfl, _⟩, _⟩, v, h4, h5⟩ := h
 have h6 := FrV.mono stay_nd h5.plain (S' := Fresh9 base w) h1 (fun _ h => h)
 obtain ⟨A, c, rfl⟩ := h6.shape
 simp at h4
 subst h4
 exact ⟨A, c, rfl, h6⟩
def Bx2 (w : World) (k : Nat) (X Z : Array Value) (W : World) : Prop := Below w.heap.size w W ∧ Blk W k 27 X ∧ Blk W (k + 1) 27 Z
theorem bx2_new (w : World) (X Z : Array Value) : Bx2 w w.heap.size X Z ((w.alloc (.cells X 27)).alloc (.cells Z 27)) := by
 refine ⟨((Below.refl _ _).alloc (Nat.le_refl _) _).alloc (by simp) _, (Blk.new w 27 X).alloc _, ?_⟩
 have h := Blk.new (w.alloc (.cells X 27)) 27 Z
 rwa [show (w.alloc (.cells X 27)).heap.size = w.heap.size + 1 by simp] at h
set_option maxRecDepth 100000 in
set_option maxHeartbeats 4000000 in
theorem copied_any (x : Nd) (A : Option Addr) (c : Nat) (w : World) (hx : LieN w (ndC x.1 (.slice A x.2.len c)) x) (hf : Few9 x) :
  Calls Try.prog 49 #[.agg #[.string (txt x.1.name), .string (txt x.1.key), .int .i64 x.1.kind, .int .u64 (x.1.num : Int), .string (txt x.1.text), .slice A x.2.len c]] w (NewP x w) := by
 have B0 := Lib.hid (bx2_new w #[.string (txt x.1.name), .string (txt x.1.key), .int .i64 x.1.kind, .int .u64 (x.1.num : Int), .string (txt x.1.text), .slice A x.2.len c] #[.string ⟨#[]⟩, .string ⟨#[]⟩, .int .i64 0, .int .u64 0, .string ⟨#[]⟩, .slice none 0 0])
 have hg := getT w x [] (ndC x.1 (.slice A x.2.len c)) (.slice none 0 0) ((w.alloc (.cells #[.string (txt x.1.name), .string (txt x.1.key), .int .i64 x.1.kind, .int .u64 (x.1.num : Int), .string (txt x.1.text), .slice A x.2.len c] 27)).alloc (.cells #[.string ⟨#[]⟩, .string ⟨#[]⟩, .int .i64 0, .int .u64 0, .string ⟨#[]⟩, .slice none 0 0] 27)) (hx.below B0.out.1) (WayV.nil _ _ _ _) hf (by simp) B0.out.1
 rw [GetX_nil] at hg
 have HG := Lib.hid hg
 clear hx hf hg
 have q0 : ((w.alloc (.cells #[.string (txt x.1.name), .string (txt x.1.key), .int .i64 x.1.kind, .int .u64 (x.1.num : Int), .string (txt x.1.text), .slice A x.2.len c] 27)).alloc (.cells #[.string ⟨#[]⟩, .string ⟨#[]⟩, .int .i64 0, .int .u64 0, .string ⟨#[]⟩, .slice none 0 0] 27)).cell? ⟨w.heap.size, 0, none⟩ = _ := (B0.out.2.1.cell 0).trans rfl
 have q1 : ((w.alloc (.cells #[.string (txt x.1.name), .string (txt x.1.key), .int .i64 x.1.kind, .int .u64 (x.1.num : Int), .string (txt x.1.text), .slice A x.2.len c] 27)).alloc (.cells #[.string ⟨#[]⟩, .string ⟨#[]⟩, .int .i64 0, .int .u64 0, .string ⟨#[]⟩, .slice none 0 0] 27)).cell? ⟨w.heap.size, 1, none⟩ = _ := (B0.out.2.1.cell 1).trans rfl
 have q2 : ((w.alloc (.cells #[.string (txt x.1.name), .string (txt x.1.key), .int .i64 x.1.kind, .int .u64 (x.1.num : Int), .string (txt x.1.text), .slice A x.2.len c] 27)).alloc (.cells #[.string ⟨#[]⟩, .string ⟨#[]⟩, .int .i64 0, .int .u64 0, .string ⟨#[]⟩, .slice none 0 0] 27)).cell? ⟨w.heap.size, 2, none⟩ = _ := (B0.out.2.1.cell 2).trans rfl
 have q3 : ((w.alloc (.cells #[.string (txt x.1.name), .string (txt x.1.key), .int .i64 x.1.kind, .int .u64 (x.1.num : Int), .string (txt x.1.text), .slice A x.2.len c] 27)).alloc (.cells #[.string ⟨#[]⟩, .string ⟨#[]⟩, .int .i64 0, .int .u64 0, .string ⟨#[]⟩, .slice none 0 0] 27)).cell? ⟨w.heap.size, 3, none⟩ = _ := (B0.out.2.1.cell 3).trans rfl
 have q4 : ((w.alloc (.cells #[.string (txt x.1.name), .string (txt x.1.key), .int .i64 x.1.kind, .int .u64 (x.1.num : Int), .string (txt x.1.text), .slice A x.2.len c] 27)).alloc (.cells #[.string ⟨#[]⟩, .string ⟨#[]⟩, .int .i64 0, .int .u64 0, .string ⟨#[]⟩, .slice none 0 0] 27)).cell? ⟨w.heap.size, 4, none⟩ = _ := (B0.out.2.1.cell 4).trans rfl
 have q5 : ((w.alloc (.cells #[.string (txt x.1.name), .string (txt x.1.key), .int .i64 x.1.kind, .int .u64 (x.1.num : Int), .string (txt x.1.text), .slice A x.2.len c] 27)).alloc (.cells #[.string ⟨#[]⟩, .string ⟨#[]⟩, .int .i64 0, .int .u64 0, .string ⟨#[]⟩, .slice none 0 0] 27)).cell? ⟨w.heap.size, 5, none⟩ = _ := (B0.out.2.1.cell 5).trans rfl
 go_enter Try.func49, Try.ntmps49
 go_upto_region 1 with (fail)
 go_cut [] (fun wx => ∃ (A3 : Option Addr) (c3 : Nat), Hid (Bx2 w w.heap.size #[.string (txt x.1.name), .string (txt x.1.key), .int .i64 x.1.kind, .int .u64 (x.1.num : Int), .string (txt x.1.text), .slice A3 x.2.len c3] #[.string ⟨#[]⟩, .string ⟨#[]⟩, .int .i64 0, .int .u64 0, .string ⟨#[]⟩, .slice none 0 0] wx ∧ RowS (Fresh9 (w.heap.size + 2) wx) wx (.slice A3 x.2.len c3) x.2))
 case first =>
  go_wp2_with fail
  refine HG.out.mono ?_
  rintro r w1 ⟨cs, rfl, hn, hb⟩
  obtain ⟨A3, c3, rfl, hr⟩ := hn.rows
  have HR : Hid (RowS (Fresh9 (w.heap.size + 2) w1) w1 (.slice A3 x.2.len c3) x.2) := Lib.hid (by
   have e : ((w.alloc (.cells #[.string (txt x.1.name), .string (txt x.1.key), .int .i64 x.1.kind, .int .u64 (x.1.num : Int), .string (txt x.1.text), .slice A x.2.len c] 27)).alloc (.cells #[.string ⟨#[]⟩, .string ⟨#[]⟩, .int .i64 0, .int .u64 0, .string ⟨#[]⟩, .slice none 0 0] 27)).heap.size = w.heap.size + 2 := by simp
   rw [e] at hr
   exact hr)
  have HX := Lib.hid (B0.out.2.1.below hb B0.out.2.1.lt)
  have HY := Lib.hid (B0.out.2.2.below hb B0.out.2.2.lt)
  have HB := Lib.hid (B0.out.1.trans (hb.mono B0.out.1.size))
  have HQ : Hid (Bx2 w w.heap.size #[.string (txt x.1.name), .string (txt x.1.key), .int .i64 x.1.kind, .int .u64 (x.1.num : Int), .string (txt x.1.text), .slice A3 x.2.len c3] #[.string ⟨#[]⟩, .string ⟨#[]⟩, .int .i64 0, .int .u64 0, .string ⟨#[]⟩, .slice none 0 0] (set6 w1 w.heap.size (.string (txt x.1.name)) (.string (txt x.1.key)) (.int .i64 x.1.kind) (.int .u64 (x.1.num : Int)) (.string (txt x.1.text)) (.slice A3 x.2.len c3)) ∧ RowS (Fresh9 (w.heap.size + 2) (set6 w1 w.heap.size (.string (txt x.1.name)) (.string (txt x.1.key)) (.int .i64 x.1.kind) (.int .u64 (x.1.num : Int)) (.string (txt x.1.text)) (.slice A3 x.2.len c3))) (set6 w1 w.heap.size (.string (txt x.1.name)) (.string (txt x.1.key)) (.int .i64 x.1.kind) (.int .u64 (x.1.num : Int)) (.string (txt x.1.text)) (.slice A3 x.2.len c3)) (.slice A3 x.2.len c3) x.2) := Lib.hid ⟨⟨HB.out.trans (set6_below (Nat.le_refl _)), HX.out.set6 _ _ _ _ _ _, (set6_other (by omega)).trans HY.out⟩, HR.out.keep (fun g hg => set6_other (by have := hg.1; omega)) (fun g hg => hg.keep (set6_other (by have := hg.1; omega)) (Nat.le_refl _))⟩
  have V := Veil16.mk HQ
  clear hn hb hr HR HY HB HG q0 q1 q2 q3 q4 q5 HQ
  have fz0 : (w1).frozen? ⟨w.heap.size, 0, none⟩ = false := HX.out.frozen 0
  have fq0 := (HX.out.cell 0).trans rfl
  have fz1 : (w1).frozen? ⟨w.heap.size, 1, none⟩ = false := HX.out.frozen 1
  have fq1 := (HX.out.cell 1).trans rfl
  have fz2 : (w1).frozen? ⟨w.heap.size, 2, none⟩ = false := HX.out.frozen 2
  have fq2 := (HX.out.cell 2).trans rfl
  have fz3 : (w1).frozen? ⟨w.heap.size, 3, none⟩ = false := HX.out.frozen 3
  have fq3 := (HX.out.cell 3).trans rfl
  have fz4 : (w1).frozen? ⟨w.heap.size, 4, none⟩ = false := HX.out.frozen 4
  have fq4 := (HX.out.cell 4).trans rfl
  have fz5 : (w1).frozen? ⟨w.heap.size, 5, none⟩ = false := HX.out.frozen 5
  have fq5 := (HX.out.cell 5).trans rfl
  clear HX
  go_wp2
  go_meet
  exact ⟨_, _, V.out⟩
 case rest =>
  obtain ⟨A3, c3, H3⟩ := hcut
  obtain ⟨w1, hw1⟩ : ∃ w1, w1 = wc := ⟨_, rfl⟩
  subst hw1
  have HQ : Hid (Blk (set6 w1 (w.heap.size + 1) (.string (txt x.1.name)) (.string (txt x.1.key)) (.int .i64 x.1.kind) (.int .u64 (x.1.num : Int)) (.string (txt x.1.text)) (.slice A3 x.2.len c3)) (w.heap.size + 1) 27 #[.string (txt x.1.name), .string (txt x.1.key), .int .i64 x.1.kind, .int .u64 (x.1.num : Int), .string (txt x.1.text), .slice A3 x.2.len c3]) := Lib.hid (H3.out.1.2.2.set6 _ _ _ _ _ _)
  have HP : Hid (NewP x w (.returned (.agg #[.string (txt x.1.name), .string (txt x.1.key), .int .i64 x.1.kind, .int .u64 (x.1.num : Int), .string (txt x.1.text), .slice A3 x.2.len c3])) (set6 w1 (w.heap.size + 1) (.string (txt x.1.name)) (.string (txt x.1.key)) (.int .i64 x.1.kind) (.int .u64 (x.1.num : Int)) (.string (txt x.1.text)) (.slice A3 x.2.len c3))) := Lib.hid ⟨_, _, rfl, H3.out.2.keep (fun g hg => set6_other (by have := hg.1; omega)) (fun g hg => hg.keep (set6_other (by have := hg.1; omega)) (by omega)), H3.out.1.1.trans (set6_below (Nat.le_succ _))⟩
  have V := Veil16.mk (And.intro HQ HP)
  have HX := Lib.hid H3.out.1.2.1
  have HY := Lib.hid H3.out.1.2.2
  have y0 := (HX.out.cell 0).trans rfl
  have y1 := (HX.out.cell 1).trans rfl
  have y2 := (HX.out.cell 2).trans rfl
  have y3 := (HX.out.cell 3).trans rfl
  have y4 := (HX.out.cell 4).trans rfl
  have y5 := (HX.out.cell 5).trans rfl
  have fz0 : (w1).frozen? ⟨w.heap.size + 1, 0, none⟩ = false := HY.out.frozen 0
  have fq0 := (HY.out.cell 0).trans rfl
  have fz1 : (w1).frozen? ⟨w.heap.size + 1, 1, none⟩ = false := HY.out.frozen 1
  have fq1 := (HY.out.cell 1).trans rfl
  have fz2 : (w1).frozen? ⟨w.heap.size + 1, 2, none⟩ = false := HY.out.frozen 2
  have fq2 := (HY.out.cell 2).trans rfl
  have fz3 : (w1).frozen? ⟨w.heap.size + 1, 3, none⟩ = false := HY.out.frozen 3
  have fq3 := (HY.out.cell 3).trans rfl
  have fz4 : (w1).frozen? ⟨w.heap.size + 1, 4, none⟩ = false := HY.out.frozen 4
  have fq4 := (HY.out.cell 4).trans rfl
  have fz5 : (w1).frozen? ⟨w.heap.size + 1, 5, none⟩ = false := HY.out.frozen 5
  have fq5 := (HY.out.cell 5).trans rfl
  clear B0 HG q0 q1 q2 q3 q4 q5 H3 HQ HP HX HY
  go_wp2
  refine bodyPost_ret (results_cell_row rfl _ _ (w.heap.size + 1) 27 _ (0, 0) _ rfl V.out.1.out Try.underlying27 rfl (by kernel_rfl)) rfl ?_
  exact V.out.2.out
end Go.Proofs.Ythdhchhpjoghlaa
namespace Go.Proofs.Ythdhchhpjoghlaa
open Go.RowKit
attribute [local go_sem] Oper.semAt_some
set_option maxRecDepth 100000 in
set_option maxHeartbeats 4000000 in
theorem under15_any (l m : List Stp) (va vb : Value) (w : World) (ha : WayV w.heap.size w va l) (hb : WayV w.heap.size w vb m) (hl : l.length ≤ 1000000) (hm : m.length ≤ 1000000) :
  Calls Try.prog 35 #[va, vb] w (Ans9 (.bool (underX l m)) w) := by
 obtain ⟨A, c, rfl⟩ := ha.shape
 obtain ⟨B, d, rfl⟩ := hb.shape
 by_cases hlen : l.length < m.length
 ·have HX : Hid (underX l m = false) := Lib.hid (under_no hlen (by rw [List.getElem?_eq_none (Nat.le_refl _), List.getElem?_eq_getElem hlen]; intro e; cases e))
  have y0 : (l.length : Int) < (m.length : Int) := by omega
  have y1 : decide ((l.length : Int) < (m.length : Int)) = true := decide_eq_true y0
  have y2 : decide (l.length < m.length) = true := decide_eq_true hlen
  clear ha hb
  go_enter Try.func35, Try.ntmps35
  go_wp2
  go_ret
  exact ⟨by rw [HX.out]; rfl, Below.refl _ _⟩
 have HA := Lib.hid ha
 have HB := Lib.hid hb
 have y0 : ¬ (l.length : Int) < (m.length : Int) := by omega
 have y1 : decide ((l.length : Int) < (m.length : Int)) = false := decide_eq_false y0
 have y2 : decide (l.length < m.length) = false := decide_eq_false hlen
 clear ha hb
 have l0 : (l.length : Int) ≤ 1000000 := by omega
 have m0 : (m.length : Int) ≤ 1000000 := by omega
 go_enter Try.func35, Try.ntmps35
 go_wp2_with fail
 go_loopw [5, 6, 14] (fun _ _ v wr => ∃ j : Nat, j ≤ m.length ∧ v = .int .i64 (j : Int) ∧ Hid (∀ k, k < j → l[k]? = m[k]?) ∧ Hid (Below w.heap.size w wr)) (fun _ _ v _ => m.length - (intOf v).toNat)
 case atStart => exact ⟨0, Nat.zero_le _, rfl, Lib.hid (fun k hk => absurd hk (Nat.not_lt_zero _)), Lib.hid (Below.refl _ _)⟩
 case round =>
  obtain ⟨j, hj, rfl, HE, HW⟩ := hrel
  have i1 : (0 : Int) ≤ (j : Int) := by omega
  by_cases hlt : j < m.length
  ·have i3 : (j : Int) < (m.length : Int) := by omega
   obtain ⟨t, ht⟩ : ∃ t, m[j]? = some t := ⟨_, List.getElem?_eq_getElem hlt⟩
   have hll : j < l.length := by omega
   obtain ⟨s, hs⟩ : ∃ s, l[j]? = some s := ⟨_, List.getElem?_eq_getElem hll⟩
   obtain ⟨g, o, rfl, -, h2, h3, h4, h5⟩ := (HA.out.under HW.out (Nat.le_refl _) (Nat.le_refl _)).at hs
   obtain ⟨g', o', rfl, -, k2, k3, k4, k5⟩ := (HB.out.under HW.out (Nat.le_refl _) (Nat.le_refl _)).at ht
   have i2 : (j : Int) < (l.length : Int) := by omega
   have hz := HW.out.size
   have HWX : Hid (Below w.heap.size w (wr.alloc (.cells #[.string (txt t.1), .string (txt t.2)] 39)).drew) := Lib.hid (HW.out.alloc hz _).drew
   have HAL : Hid (Below wr.heap.size wr (wr.alloc (.cells #[.string (txt t.1), .string (txt t.2)] 39)).drew) := Lib.hid ((Below.refl _ _).alloc (Nat.le_refl _) _).drew
   have HBX : Hid (Blk (wr.alloc (.cells #[.string (txt t.1), .string (txt t.2)] 39)).drew wr.heap.size 39 #[.string (txt t.1), .string (txt t.2)]) := Lib.hid (by have h := Blk.new wr 39 #[.string (txt t.1), .string (txt t.2)]; exact h.below (Below.refl _ _).drew h.lt)
   have HS0 : Hid ((wr.alloc (.cells #[.string (txt t.1), .string (txt t.2)] 39)).drew.cell? ⟨g, o + j * 2, none⟩ = some (.string (txt s.1)) ∧ (wr.alloc (.cells #[.string (txt t.1), .string (txt t.2)] 39)).drew.cell? ⟨g, o + j * 2 + 1, none⟩ = some (.string (txt s.2)) ∧ (wr.alloc (.cells #[.string (txt t.1), .string (txt t.2)] 39)).drew.cell? ⟨wr.heap.size, 0, none⟩ = some (.string (txt t.1)) ∧ (wr.alloc (.cells #[.string (txt t.1), .string (txt t.2)] 39)).drew.cell? ⟨wr.heap.size, 1, none⟩ = some (.string (txt t.2))) := Lib.hid ⟨(HAL.out.cell (p := ⟨g, o + j * 2, none⟩) (show g < wr.heap.size by omega)).trans h4, (HAL.out.cell (p := ⟨g, o + j * 2 + 1, none⟩) (show g < wr.heap.size by omega)).trans h5, (HBX.out.cell 0).trans rfl, (HBX.out.cell 1).trans rfl⟩
   have HST := Lib.hid (And.intro hs ht)
   have HLT := Lib.hid hlt
   have n0 : j < l.length := hll
   have n1 : j < m.length := hlt
   have e1 : ∀ W, (binOp .neq 39 (.agg #[.string (txt s.1), .string (txt s.2)]) (.agg #[.string (txt t.1), .string (txt t.2)])).run Try.prog W = .ok (.bool (!decide (s = t))) W := fun W => step_neq10 s t W
   clear hs ht h4 h5 hlt hll hlen
   by_cases hst : s = t
   ·have b0 : (!decide (s = t)) = false := by rw [decide_eq_true hst]; rfl
    rw [b0] at e1
    have HEQ := Lib.hid hst
    clear hst b0
    go_wp2_with fail
    refine wp_region_noPanic ?_
    refine wp_region_held_drew (S := fun _ => True) (by kernel_rfl) trivial (fun hS => ?_)
    refine held_more (S' := fun w' => w'.cell? ⟨g, o + j * 2, none⟩ = some (.string (txt s.1)) ∧ w'.cell? ⟨g, o + j * 2 + 1, none⟩ = some (.string (txt s.2)) ∧ w'.cell? ⟨wr.heap.size, 0, none⟩ = some (.string (txt t.1)) ∧ w'.cell? ⟨wr.heap.size, 1, none⟩ = some (.string (txt t.2))) (fun _ _ => trivial) _ _ _ _ ?_
    replace hS := HS0.out
    refine tkH 0 hS ?_
    refine tkH 1 hS ?_
    refine tkH 2 hS ?_
    refine tkH 3 hS ?_ (hy := fun w hSw => by have q0 := hSw.1; have q1 := hSw.2.1; (go_simp <;> with_reducible rfl))
    refine tkH 4 hS ?_ (hy := fun w hSw => by have q0 := hSw.2.2.1; have q1 := hSw.2.2.2; (go_simp <;> with_reducible rfl))
    refine tkH 5 hS ?_
    refine wpAnyH_done (by kernel_rfl) ?_ _
    refine NoPanic.normal ?_
    clear hS
    go_wp2
    go_roundw
    case rel => exact ⟨j + 1, HLT.out, by go_num, Lib.hid (fun k hk => by
     by_cases hkj : k < j
     ·exact HE.out k hkj
     ·have e : k = j := by omega
      subst e
      rw [HST.out.1, HST.out.2, HEQ.out]), HWX⟩
    case measure => have := HLT.out; simp [intOf]; omega
   ·have b0 : (!decide (s = t)) = true := by rw [decide_eq_false hst]; rfl
    rw [b0] at e1
    have HX : Hid (underX l m = false) := Lib.hid (under_no HLT.out (by rw [HST.out.1, HST.out.2]; intro e; injection e with e; exact hst e))
    clear hst b0
    go_wp2_with fail
    refine wp_region_noPanic ?_
    refine wp_region_held_drew (S := fun _ => True) (by kernel_rfl) trivial (fun hS => ?_)
    refine held_more (S' := fun w' => w'.cell? ⟨g, o + j * 2, none⟩ = some (.string (txt s.1)) ∧ w'.cell? ⟨g, o + j * 2 + 1, none⟩ = some (.string (txt s.2)) ∧ w'.cell? ⟨wr.heap.size, 0, none⟩ = some (.string (txt t.1)) ∧ w'.cell? ⟨wr.heap.size, 1, none⟩ = some (.string (txt t.2))) (fun _ _ => trivial) _ _ _ _ ?_
    replace hS := HS0.out
    refine tkH 0 hS ?_
    refine tkH 1 hS ?_
    refine tkH 2 hS ?_
    refine tkH 3 hS ?_ (hy := fun w hSw => by have q0 := hSw.1; have q1 := hSw.2.1; (go_simp <;> with_reducible rfl))
    refine tkH 4 hS ?_ (hy := fun w hSw => by have q0 := hSw.2.2.1; have q1 := hSw.2.2.2; (go_simp <;> with_reducible rfl))
    refine tkH 5 hS ?_
    refine wpAnyH_done (by kernel_rfl) ?_ _
    refine NoPanic.normal ?_
    clear hS
    go_wp2
    go_ret
    exact ⟨by rw [HX.out]; rfl, HWX.out⟩
  ·have i2 : ¬ (j : Int) < (m.length : Int) := by omega
   have HX : Hid (underX l m = true) := Lib.hid (under_iff.2 fun k hk => HE.out k (by omega))
   go_wp2
   go_ret
   exact ⟨by rw [HX.out]; rfl, HW.out⟩
end Go.Proofs.Ythdhchhpjoghlaa
namespace Go.Proofs.Ythdhchhpjoghlaa
open Go.RowKit
attribute [local go_sem] Oper.semAt_some
set_option maxRecDepth 100000 in
set_option maxHeartbeats 4000000 in
theorem dunder16_any (l : List EdD) (m : List Stp) (v u : Value) (w : World) (hv : EdsV (Bel w) w v l) (hu : WayV w.heap.size w u m) (hl : FewE l) (hm : m.length ≤ 1000000) :
  Calls Try.prog 15 #[v, u] w (Ans9 (.int .i64 (undE l m : Int)) w) := by
 obtain ⟨A, c, rfl⟩ := hv.shape
 obtain ⟨B, d, rfl⟩ := hu.shape
 have HV := Lib.hid hv
 have HU := Lib.hid hu
 have HL := Lib.hid hl
 have l0 : l.length ≤ 1000000 := hl.1
 clear hv hu hl
 go_enter Try.func15, Try.ntmps15
 go_wp2
 go_loopw [5, 10] (fun n i wr => ∃ j k : Nat, j ≤ l.length ∧ i = .int .i64 (j : Int) ∧ n = .int .i64 (k : Int) ∧ k ≤ j ∧ Hid (k = undE (l.take j) m) ∧ Hid (Below w.heap.size w wr)) (fun _ i _ => l.length - (intOf i).toNat)
 case atStart => exact ⟨0, 0, Nat.zero_le _, rfl, rfl, Nat.le_refl _, Lib.hid rfl, Lib.hid (Below.refl _ _)⟩
 case round =>
  obtain ⟨j, k, hj, rfl, rfl, hkj, HK, HB⟩ := hrel
  have i1 : (0 : Int) ≤ (j : Int) := by omega
  by_cases hlt : j < l.length
  ·have i2 : (j : Int) < (l.length : Int) := by omega
   obtain ⟨e, he⟩ : ∃ e, l[j]? = some e := ⟨_, List.getElem?_eq_getElem hlt⟩
   obtain ⟨g, o, Aw, cw, An, cn, Ao, co, rfl, -, -, -, hw, -, -, hcl⟩ := (HV.out.below HB.out).at he
   have q0 : wr.cell? ⟨g, o + j * 14, none⟩ = _ := hcl 0 _ rfl
   have q1 : wr.cell? ⟨g, o + j * 14 + 1, none⟩ = _ := hcl 1 _ rfl
   have q2 : wr.cell? ⟨g, o + j * 14 + 2, none⟩ = _ := hcl 2 _ rfl
   have q3 : wr.cell? ⟨g, o + j * 14 + 3, none⟩ = _ := hcl 3 _ rfl
   have q4 : wr.cell? ⟨g, o + j * 14 + 4, none⟩ = _ := hcl 4 _ rfl
   have q5 : wr.cell? ⟨g, o + j * 14 + 5, none⟩ = _ := hcl 5 _ rfl
   have q6 : wr.cell? ⟨g, o + j * 14 + 6, none⟩ = _ := hcl 6 _ rfl
   have q7 : wr.cell? ⟨g, o + j * 14 + 7, none⟩ = _ := hcl 7 _ rfl
   have q8 : wr.cell? ⟨g, o + j * 14 + 8, none⟩ = _ := hcl 8 _ rfl
   have q9 : wr.cell? ⟨g, o + j * 14 + 9, none⟩ = _ := hcl 9 _ rfl
   have q10 : wr.cell? ⟨g, o + j * 14 + 10, none⟩ = _ := hcl 10 _ rfl
   have q11 : wr.cell? ⟨g, o + j * 14 + 11, none⟩ = _ := hcl 11 _ rfl
   have q12 : wr.cell? ⟨g, o + j * 14 + 12, none⟩ = _ := hcl 12 _ rfl
   have q13 : wr.cell? ⟨g, o + j * 14 + 13, none⟩ = _ := hcl 13 _ rfl
   have hal : Below wr.heap.size wr (wr.alloc (.cells (edC e.kind (.slice Aw e.way.length cw) e.node.1 (.slice An e.node.2.len cn) e.old.1 (.slice Ao e.old.2.len co)).toArray 42)) := (Below.refl _ _).alloc (Nat.le_refl _) _
   have HX : Hid (Below w.heap.size w (wr.alloc (.cells (edC e.kind (.slice Aw e.way.length cw) e.node.1 (.slice An e.node.2.len cn) e.old.1 (.slice Ao e.old.2.len co)).toArray 42))) := Lib.hid (HB.out.trans (hal.mono HB.out.size))
   have HC := Lib.hid (under15_any e.way m _ _ (wr.alloc (.cells (edC e.kind (.slice Aw e.way.length cw) e.node.1 (.slice An e.node.2.len cn) e.old.1 (.slice Ao e.old.2.len co)).toArray 42)) (WayV.keep hw (fun g hg => hal.block g hg) hal.size) (HU.out.below HX.out) (HL.out.2 e (List.mem_of_getElem? he)).1 hm)
   have hst : undE (l.take (j + 1)) m = undE (l.take j) m + (if underX e.way m = true then 1 else 0) := by
    rw [take_snocE he, und_app, und_cons]
    unfold underX
    by_cases hh : e.way.take m.length = m
    ·rw [if_pos hh, if_pos (by simpa using hh)]; rfl
    ·rw [if_neg hh, if_neg (by simpa using hh)]; rfl
   have n0 : j < l.length := hlt
   cases hx : underX e.way m with
   | true =>
    have HK2 : Hid (k + 1 = undE (l.take (j + 1)) m) := Lib.hid (by rw [hst, hx, ← HK.out]; rfl)
    have HXX := Lib.hid hx
    clear hcl he hw hst hx hal
    go_wp2_with fail
    refine HC.out.mono ?_
    rintro r w2 ⟨rfl, hb⟩
    rw [HXX.out]
    have HB2 := Lib.hid (HX.out.trans (hb.mono HX.out.size))
    clear hb
    go_wp2
    go_roundw
    case rel => exact ⟨j + 1, k + 1, by omega, by go_num, by go_num, by omega, HK2, HB2⟩
    case measure => simp [intOf]; omega
   | false =>
    have HK2 : Hid (k = undE (l.take (j + 1)) m) := Lib.hid (by rw [hst, hx, ← HK.out]; rfl)
    have HXX := Lib.hid hx
    clear hcl he hw hst hx hal
    go_wp2_with fail
    refine HC.out.mono ?_
    rintro r w2 ⟨rfl, hb⟩
    rw [HXX.out]
    have HB2 := Lib.hid (HX.out.trans (hb.mono HX.out.size))
    clear hb
    go_wp2
    go_roundw
    case rel => exact ⟨j + 1, k, by omega, by go_num, rfl, by omega, HK2, HB2⟩
    case measure => simp [intOf]; omega
  ·obtain rfl : j = l.length := by omega
   have i2 : ¬ (l.length : Int) < (l.length : Int) := by omega
   have HF : Hid (undE l m = k) := Lib.hid (by rw [HK.out, List.take_length])
   clear HK hlt
   go_wp2
   go_ret
   exact ⟨by rw [HF.out]; rfl, HB.out⟩
set_option maxRecDepth 100000 in
set_option maxHeartbeats 4000000 in
theorem eqs_len (A B : Option Addr) (m n c d : Nat) (w : World) (h : m ≠ n) : Calls Try.prog 47 #[.slice A m c, .slice B n d] w (Ans9 (.bool false) w) := by
 have e1 : ((m : Int) != (n : Int)) = true := by simp [bne_iff_ne]; omega
 have e2 : ((m : Int) == (n : Int)) = false := beq_eq_false_iff_ne.2 (by omega)
 clear h
 go_enter Try.func47, Try.ntmps47
 go_wp2
 go_ret
 exact ⟨rfl, Below.refl _ _⟩
set_option maxRecDepth 100000 in
set_option maxHeartbeats 4000000 in
theorem eqs_row (l m : List Stp) (N : Nat) (va vb : Value) (w : World) (ha : WayV w.heap.size w va l) (hb : WayV w.heap.size w vb m) (hl : l.length = N) (hm : m.length = N) (hN : N ≤ 1000000) :
  Calls Try.prog 47 #[va, vb] w (Ans9 (.bool (decide (l = m))) w) := by
 obtain ⟨A, c, rfl⟩ := ha.shape
 obtain ⟨B, d, rfl⟩ := hb.shape
 rw [hl] at ha ⊢
 rw [hm] at hb ⊢
 have HA := Lib.hid ha
 have HB := Lib.hid hb
 have HL := Lib.hid (And.intro hl hm)
 have n1 : (N : Int) ≤ 1000000 := by omega
 clear ha hb hl hm
 go_enter Try.func47, Try.ntmps47
 go_wp2
 go_loopw [5, 13] (fun _ v wr => ∃ j : Nat, j ≤ N ∧ v = .int .i64 (j : Int) ∧ Hid (∀ k, k < j → l[k]? = m[k]?) ∧ Hid (Below w.heap.size w wr)) (fun _ v _ => N - (intOf v).toNat)
 case atStart => exact ⟨0, Nat.zero_le _, rfl, Lib.hid (fun k hk => absurd hk (Nat.not_lt_zero _)), Lib.hid (Below.refl _ _)⟩
 case round =>
  obtain ⟨j, hj, rfl, HE, HW⟩ := hrel
  have i1 : (0 : Int) ≤ (j : Int) := by omega
  by_cases hlt : j < N
  ·have i3 : (j : Int) < (N : Int) := by omega
   obtain ⟨t, ht⟩ : ∃ t, m[j]? = some t := ⟨_, List.getElem?_eq_getElem (by have := HL.out.2; omega)⟩
   obtain ⟨s, hs⟩ : ∃ s, l[j]? = some s := ⟨_, List.getElem?_eq_getElem (by have := HL.out.1; omega)⟩
   obtain ⟨g, o, rfl, -, h2, h3, h4, h5⟩ := (HA.out.under HW.out (Nat.le_refl _) (Nat.le_refl _)).at hs
   obtain ⟨g', o', rfl, -, k2, k3, k4, k5⟩ := (HB.out.under HW.out (Nat.le_refl _) (Nat.le_refl _)).at ht
   have HS0 : Hid (wr.drew.cell? ⟨g, o + j * 2, none⟩ = some (.string (txt s.1)) ∧ wr.drew.cell? ⟨g, o + j * 2 + 1, none⟩ = some (.string (txt s.2)) ∧ wr.drew.cell? ⟨g', o' + j * 2, none⟩ = some (.string (txt t.1)) ∧ wr.drew.cell? ⟨g', o' + j * 2 + 1, none⟩ = some (.string (txt t.2))) := Lib.hid ⟨h4, h5, k4, k5⟩
   have HST := Lib.hid (And.intro hs ht)
   have HLT := Lib.hid hlt
   have n0 : j < N := hlt
   have HWD : Hid (Below w.heap.size w wr.drew) := Lib.hid HW.out.drew
   have e1 : ∀ W, (binOp .neq 39 (.agg #[.string (txt s.1), .string (txt s.2)]) (.agg #[.string (txt t.1), .string (txt t.2)])).run Try.prog W = .ok (.bool (!decide (s = t))) W := fun W => step_neq10 s t W
   clear hs ht h2 h3 h4 h5 k2 k3 k4 k5 hlt
   by_cases hst : s = t
   ·have b0 : (!decide (s = t)) = false := by rw [decide_eq_true hst]; rfl
    rw [b0] at e1
    have HE2 : Hid (∀ k, k < j + 1 → l[k]? = m[k]?) := Lib.hid (fun k hk => by
     by_cases e : k = j
     ·subst e; rw [HST.out.1, HST.out.2, hst]
     ·exact HE.out k (by omega))
    clear hst b0
    go_wp2_with fail
    refine wp_region_noPanic ?_
    refine wp_region_held_drew (S := fun _ => True) (by kernel_rfl) trivial (fun hS => ?_)
    refine held_more (S' := fun w' => w'.cell? ⟨g, o + j * 2, none⟩ = some (.string (txt s.1)) ∧ w'.cell? ⟨g, o + j * 2 + 1, none⟩ = some (.string (txt s.2)) ∧ w'.cell? ⟨g', o' + j * 2, none⟩ = some (.string (txt t.1)) ∧ w'.cell? ⟨g', o' + j * 2 + 1, none⟩ = some (.string (txt t.2))) (fun _ _ => trivial) _ _ _ _ ?_
    replace hS := HS0.out
    refine tkH 0 hS ?_
    refine tkH 1 hS ?_
    refine tkH 2 hS ?_
    refine tkH 3 hS ?_ (hy := fun w hSw => by have p0 := hSw.1; have p1 := hSw.2.1; (go_simp <;> with_reducible rfl))
    refine tkH 4 hS ?_
    refine tkH 5 hS ?_
    refine tkH 6 hS ?_
    refine tkH 7 hS ?_ (hy := fun w hSw => by have p2 := hSw.2.2.1; have p3 := hSw.2.2.2; (go_simp <;> with_reducible rfl))
    refine tkH 8 hS ?_ (hy := fun w hSw => by have e9 := e1 w; (go_simp <;> with_reducible rfl))
    refine wpAnyH_done (by kernel_rfl) ?_ _
    refine NoPanic.normal ?_
    clear hS
    go_wp2
    go_roundw
    case rel => exact ⟨j + 1, by omega, by go_num, HE2, HWD⟩
    case measure => simp [intOf]; omega
   ·have b0 : (!decide (s = t)) = true := by rw [decide_eq_false hst]; rfl
    rw [b0] at e1
    have HX : Hid (decide (l = m) = false) := Lib.hid (decide_eq_false (fun e => hst (by have h1 := HST.out.1; rw [e, HST.out.2] at h1; injection h1 with h1; exact h1.symm)))
    clear hst b0
    go_wp2_with fail
    refine wp_region_noPanic ?_
    refine wp_region_held_drew (S := fun _ => True) (by kernel_rfl) trivial (fun hS => ?_)
    refine held_more (S' := fun w' => w'.cell? ⟨g, o + j * 2, none⟩ = some (.string (txt s.1)) ∧ w'.cell? ⟨g, o + j * 2 + 1, none⟩ = some (.string (txt s.2)) ∧ w'.cell? ⟨g', o' + j * 2, none⟩ = some (.string (txt t.1)) ∧ w'.cell? ⟨g', o' + j * 2 + 1, none⟩ = some (.string (txt t.2))) (fun _ _ => trivial) _ _ _ _ ?_
    replace hS := HS0.out
    refine tkH 0 hS ?_
    refine tkH 1 hS ?_
    refine tkH 2 hS ?_
    refine tkH 3 hS ?_ (hy := fun w hSw => by have p0 := hSw.1; have p1 := hSw.2.1; (go_simp <;> with_reducible rfl))
    refine tkH 4 hS ?_
    refine tkH 5 hS ?_
    refine tkH 6 hS ?_
    refine tkH 7 hS ?_ (hy := fun w hSw => by have p2 := hSw.2.2.1; have p3 := hSw.2.2.2; (go_simp <;> with_reducible rfl))
    refine tkH 8 hS ?_ (hy := fun w hSw => by have e9 := e1 w; (go_simp <;> with_reducible rfl))
    refine wpAnyH_done (by kernel_rfl) ?_ _
    refine NoPanic.normal ?_
    clear hS
    go_wp2
    go_ret
    exact ⟨by rw [HX.out]; rfl, HWD.out⟩
  ·obtain rfl : j = N := by omega
   have i2 : ¬ (j : Int) < (j : Int) := by omega
   have HX : Hid (decide (l = m) = true) := Lib.hid (decide_eq_true (List.ext_getElem? (fun k => by
    by_cases hk : k < j
    ·exact HE.out k hk
    ·rw [List.getElem?_eq_none (by have := HL.out.1; omega), List.getElem?_eq_none (by have := HL.out.2; omega)])))
   go_wp2
   go_ret
   exact ⟨by rw [HX.out]; rfl, HW.out⟩
theorem eqs_any (l m : List Stp) (va vb : Value) (w : World) (ha : WayV w.heap.size w va l) (hb : WayV w.heap.size w vb m) (hl : l.length ≤ 1000000) :
  Calls Try.prog 47 #[va, vb] w (Ans9 (.bool (decide (l = m))) w) := by
 by_cases h : l.length = m.length
 ·exact eqs_row l m l.length va vb w ha hb rfl h.symm hl
 ·obtain ⟨A, c, rfl⟩ := ha.shape
  obtain ⟨B, d, rfl⟩ := hb.shape
  rw [show decide (l = m) = false from decide_eq_false (fun e => h (by rw [e]))]
  exact eqs_len A B _ _ c d w h
end Go.Proofs.Ythdhchhpjoghlaa
