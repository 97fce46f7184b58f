/- VadPrs TlvFnA TlvMany -/
import Derived.Test.YtodlhgflfcadmaaGreatUM30
import Derived.Deep.DrawnRows
set_option linter.unusedSimpArgs false
set_option linter.unusedVariables false
set_option maxRecDepth 100000
set_option maxHeartbeats 8000000
namespace Go.Proofs.YtodlhgflfcadmaaGreat
open Go.RowKit
section
attribute [local go_sem] Oper.semAt_some
def checkO (v : Int) (x : Nd) : Option Bad := if (rootX v).2 ≠ 0 then some ((rootX v).2, []) else if rootB x = false then some (1, []) else match insideX (rootX v).1.2 x.2 with
 | some b => some b
 | none => refsF x.2
theorem check_o (v : Int) (x : Nd) : badO (checkO v x) = CheckX v x := by
 unfold checkO CheckX
 split
 ·rfl
 ·split
  ·rfl
  ·cases insideX (rootX v).1.2 x.2 <;> rfl
def spOkB : SpF → Bool
 | .nil => true
 | .cons a k r => decide (a.names.length ≤ 1000000) && decide (k.len ≤ 1000000) && spOkB k && spOkB r
theorem spOk_of : ∀ {f : SpF}, spOkB f = true → SpOk f := by
 intro f
 induction f with
 | nil => intro _; trivial
 | cons a k r ihk ihr =>
  intro h
  simp only [spOkB, Bool.and_eq_true, decide_eq_true_eq] at h
  exact ⟨h.1.1.1, h.1.1.2, ihk h.1.2, ihr h.2⟩
theorem root_ok (v : Int) : SpOk (rootX v).1.2 ∧ (rootX v).1.2.len ≤ 1000000 := by
 unfold rootX
 split
 ·exact ⟨trivial, by decide⟩
 ·rename_i h
  have h' : v = 1 ∨ v = 2 ∨ v = 3 := by omega
  rcases h' with rfl | rfl | rfl
  ·exact ⟨spOk_of (by decide), by decide⟩
  ·exact ⟨spOk_of (by decide), by decide⟩
  ·exact ⟨spOk_of (by decide), by decide⟩
theorem newSp_l {base : Nat} {w : World} {cs : List Value} {x : Sp} (h : NewSp base w cs x) : SpL w.heap.size w cs x := by
 obtain ⟨S, N, h1, h2, h3⟩ := h
 exact FrN.kept stay_spc h3 (fun g _ => rfl) (fun g hg => (h1 g hg).lt) (fun g _ => rfl) (fun g hg => (h2 g hg).1.lt)
theorem problems_any (v : Int) (a : NdD) (u : Value) (w : World) :
  Calls Tryz.prog 30 #[.int .i64 v, .agg (cN a u)] w fun r w' => r = .returned (.func (.func 50) #[] #[.pointer (some ⟨w.heap.size, 0, none⟩), .pointer (some ⟨w.heap.size + 1, 0, none⟩)]) ∧
   w' = (w.alloc (.cells #[.int .i64 v] 3)).alloc (.cells (cN a u) 27) := by
 go_enter Tryz.func30, Tryz.ntmps30
 go_wp2
 go_ret
 exact ⟨rfl, rfl⟩
theorem wpIn_world {F : Fence} {n : Nat} {P : Program} {c : Code} {Q : Exit → Act → World → Prop} {a : Act} {w : World} (h : ∀ V, V = w → c.wpIn F n P Q a V) : c.wpIn F n P Q a w := h w rfl
def itO (sf : SpF) (f : NdF) (j : Nat) : Option Bad := if j = 0 then insideX sf f else refsF f
theorem it_some {sf : SpF} {f : NdF} {j : Nat} {b : Bad} (hj : j < 2) (h : ∀ i, i < j → itO sf f i = none) (hb : itO sf f j = some b) : (match insideX sf f with | some b => some b | none => refsF f) = some b := by
 by_cases h0 : j = 0
 ·subst h0
  have h1 : insideX sf f = some b := hb
  rw [h1]
 ·have h1 : insideX sf f = none := h 0 (by omega)
  have h2 : refsF f = some b := by unfold itO at hb; rw [if_neg h0] at hb; exact hb
  rw [h1]
  exact h2
theorem it_none {sf : SpF} {f : NdF} (h : ∀ i, i < 2 → itO sf f i = none) : (match insideX sf f with | some b => some b | none => refsF f) = none := by
 have h1 : insideX sf f = none := h 0 (by omega)
 have h2 : refsF f = none := h 1 (by omega)
 rw [h1]
 exact h2
structure PrsR (o : Nat → Option Bad) (W V0 : World) (j : Nat) (ds : List Deferred) (V : World) : Prop where
 le : j ≤ 2
 no : ∀ i, i < j → o i = none
 bel : Below V0.heap.size V0 V
 marks : Marks W.heap.size V ds
def PrsA (o : Option Bad) (B l : Nat) (W V : World) (tm : Array Value) (a : Act) (V' : World) : Prop := ∃ (b : Bad) (A : Option Addr) (c Bx : Nat), o = some b ∧ Blk V' Bx 92 #[.int .i64 (b.1 : Int), .slice A b.2.length c] ∧ OwnS B V' (.slice A b.2.length c) b.2 ∧ B ≤ Bx ∧
 Blk V' W.heap.size 93 #[.func (.yield l) #[] #[]] ∧ Below W.heap.size W V' ∧ KeepsFrom W.heap.size V V' ∧
 a = { tmps := (tm.setIfInBounds 39 (.agg #[.int .i64 (b.1 : Int), .slice A b.2.length c])).setIfInBounds 8 (.pointer (some ⟨Bx, 0, none⟩)), defers := [] }
theorem prsA_own (o : Option Bad) (B l : Nat) (W V : World) (tm : Array Value) (a : Act) (hW : W.heap.size ≤ B) (hV : V.heap.size ≤ B) : OwnFrom B (fun (_ : Unit) V' => PrsA o B l W V tm a V') := by
 rintro s X Y row ⟨b, A, c, Bx, h1, h2, h3, h4, h5, h7, h8, h9⟩ hg hr
 have hc : ∀ r, row = some r → ∃ o : Obj, X.heap[r]? = some o ∧ o.isCells = false := fun r e => (hr r e).2
 exact ⟨b, A, c, Bx, h1, h2.obj hg hc, h3.obj hg hc, h4, h5.obj hg hc, below_obj h7 hg (fun r e => by have := (hr r e).1; omega) (Nat.le_refl _), ownFrom_keepsFrom (β := Unit) hV () X Y row h8 hg hr, h9⟩
theorem problems1_in (v : Int) (a : NdD) (f : NdF) (A : Option Addr) (c b g1 g2 l : Nat) (Jx : World → Prop) (W : World)
  (hrow : RowT b W (.slice A f.len c) f) (hb1 : Blk W g1 3 #[.int .i64 v]) (hb2 : Blk W g2 27 (cN a (.slice A f.len c))) (hbW : b ≤ W.heap.size) (hf : f.size ≤ 1000000) (hok : OkF f)
  (hJx : OwnFrom W.heap.size (fun (_ : Unit) V => Jx V)) (hY : YldP (checkO v (a, f)) l Jx W) :
  CallsIn Fence.wide 9 Tryz.prog 50 #[.func (.yield l) #[] #[], .pointer (some ⟨g1, 0, none⟩), .pointer (some ⟨g2, 0, none⟩)] W (PrbP (checkO v (a, f)) Jx W) := by
 have hal : Below W.heap.size W (W.alloc (.cells #[.func (.yield l) #[] #[]] 93)) := bAl
 have z0 := ((hb1.below hal hb1.lt).cell 0).trans rfl
 have HYB := hHd (Blk.new W 93 #[.func (.yield l) #[] #[]])
 have HBB := hHd (hb2.below hal hb2.lt)
 have HAL := hHd hal
 have HROW := hHd (hrow.under hal hbW (Nat.le_refl _))
 have HBW := hHd hbW
 have HSZ := hHd (And.intro hf hok)
 have HJX := hHd hJx
 have HY := hHd hY
 have HRT := hHd (root_any v (W.alloc (.cells #[.func (.yield l) #[] #[]] 93)))
 have HSO := hHd (root_ok v)
 have HCO : Hid (checkO v (a, f) = if (rootX v).2 ≠ 0 then some ((rootX v).2, []) else if rootB (a, f) = false then some (1, []) else match insideX (rootX v).1.2 f with | some b => some b | none => refsF f) := hHd rfl
 obtain ⟨rx, hrx⟩ : ∃ rx, rx = rootX v := ⟨_, rfl⟩
 rw [← hrx] at HRT HSO HCO
 clear hrow hb1 hb2 hbW hf hok hJx hY hal hrx
 obtain ⟨⟨sd, sf⟩, er⟩ := rx
 simp only at HSO HCO
 refine callsIn_of_wp_marks Tryz.func50 rfl trivial ?_ rfl
 simp only [Tryz.ntmps50, List.size_toArray, List.length_cons, List.length_nil, Nat.reduceAdd, Nat.reduceSub, Array.replicate_succ, Array.replicate_zero, List.push_toArray, List.append_toArray, List.nil_append, List.cons_append]
 gi_wp2_with fail
 refine ⟨trivial, calls_wideR (ro := none) (HRT.out.mono ?_)⟩
 rintro r w2 ⟨cs, rfl, hnew, hb2⟩
 clear z0
 have hsl := newSp_l hnew
 obtain ⟨B0, m0, A0, c0, d0, rfl, -, -, -⟩ := SpN.shape (x := (sd, sf)) hsl
 have HW2 : Hid (W.heap.size ≤ w2.heap.size) := hHd (Nat.le_trans HAL.out.size hb2.size)
 have hv2 : Below (W.alloc (.cells #[.func (.yield l) #[] #[]] 93)).heap.size (W.alloc (.cells #[.func (.yield l) #[] #[]] 93)) (w2.alloc (.cells (cT sd.name sd.kind sd.typ sd.low sd.high sd.names sd.must sd.most B0 m0 A0 sf.len c0) 61)) := hb2.alloc hb2.size _
 have HV2 : Hid (Below W.heap.size W (w2.alloc (.cells (cT sd.name sd.kind sd.typ sd.low sd.high sd.names sd.must sd.most B0 m0 A0 sf.len c0) 61))) := hHd (HAL.out.trans (hv2.mono HAL.out.size))
 have HYV : Hid (Blk (w2.alloc (.cells (cT sd.name sd.kind sd.typ sd.low sd.high sd.names sd.must sd.most B0 m0 A0 sf.len c0) 61)) W.heap.size 93 #[.func (.yield l) #[] #[]]) := hHd (HYB.out.below hv2 HYB.out.lt)
 have HNV : Hid (Blk (w2.alloc (.cells (cT sd.name sd.kind sd.typ sd.low sd.high sd.names sd.must sd.most B0 m0 A0 sf.len c0) 61)) g2 27 (cN a (.slice A f.len c))) := hHd (HBB.out.below hv2 HBB.out.lt)
 have HRV : Hid (RowT b (w2.alloc (.cells (cT sd.name sd.kind sd.typ sd.low sd.high sd.names sd.must sd.most B0 m0 A0 sf.len c0) 61)) (.slice A f.len c) f) := hHd (HROW.out.under hv2 (Nat.le_trans HBW.out HAL.out.size) (Nat.le_refl _))
 have HSV : Hid (SpL w2.heap.size (w2.alloc (.cells (cT sd.name sd.kind sd.typ sd.low sd.high sd.names sd.must sd.most B0 m0 A0 sf.len c0) 61)) ((cT sd.name sd.kind sd.typ sd.low sd.high sd.names sd.must sd.most B0 m0 A0 sf.len c0) : Array Value).toList (sd, sf) ∧ Blk (w2.alloc (.cells (cT sd.name sd.kind sd.typ sd.low sd.high sd.names sd.must sd.most B0 m0 A0 sf.len c0) 61)) w2.heap.size 61 (cT sd.name sd.kind sd.typ sd.low sd.high sd.names sd.must sd.most B0 m0 A0 sf.len c0)) := hHd ⟨hsl.keep (fun g hg => Below.heap_alloc _ _ _ hg) (Nat.le_refl _), Blk.new _ _ _⟩
 clear hnew hb2 hsl hv2 HRT
 have y0 := (HYV.out.cell 0).trans rfl
 by_cases he : er = 0
 ·subst he
  have k0 : (((0 : Nat) : Int) == 0) = true := rfl
  have hbz : b ≤ (w2.alloc (.cells (cT sd.name sd.kind sd.typ sd.low sd.high sd.names sd.must sd.most B0 m0 A0 sf.len c0) 61)).heap.size := Nat.le_trans HBW.out HV2.out.size
  have HIV := hHd (visroot_any a f A c (w2.alloc (.cells (cT sd.name sd.kind sd.typ sd.low sd.high sd.names sd.must sd.most B0 m0 A0 sf.len c0) 61)) (HRV.out.under (Below.refl _ _) hbz hbz) HSZ.out.1)
  clear hbz
  obtain ⟨q0, q1, q2, q3, q4, q5⟩ := cl6 HNV.out
  gi_wp2_with fail
  refine ⟨trivial, calls_wideR (ro := none) (HIV.out.mono ?_)⟩
  rintro r w3 ⟨rfl, hb3⟩
  clear q0 q1 q2 q3 q4 q5 y0
  have HB3 : Hid (Below W.heap.size W w3) := hHd (HV2.out.trans (hb3.mono HV2.out.size))
  have HY3 : Hid (Blk w3 W.heap.size 93 #[.func (.yield l) #[] #[]]) := hHd (HYV.out.below hb3 HYV.out.lt)
  have HN3 : Hid (Blk w3 g2 27 (cN a (.slice A f.len c))) := hHd (HNV.out.below hb3 HNV.out.lt)
  have HS3 : Hid (SpL w2.heap.size w3 ((cT sd.name sd.kind sd.typ sd.low sd.high sd.names sd.must sd.most B0 m0 A0 sf.len c0) : Array Value).toList (sd, sf) ∧ Blk w3 w2.heap.size 61 (cT sd.name sd.kind sd.typ sd.low sd.high sd.names sd.must sd.most B0 m0 A0 sf.len c0)) := hHd ⟨HSV.out.1.keep (fun g hg => hb3.block g (Nat.lt_trans hg HSV.out.2.lt)) (Nat.le_refl _), HSV.out.2.below hb3 HSV.out.2.lt⟩
  have hb0 := HW2.out
  have HR3 : Hid (RowT w2.heap.size w3 (.slice A f.len c) f) := hHd (HRV.out.under hb3 (Nat.le_trans HBW.out HV2.out.size) (Nat.le_trans HBW.out hb0))
  have HL2 : Hid (w2.heap.size < w3.heap.size) := hHd HS3.out.2.lt
  clear hb3
  cases hr : rootB (a, f) with
  | false =>
   have HC : Hid (checkO v (a, f) = some (1, [])) := hHd (by rw [HCO.out, if_neg (by simp), if_pos hr])
   obtain ⟨fn, tmps, assign, body, hy, hR⟩ := HY.out #[.agg #[.int .i64 1, .slice none 0 0]] w3 HB3.out (by rw [HC.out]; exact stop_enc 1 _ _) (9 - 1)
   have y0 := (HY3.out.cell 0).trans rfl
   clear hr
   gi_wp2
   refine RoundIn.mono hR ?_
   rintro e Zz ⟨rfl, hj3, hk3⟩
   have HJ3 := hHd hj3
   clear hk3 hj3 hR hy y0
   gi_wp2
   refine ⟨_, results_none rfl _ _ _, ⟨_, rfl⟩, ?_⟩
   rw [HC.out]
   exact HJ3.out
  | true =>
   have HC : Hid (checkO v (a, f) = match insideX sf f with | some b => some b | none => refsF f) := hHd (by rw [HCO.out, if_neg (by simp), if_neg (by simp [hr])])
   clear hr
   have hd3 : Below w3.heap.size w3 w3.drew := (Below.refl _ _).drew
   have HS0 : Hid (Blk w3.drew g2 27 (cN a (.slice A f.len c)) ∧ Blk w3.drew w2.heap.size 61 (cT sd.name sd.kind sd.typ sd.low sd.high sd.names sd.must sd.most B0 m0 A0 sf.len c0)) := hHd ⟨HN3.out.below hd3 HN3.out.lt, HS3.out.2.below hd3 HS3.out.2.lt⟩
   clear hd3
   gi_wp2_with fail
   refine wpIn_region_calm (ro := none) ?_
   refine wpIn_region_heldI [] (S := fun _ => True) (by kernel_rfl) trivial (fun hS => ?_)
   refine heldI_more (S' := fun w' => Blk w' g2 27 (cN a (.slice A f.len c)) ∧ Blk w' w2.heap.size 61 (cT sd.name sd.kind sd.typ sd.low sd.high sd.names sd.must sd.most B0 m0 A0 sf.len c0)) (fun _ _ => trivial) _ _ _ _ ?_
   replace hS := HS0.out
   refine tkI 0 [0, 2, 4, 5, 6] hS ?_ (hy := fun w hSw => by obtain ⟨y0, y1, y2, y3, y4, y5, y6, y7, y8⟩ := cl9 hSw.2; (go_simp <;> with_reducible rfl))
   refine tkI 1 [1, 2, 4, 5, 6] hS ?_ (hy := fun w hSw => by obtain ⟨q0, q1, q2, q3, q4, q5⟩ := cl6 hSw.1; (go_simp <;> with_reducible rfl))
   refine tkI 3 [3, 4, 5, 6] hS ?_ (hy := fun w hSw => by obtain ⟨q0, q1, q2, q3, q4, q5⟩ := cl6 hSw.1; (go_simp <;> with_reducible rfl))
   refine tkI 7 [7] hS ?_
   refine rdyI [2] (riC (fun K hK => ?_) .nil)
   refine opIn_of (by kernel_rfl) ?_
   go_simp
   refine (inside_any [] (.slice A f.len c) sd (.slice B0 sd.names.length m0) (.slice A0 sf.len c0) a _).mono ?_
   rintro r w5 ⟨rfl, hw5⟩
   have hz5 : w5.heap.size = w3.heap.size + 2 := by rw [hw5]; simp
   have hb5 : Below w3.heap.size w3 w5 := by rw [hw5]; exact (((Below.refl _ _).drew).alloc (Nat.le_refl _) _).alloc (by simp) _
   have HS5 : Hid (Blk w5 g2 27 (cN a (.slice A f.len c)) ∧ Blk w5 w2.heap.size 61 (cT sd.name sd.kind sd.typ sd.low sd.high sd.names sd.must sd.most B0 m0 A0 sf.len c0)) := hHd ⟨HN3.out.below hb5 HN3.out.lt, HS3.out.2.below hb5 HS3.out.2.lt⟩
   have HN5 : Hid (Blk w5 w3.heap.size 61 (cT sd.name sd.kind sd.typ sd.low sd.high sd.names sd.must sd.most B0 m0 A0 sf.len c0) ∧ Blk w5 (w3.heap.size + 1) 27 (cN a (.slice A f.len c))) := hHd ⟨by rw [hw5]; exact (Blk.new w3.drew _ _).alloc _, by rw [hw5]; exact Blk.newA (by simp) _ _⟩
   have HB5 := hHd hb5
   have HZ5 := hHd hz5
   clear hw5 hb5 hz5
   go_wp2_with fail
   refine hK.out _ _ ?sr_0 (fun hS => ?_)
   case sr_0 => (exact HS5.out)
   clear hK K
   (try simp only [Act.put, layS])
   refine rdyI [4] (riC (fun K hK => ?_) .nil)
   refine opIn_of (by kernel_rfl) ?_
   go_simp
   refine (dangling_any a (.slice A f.len c) _).mono ?_
   rintro r w6 ⟨rfl, hw6⟩
   have hb6 : Below w5.heap.size w5 w6 := by rw [hw6]; exact bAl
   have HS6 : Hid (Blk w6 g2 27 (cN a (.slice A f.len c)) ∧ Blk w6 w2.heap.size 61 (cT sd.name sd.kind sd.typ sd.low sd.high sd.names sd.must sd.most B0 m0 A0 sf.len c0)) := hHd ⟨HS5.out.1.below hb6 HS5.out.1.lt, HS5.out.2.below hb6 HS5.out.2.lt⟩
   have HN6 : Hid (Blk w6 w3.heap.size 61 (cT sd.name sd.kind sd.typ sd.low sd.high sd.names sd.must sd.most B0 m0 A0 sf.len c0) ∧ Blk w6 (w3.heap.size + 1) 27 (cN a (.slice A f.len c)) ∧ Blk w6 w5.heap.size 27 (cN a (.slice A f.len c))) := hHd ⟨HN5.out.1.below hb6 HN5.out.1.lt, HN5.out.2.below hb6 HN5.out.2.lt, by rw [hw6]; exact Blk.new _ _ _⟩
   have HB6 : Hid (Below w3.heap.size w3 w6) := hHd (HB5.out.trans (hb6.mono HB5.out.size))
   clear hw6 hb6
   go_wp2_with fail
   refine hK.out _ _ ?sr_1 (fun hS => ?_)
   case sr_1 => (exact HS6.out)
   clear hK K
   (try simp only [Act.put, layS])
   refine rdyI [5] (riC (fun K hK => ?_) .nil)
   refine opIn_of (by kernel_rfl) ?_
   go_simp
   refine hK.out _ _ ?sr_2 (fun hS => ?_)
   case sr_2 => (exact And.intro (HS6.out.1.alloc _) (HS6.out.2.alloc _))
   clear hK K
   (try simp only [Act.put, layS])
   refine tkI 6 [6] hS ?_
   refine heldI_done (by kernel_rfl) ?_ _
   refine NoPanic.normal ?_
   clear hS
   gi_wp2_with fail
   refine wpIn_world ?_
   intro V0 hV0
   have hb0' : Below w3.heap.size w3 V0 := by rw [hV0]; exact HB6.out.alloc HB6.out.size _
   have hb6 : Below w6.heap.size w6 V0 := by rw [hV0]; exact bAl
   have hwl : w6.heap.size < V0.heap.size := by rw [hV0]; simp
   have hsp0 : SpL w2.heap.size V0 ((cT sd.name sd.kind sd.typ sd.low sd.high sd.names sd.must sd.most B0 m0 A0 sf.len c0) : Array Value).toList (sd, sf) := HS3.out.1.keep (fun g hg => hb0'.block g (Nat.lt_trans hg HL2.out)) (Nat.le_refl _)
   have hro0 : RowT w2.heap.size V0 (.slice A f.len c) f := HR3.out.under hb0' (Nat.le_of_lt HL2.out) (Nat.le_refl _)
   have hle0 : w2.heap.size ≤ V0.heap.size := Nat.le_trans (Nat.le_of_lt HL2.out) hb0'.size
   have HIT : Hid (∀ j, j < 2 → ∃ gf lb, V0.cell? ⟨w6.heap.size, j, none⟩ = some (.func (.func gf) #[] lb) ∧ (∀ args w, (callFunc gf args).run Tryz.prog w = .ok (.enter gf args) w) ∧ PrbS gf lb (itO sf f j) V0) := hHd (by
    intro j hj
    have hj' : j = 0 ∨ j = 1 := by omega
    rcases hj' with rfl | rfl
    ·exact ⟨_, _, by rw [hV0]; exact ((Blk.new w6 _ _).cell 0).trans rfl, Go.Proofs.enters_of Tryz.func83 (by kernel_rfl) rfl, insideP f (sd, sf) _ a A c w2.heap.size _ _ V0 hsp0 HSO.out.1 HSO.out.2 hro0 (HN6.out.1.below hb6 HN6.out.1.lt) (HN6.out.2.1.below hb6 HN6.out.2.1.lt) hle0 HSZ.out.1 HSZ.out.2⟩
    ·exact ⟨_, _, by rw [hV0]; exact ((Blk.new w6 _ _).cell 1).trans rfl, Go.Proofs.enters_of Tryz.func86 (by kernel_rfl) rfl, dangling_prb a f A c w2.heap.size _ V0 hro0 (HN6.out.2.2.below hb6 HN6.out.2.2.lt) hle0 HSZ.out.1 HSZ.out.2⟩)
   have HW0 : Hid (Below W.heap.size W V0 ∧ Blk V0 W.heap.size 93 #[.func (.yield l) #[] #[]] ∧ w6.heap.size < V0.heap.size) := hHd ⟨HB3.out.trans (hb0'.mono HB3.out.size), HY3.out.below hb0' HY3.out.lt, hwl⟩
   clear hV0 hb0' hb6 hwl hsp0 hro0 hle0
   refine wpIn_act ?_
   intro act hact
   have HACT := hHd hact
   refine wpIn_loop (fun a' V => ∃ (j : Nat) (ds : List Deferred) (u7 u35 u36 u37 u38 u44 : Value), PrsR (itO sf f) W V0 j ds V ∧ a' = { tmps := ((((((act.tmps.setIfInBounds 7 u7).setIfInBounds 34 (.int .i64 (j : Int))).setIfInBounds 35 u35).setIfInBounds 36 u36).setIfInBounds 37 u37).setIfInBounds 38 u38).setIfInBounds 44 u44, defers := ds }) (fun a' _ => 2 - (intOf (a'.tmps.getD 34 undef)).toNat) ?start ?round
   case start =>
    refine ⟨0, [], undef, undef, undef, undef, undef, undef, ⟨Nat.zero_le _, fun i hi => absurd hi (Nat.not_lt_zero _), Below.refl _ _, .nil⟩, by rw [HACT.out]; simp only [List.setIfInBounds_toArray, List.set_cons_succ, List.set_cons_zero, cast0]⟩
   case round =>
    rintro a' V ⟨j, ds, u7, u35, u36, u37, u38, u44, HR, rfl⟩
    clear hact
    rw [HACT.out]
    simp only [List.setIfInBounds_toArray, List.set_cons_succ, List.set_cons_zero]
    have HR := hHd HR
    have i0 : (0 : Int) ≤ (j : Int) := by omega
    by_cases hlt : j < 2
    ·obtain ⟨gf, lb, hcl, heg, hprb⟩ := HIT.out j hlt
     have hc0 : V.cell? ⟨w6.heap.size, j, none⟩ = some (.func (.func gf) #[] lb) := (World.cell?_of_block (w := V0) (a := ⟨w6.heap.size, j, none⟩) (HR.out.bel.block _ HW0.out.2.2)).trans hcl
     have i2 : (j : Int) < 2 := by omega
     have HIJ := hHd (And.intro heg hprb)
     have HLT := hHd hlt
     clear hcl heg hprb hlt
     gi_wp2_with fail
     refine wpIn_act ?_
     intro act2 hact2
     have HACT2 := hHd hact2
     have hWV : Below W.heap.size W V := HW0.out.1.trans (HR.out.bel.mono HW0.out.1.size)
     refine wpIn_range_one (by decide) (by rw [hact2]; rfl) HIJ.out.1 (SeqOne.later HIJ.out.2 HR.out.bel) (Below.refl _ _) (fun B args W h => h.size) (fun B B' args W hb h => h.mono hb)
      (fun cd V' => cd = .ret ∧ Jx V' ∧ KeepsFrom W.heap.size V V') ?hX (fun a' V' => PrsA (itO sf f j) V.heap.size l W V act2.tmps a' V') ?hAx ?assign ?body ?done ?stop
     all_goals clear hact2
     case hX =>
      rintro cd s X Y row ⟨h1, h2, h3⟩ hg hr
      exact ⟨h1, OwnFrom.le HJX.out hWV.size () X Y row h2 hg hr, ownFrom_keepsFrom (β := Unit) (Nat.le_refl _) () X Y row h3 hg hr⟩
     case hAx => exact fun a' => prsA_own _ _ _ _ _ _ a' hWV.size (Nat.le_refl _)
     case assign =>
      rintro l' args W5 K hg ⟨bb, ho, v', rfl, hown⟩ hK
      obtain ⟨A5, c5, rfl⟩ := hown.shape
      rw [HACT2.out] at hK ⊢
      gi_wp2
      have hal : Below W5.heap.size W5 (W5.alloc (.cells #[.int .i64 (bb.1 : Int), .slice A5 bb.2.length c5] 92)) := bAl
      have hyr : Blk W5 W.heap.size 93 #[.func (.yield l) #[] #[]] := (HW0.out.2.1.below HR.out.bel HW0.out.2.1.lt).below hg (HW0.out.2.1.below HR.out.bel HW0.out.2.1.lt).lt
      have hb5 : Below W.heap.size W W5 := hWV.trans (hg.mono hWV.size)
      refine hK _ _ ((KeepsOthers.alloc _ _).from _) ⟨bb, A5, c5, W5.heap.size, ho, Blk.new _ _ _, hown.below hal, hg.size, hyr.below hal hyr.lt, hb5.trans (hal.mono hb5.size), (keeps_below hg).trans (keeps_below hal), ?_⟩
      simp only [List.setIfInBounds_toArray, List.set_cons_succ, List.set_cons_zero]
     case body =>
      rintro l' a' W5 hl ⟨bb, A5, c5, Bx, ho, hbx, hown, hBx, hyb, hbel, hkf, rfl⟩
      rw [HACT2.out]
      simp only [List.setIfInBounds_toArray, List.set_cons_succ, List.set_cons_zero]
      have HC2 : Hid (checkO v (a, f) = some bb) := hHd (by rw [HC.out]; exact it_some HLT.out HR.out.no ho)
      obtain ⟨fn, tmps, assign, body, hy, hR⟩ := HY.out #[.agg #[.int .i64 (bb.1 : Int), .slice A5 bb.2.length c5]] W5 hbel (by rw [HC2.out]; exact ⟨bb, rfl, _, rfl, hown.mono hWV.size⟩) (9 - 1 - 1 - 1)
      have y0 := (hyb.cell 0).trans rfl
      have p0 := (hbx.cell 0).trans rfl
      have p1 := (hbx.cell 1).trans rfl
      have HKF := hHd hkf
      clear ho hbx hown hBx hyb hbel hkf
      gi_wp2
      refine RoundIn.mono (F := Fence.wide) hR ?_
      rintro e Zz ⟨rfl, hj3, hk3⟩
      have HJ3 := hHd hj3
      have HK3 := hHd hk3
      clear hk3 hj3 hR hy y0 p0 p1
      gi_wp2
      exact ⟨keepsFrom_mono HK3.out hWV.size, rfl, HJ3.out, HKF.out.trans HK3.out⟩
     case done =>
      rintro hno D W5 hD hg hdef
      rw [HACT2.out]
      have HNX : Hid (PrsR (itO sf f) W V0 (j + 1) ({ target := .collected D, args := #[] } :: ds) W5) := hHd (by
       refine ⟨HLT.out, fun i hi => ?_, HR.out.bel.trans (hg.mono HR.out.bel.size), HR.out.marks.push (keeps_below hg) (Nat.le_trans hWV.size hD) hD hdef⟩
       by_cases hij : i < j
       ·exact HR.out.no i hij
       ·have e : i = j := by omega
        subst e
        cases ho : itO sf f i with
        | none => rfl
        | some b => rw [ho] at hno; cases hno)
      clear hg hdef
      gi_wp2_with fail
      refine ⟨⟨j + 1, { target := .collected D, args := #[] } :: ds, _, _, _, _, _, _, HNX.out, rfl⟩, ?_⟩
      show 2 - ((j : Int) + 1).toNat < 2 - (j : Int).toNat
      have := HLT.out
      omega
     case stop =>
      rintro hhas D cd W5 hD ⟨rfl, hj, hk⟩ hdef
      rw [HACT2.out]
      have HM : Hid (Marks W.heap.size W5 ({ target := .collected D, args := #[] } :: ds)) := hHd (HR.out.marks.push hk (Nat.le_trans hWV.size hD) hD hdef)
      have HJ := hHd hj
      have HHAS : Hid ((checkO v (a, f)).isSome = true) := hHd (by
       rw [HC.out]
       cases ho : itO sf f j with
       | none => rw [ho] at hhas; cases hhas
       | some b => rw [it_some HLT.out HR.out.no ho]; rfl)
      clear hk hj hdef hhas
      gi_wp2_with fail
      refine leaves_marks (v := undef) Jx (fun V' D' hD' hd' hj' => OwnFrom.putObj HJX.out (s := ()) (o' := .deferred none) hj' hD' hd' rfl) (fun V' hj' => ⟨_, results_none rfl _ _ _, ⟨_, rfl⟩, ?_⟩) _ _ HM.out HJ.out
      rw [if_pos HHAS.out]
      exact hj'
    ·have i2 : ¬ (j : Int) < 2 := by omega
     have HIN : Hid (checkO v (a, f) = none) := hHd (by rw [HC.out]; exact it_none fun i hi => HR.out.no i (by omega))
     gi_wp2_with fail
     refine leaves_marks (v := undef) (fun V' => Below W.heap.size W V') (fun V' D' hD' _ hb' => hb'.trans (below_put _ _ _ hD')) (fun V' hb' => ⟨_, results_none rfl _ _ _, ⟨_, rfl⟩, ?_⟩) _ _ HR.out.marks (HW0.out.1.trans (HR.out.bel.mono HW0.out.1.size))
     rw [HIN.out]
     exact hb'
 ·have k0 : ((er : Int) == 0) = false := beq_eq_false_iff_ne.2 (by omega)
  have k1 : ((er : Int) != 0) = true := by unfold bne; rw [k0]; rfl
  have HC : Hid (checkO v (a, f) = some (er, [])) := hHd (by rw [HCO.out, if_pos he])
  obtain ⟨fn, tmps, assign, body, hy, hR⟩ := HY.out #[.agg #[.int .i64 (er : Int), .slice none 0 0]] (w2.alloc (.cells (cT sd.name sd.kind sd.typ sd.low sd.high sd.names sd.must sd.most B0 m0 A0 sf.len c0) 61)) HV2.out (by rw [HC.out]; exact stop_enc er _ _) (9 - 1)
  clear he
  gi_wp2_with fail
  refine ⟨trivial, ?_⟩
  gi_wp2
  refine RoundIn.mono hR ?_
  rintro e Zz ⟨rfl, hj3, hk3⟩
  have HJ3 := hHd hj3
  clear hk3 hj3 hR hy y0
  gi_wp2
  refine ⟨_, results_none rfl _ _ _, ⟨_, rfl⟩, ?_⟩
  rw [HC.out]
  exact HJ3.out
theorem problems_prb (v : Int) (a : NdD) (f : NdF) (A : Option Addr) (c b g1 g2 : Nat) (w : World) (hrow : RowT b w (.slice A f.len c) f) (hb1 : Blk w g1 3 #[.int .i64 v]) (hb2 : Blk w g2 27 (cN a (.slice A f.len c))) (hbW : b ≤ w.heap.size) (hf : f.size ≤ 1000000) (hok : OkF f) :
  PrbS 50 #[.pointer (some ⟨g1, 0, none⟩), .pointer (some ⟨g2, 0, none⟩)] (checkO v (a, f)) w := fun l Jx W hW hJx hY =>
 (callsIn_wide (n := 9)).1 (problems1_in v a f A c b g1 g2 l Jx W (hrow.under hW hbW (Nat.le_refl _)) (hb1.below hW hb1.lt) (hb2.below hW hb2.lt) (Nat.le_trans hbW hW.size) hf hok hJx hY)
theorem vcheck_any (v : Int) (a : NdD) (f : NdF) (A : Option Addr) (c : Nat) (w : World) (hrow : RowT w.heap.size w (.slice A f.len c) f) (hf : f.size ≤ 1000000) (hok : OkF f) :
  Calls Tryz.prog 19 #[.int .i64 v, .agg (cN a (.slice A f.len c))] w (FirstP (CheckX v (a, f)) w) := by
 have hx1 : Below w.heap.size w (w.alloc (.cells (cN a (.slice A f.len c)) 27)) := bAl
 have hx2 : Below w.heap.size w ((w.alloc (.cells (cN a (.slice A f.len c)) 27)).alloc (.cells #[.int .i64 v] 3)) := hx1.alloc hx1.size _
 have hx3 : Below w.heap.size w (((w.alloc (.cells (cN a (.slice A f.len c)) 27)).alloc (.cells #[.int .i64 v] 3)).alloc (.cells (cN a (.slice A f.len c)) 27)) := hx2.alloc hx2.size _
 have hk1 : Blk (((w.alloc (.cells (cN a (.slice A f.len c)) 27)).alloc (.cells #[.int .i64 v] 3)).alloc (.cells (cN a (.slice A f.len c)) 27)) (w.heap.size + 1) 3 #[.int .i64 v] := (Blk.newA (w := (w.alloc (.cells (cN a (.slice A f.len c)) 27))) (by simp) _ _).alloc _
 have hk2 : Blk (((w.alloc (.cells (cN a (.slice A f.len c)) 27)).alloc (.cells #[.int .i64 v] 3)).alloc (.cells (cN a (.slice A f.len c)) 27)) (w.heap.size + 1 + 1) 27 (cN a (.slice A f.len c)) := Blk.newA (w := ((w.alloc (.cells (cN a (.slice A f.len c)) 27)).alloc (.cells #[.int .i64 v] 3))) (by simp) _ _
 have HF := hHd (vfirst_any 50 #[.pointer (some ⟨w.heap.size + 1, 0, none⟩), .pointer (some ⟨w.heap.size + 1 + 1, 0, none⟩)] (checkO v (a, f)) (((w.alloc (.cells (cN a (.slice A f.len c)) 27)).alloc (.cells #[.int .i64 v] 3)).alloc (.cells (cN a (.slice A f.len c)) 27)) (Go.Proofs.enters_of Tryz.func50 (by kernel_rfl) rfl) (problems_prb v a f A c w.heap.size (w.heap.size + 1) (w.heap.size + 1 + 1) (((w.alloc (.cells (cN a (.slice A f.len c)) 27)).alloc (.cells #[.int .i64 v] 3)).alloc (.cells (cN a (.slice A f.len c)) 27)) (hrow.under hx3 (Nat.le_refl _) (Nat.le_refl _)) hk1 hk2 hx3.size hf hok))
 have HX3 := hHd hx3
 have HBK := hHd (Blk.new w 27 (cN a (.slice A f.len c)))
 rw [check_o] at HF
 obtain ⟨e, he⟩ : ∃ e : Bad, e = CheckX v (a, f) := ⟨_, rfl⟩
 rw [← he] at HF
 have HE := hHd he
 clear hx1 hx2 hx3 hk1 hk2 hrow hf hok he
 obtain ⟨q0, q1, q2, q3, q4, q5⟩ := cl6 HBK.out
 go_enter Tryz.func19, Tryz.ntmps19
 go_wp2_with fail
 refine (problems_any v a (.slice A f.len c) _).mono ?_
 rintro r w' ⟨rfl, rfl⟩
 clear q0 q1 q2 q3 q4 q5
 go_wp2_with fail
 refine HF.out.mono ?_
 rintro r w3 ⟨vv, rfl, hv, hb3⟩
 have HV := hHd hv
 have HB3 := hHd (HX3.out.trans (hb3.mono HX3.out.size))
 obtain ⟨A3, c3, rfl⟩ := hv.shape
 clear hv hb3
 go_wp2
 go_ret2
 rw [← HE.out]
 exact ⟨_, rfl, HV.out, HB3.out⟩
theorem vmay_any (v : Int) (a : NdD) (f : NdF) (A : Option Addr) (c : Nat) (w : World) (hrow : RowT w.heap.size w (.slice A f.len c) f) (hf : f.size ≤ 1000000) (hok : OkF f) :
  Calls Tryz.prog 24 #[.int .i64 v, .agg (cN a (.slice A f.len c))] w (Ans9 (.bool (MayX v (a, f))) w) := by
 have hx1 : Below w.heap.size w (w.alloc (.cells (cN a (.slice A f.len c)) 27)) := bAl
 have HBK := hHd (Blk.new w 27 (cN a (.slice A f.len c)))
 have HX1 := hHd hx1
 have HCK := hHd (vcheck_any v a f A c (w.alloc (.cells (cN a (.slice A f.len c)) 27)) (hrow.under hx1 (Nat.le_refl _) hx1.size) hf hok)
 have HM : Hid (MayX v (a, f) = ((((CheckX v (a, f)).1 : Nat) : Int) == 0)) := hHd (by
  unfold MayX
  by_cases h : (CheckX v (a, f)).1 = 0
  ·rw [h]; rfl
  ·rw [decide_eq_false h]; exact (beq_eq_false_iff_ne.2 (by omega)).symm)
 clear hx1 hrow hf hok
 obtain ⟨q0, q1, q2, q3, q4, q5⟩ := cl6 HBK.out
 go_enter Tryz.func24, Tryz.ntmps24
 go_wp2_with fail
 refine HCK.out.mono ?_
 rintro r w3 ⟨vv, rfl, hv, hb3⟩
 obtain ⟨A3, c3, rfl⟩ := hv.shape
 have HB3 := hHd (HX1.out.trans (hb3.mono HX1.out.size))
 clear hv hb3 q0 q1 q2 q3 q4 q5
 go_wp2
 go_ret
 exact ⟨by rw [HM.out]; rfl, HB3.out⟩
end
def BoolB (b : Bool) (w : World) (r : Ending) (w' : World) : Prop := r = .returned (.bool b) ∧ Below w.heap.size w w'
theorem nests_yes (t : Nat) (dv kv : Value) (w : World) (h : t % 2 = 1) : Calls Tryz.prog 55 #[.agg #[.int .u64 (t : Int), dv, kv]] w (BoolB true w) := by
 have hb : ((t : Int) % 2 == 1) = true := by
  have h : (t : Int) % 2 = 1 := by omega
  rw [h]; rfl
 clear h
 go_enter Tryz.func55, Tryz.ntmps55
 go_wp2
 go_ret
 exact ⟨rfl, bAl⟩
theorem nests_no (t : Nat) (dv kv : Value) (w : World) (h : ¬ t % 2 = 1) : Calls Tryz.prog 55 #[.agg #[.int .u64 (t : Int), dv, kv]] w (BoolB false w) := by
 have hb : ((t : Int) % 2 == 1) = false := by
  have h : (t : Int) % 2 = 0 := by omega
  rw [h]; rfl
 clear h
 go_enter Tryz.func55, Tryz.ntmps55
 go_wp2
 go_ret
 exact ⟨rfl, bAl⟩
def pureB (t n m : Nat) : Bool := if t % 2 = 1 then ((n : Int) == 0) else ((m : Int) == 0)
theorem pure_any (t n m : Nat) (A A' : Option Addr) (c c' : Nat) (w : World) :
  Calls Tryz.prog 91 #[.agg #[.int .u64 (t : Int), .slice A n c, .slice A' m c']] w (BoolB (pureB t n m) w) := by
 unfold pureB
 by_cases h : t % 2 = 1
 ·rw [if_pos h]
  have HC := hHd (fun w => nests_yes t (.slice A n c) (.slice A' m c') w h)
  clear h
  go_enter Tryz.func91, Tryz.ntmps91
  go_wp2_with fail
  refine (HC.out _).mono ?_
  rintro r w1 ⟨rfl, hb1⟩
  obtain ⟨hc, hf⟩ := (⟨fun b o h => hb1.cell (p := ⟨b, o, none⟩) h, fun b o h => hb1.frozen (p := ⟨b, o, none⟩) h⟩ : (∀ b o, b < (w.alloc (.cells #[.int .u64 (t : Int), .slice A n c, .slice A' m c'] 48)).heap.size → w1.cell? ⟨b, o, none⟩ = (w.alloc (.cells #[.int .u64 (t : Int), .slice A n c, .slice A' m c'] 48)).cell? ⟨b, o, none⟩) ∧ (∀ b o, b < (w.alloc (.cells #[.int .u64 (t : Int), .slice A n c, .slice A' m c'] 48)).heap.size → w1.frozen? ⟨b, o, none⟩ = (w.alloc (.cells #[.int .u64 (t : Int), .slice A n c, .slice A' m c'] 48)).frozen? ⟨b, o, none⟩))
  go_wp2
  go_ret
  exact ⟨rfl, bAl.trans (hb1.mono (by simp))⟩
 ·rw [if_neg h]
  have HC := hHd (fun w => nests_no t (.slice A n c) (.slice A' m c') w h)
  clear h
  go_enter Tryz.func91, Tryz.ntmps91
  go_wp2_with fail
  refine (HC.out _).mono ?_
  rintro r w1 ⟨rfl, hb1⟩
  obtain ⟨hc, hf⟩ := (⟨fun b o h => hb1.cell (p := ⟨b, o, none⟩) h, fun b o h => hb1.frozen (p := ⟨b, o, none⟩) h⟩ : (∀ b o, b < (w.alloc (.cells #[.int .u64 (t : Int), .slice A n c, .slice A' m c'] 48)).heap.size → w1.cell? ⟨b, o, none⟩ = (w.alloc (.cells #[.int .u64 (t : Int), .slice A n c, .slice A' m c'] 48)).cell? ⟨b, o, none⟩) ∧ (∀ b o, b < (w.alloc (.cells #[.int .u64 (t : Int), .slice A n c, .slice A' m c'] 48)).heap.size → w1.frozen? ⟨b, o, none⟩ = (w.alloc (.cells #[.int .u64 (t : Int), .slice A n c, .slice A' m c'] 48)).frozen? ⟨b, o, none⟩))
  go_wp2
  go_ret
  exact ⟨rfl, bAl.trans (hb1.mono (by simp))⟩
theorem pureB_eq (t : Nat) (d : List UInt8) (k : Fo) : pureB t d.length k.len = (if t % 2 = 1 then d.isEmpty else k.len == 0) := by
 unfold pureB
 by_cases h : t % 2 = 1
 ·rw [if_pos h, if_pos h]
  cases d with
  | nil => rfl
  | cons b l => simp; omega
 ·rw [if_neg h, if_neg h]
  rw [Bool.eq_iff_iff]; simp
def Fo.cnt : Fo → Nat
 | .nil => 0
 | .cons _ _ k r => 1 + k.cnt + r.cnt
theorem Fo.cnt_app (f g : Fo) : (f.app g).cnt = f.cnt + g.cnt := by
 induction f with
 | nil => simp [Fo.app, Fo.cnt]
 | cons t d k r _ ih => simp only [Fo.app, Fo.cnt, ih]; omega
theorem Fo.len_le_cnt (f : Fo) : f.len ≤ f.cnt := by
 induction f with
 | nil => simp [Fo.len]
 | cons t d k r _ ih => simp only [Fo.len, Fo.cnt]; omega
theorem Fo.cnt_all (f : Fo) : ∀ deep, Fo.right deep f = true → 2 * f.cnt ≤ f.all.length := by
 induction f with
 | nil => intro _ _; simp [Fo.cnt]
 | cons t d k r ihk ihr =>
  intro deep h
  simp only [Fo.right, Bool.and_eq_true, decide_eq_true_eq] at h
  obtain ⟨⟨⟨-, hs⟩, hk⟩, hr⟩ := h
  have h1 := ihk _ hk
  have h2 := ihr _ hr
  have e1 := (encV_length 9 t).1
  have e2 := (encV_length 9 (Fo.inn t d k.all).length).1
  simp only [Fo.cnt, Fo.all, List.length_append]
  by_cases ho : t % 2 = 1
  ·have hin : Fo.inn t d k.all = k.all := by unfold Fo.inn; rw [if_pos ho]
   rw [hin] at e2 ⊢
   omega
  ·rw [if_neg ho] at hs
   have h0 : k.cnt = 0 := by
    have := Fo.len_zero (by simpa using hs)
    subst this
    rfl
   omega
theorem Fo.cnt_take_le (j : Nat) (f : Fo) : (Fo.take j f).cnt + (Fo.drop j f).cnt = f.cnt := by
 have h := Fo.cnt_app (Fo.take j f) (Fo.drop j f)
 rw [Fo.take_app_drop] at h
 omega
section
attribute [local go_sem ↓] Go.wp_at_zero Go.wp_at_succ
def Lo (w : World) (g : Nat) : Prop := g < w.heap.size
theorem FV.below {D : World → (Nat → Prop) → Value → List UInt8 → Prop} {w w' : World} {v : Value} {f : Fo} (hD : Stays D) (h : FV D w (Lo w) v f) (hb : Below w.heap.size w w') : FV D w' (Lo w') v f :=
 h.kept hD (fun g hg => hb.block g hg) (fun _ hg => Nat.lt_of_lt_of_le hg hb.size)
namespace Fo
end Fo
theorem hundred (m : Nat) (n k : Nat) (hm : m ≤ 1099511627776) (hn : n ≤ 1099511627776) (hk : k ≤ 1099511627776) :
  IntKind.i64.wrap ((n : Int) + IntKind.i64.wrap ((k : Int) + IntKind.i64.wrap ((m : Int) / 100))) = ((n + (m / 100 + k) : Nat) : Int) := by
 have ht : (m : Int) / 100 = ((m / 100 : Nat) : Int) := by omega
 rw [ht, IntKind.wrap_i64, IntKind.wrap_i64, IntKind.wrap_i64]
 omega
end
end Go.Proofs.YtodlhgflfcadmaaGreat
