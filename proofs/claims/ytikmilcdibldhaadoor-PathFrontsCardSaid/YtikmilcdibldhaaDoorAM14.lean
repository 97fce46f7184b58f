/- Law15C -/
import Derived.Test.YtikmilcdibldhaaDoorAM0
import Derived.Test.YtikmilcdibldhaaDoorAM13
set_option linter.unusedSimpArgs false
set_option linter.unusedVariables false
namespace Go.Proofs.YtikmilcdibldhaaDoor
open Go.RowKit
attribute [local go_sem] Oper.semAt_some
set_option maxRecDepth 100000 in
set_option maxHeartbeats 4000000 in
theorem pathShows_many (v : Int) (l m : List Stp) (A B : Option Addr) (c d : Nat) (w : World) (h : 20 < l.length ∨ 20 < m.length) (HA : Awake15 w) :
  Calls Tryd.prog 4 #[.int .i64 v, .slice A l.length c, .slice B m.length d] w (fun r w' => r = .returned (.bool true) ∧ Below w.heap.size w w') := by
 have HAW := Lib.hid (HA w (Below.refl _ _))
 clear HA
 have hw : (20 : Int) < (l.length : Int) ∨ (¬ (20 : Int) < (l.length : Int) ∧ (20 : Int) < (m.length : Int)) := by omega
 clear h
 rcases hw with i0 | ⟨i0, i1⟩
 all_goals
  go_enter Tryd.func4, Tryd.ntmps4
  go_wp2_with fail
  refine HAW.out.mono ?_
  rintro r w1 ⟨rfl, hB1⟩
  have HB1 := Lib.hid hB1
  clear hB1
  go_wp2
  go_ret
  exact ⟨rfl, HB1.out⟩
set_option maxRecDepth 100000 in
set_option maxHeartbeats 8000000 in
theorem pathShows_few (v : Int) (hv0 : -9223372036854775808 ≤ v) (hv1 : v ≤ 9223372036854775807) (l m : List Stp) (A B : Option Addr) (c d : Nat) (t : List UInt8) (x : Sp) (e : Nat) (u : Bool) (p : List Stp) (pe pa : Nat) (w : World)
  (hA : WayV w.heap.size w (.slice A l.length c) l) (hB : WayV w.heap.size w (.slice B m.length d) m) (hl : l.length ≤ 20) (hm : m.length ≤ 20) (hsz : ∀ s ∈ l, s.1.length ≤ 9223372036854775807 ∧ s.2.length ≤ 9223372036854775807)
  (ht : showX l = t) (hx : atP v l = (x, e)) (hu : underX l m = u) (hp : parseX t = (p, pe, pa)) (hpl : p.length ≤ 1000000) (hpt : t = [] ∨ (t.isEmpty = false ∧ p = l ∧ pe = 0 ∧ pa = 0)) (C : PthC w) (HA : Awake15 w) :
  Calls Tryd.prog 4 #[.int .i64 v, .slice A l.length c, .slice B m.length d] w (fun r w' => r = .returned (.bool true) ∧ Below w.heap.size w w') := by
 have HAW := Lib.hid (HA w (Below.refl _ _))
 have htl : t.length ≤ 1000000 := by
  rw [← ht]
  unfold showX
  split
  ·rename_i hok
   split
   ·simp
   ·split
    ·simp
    ·have := catT_len hok; omega
  ·simp
 have hfx : Few x := by have h := few_atP v l; rw [hx] at h; exact h
 have hc1 : ∀ W, Below w.heap.size w W → Hid (Calls Tryd.prog 11 #[.slice A l.length c] W (fun r w' => r = .returned (.string (txt t)) ∧ Below W.heap.size W w')) := fun W h => Lib.hid (by
  have h := C.show_ l _ W (hA.below h) (by omega) hsz h
  unfold ShowP at h
  rwa [ht] at h)
 have hc2 : ∀ W, Below w.heap.size w W → Hid (Calls Tryd.prog 14 #[.slice A l.length c] W (fun r w' => r = .returned (.string (txt t)) ∧ Below W.heap.size W w')) := fun W h => Lib.hid (by
  have h := rshow15_any l _ W (hA.below h) (by omega) hsz
  unfold ShowP at h
  rwa [ht] at h)
 have hc3 : ∀ W, Below w.heap.size w W → Hid (Calls Tryd.prog 12 #[.int .i64 v, .slice A l.length c] W (LieSp (x, e) W)) := fun W h => Lib.hid (by
  have h := C.at_ v l _ W hv0 hv1 (hA.below h) (by omega) hsz h
  rwa [hx] at h)
 have hc4 : ∀ W, Below w.heap.size w W → Hid (Calls Tryd.prog 13 #[.int .i64 v, .slice A l.length c] W (LieSp (x, e) W)) := fun W h => Lib.hid (by
  have h := rat15_any v l _ W (hA.below h) (by omega) (fun s hs => (hsz s hs).2)
  rwa [hx] at h)
 have hc5 : ∀ W, Below w.heap.size w W → Hid (Calls Tryd.prog 17 #[.slice A l.length c, .slice B m.length d] W (Ans9 (.bool u) W)) := fun W h => Lib.hid (by
  have h := C.under l m _ _ W (hA.below h) (hB.below h) (by omega) (by omega) h
  rwa [hu] at h)
 have hc6 : ∀ W, Below w.heap.size w W → Hid (Calls Tryd.prog 18 #[.slice A l.length c, .slice B m.length d] W (Ans9 (.bool u) W)) := fun W h => Lib.hid (by
  have h := runder15_any l m _ _ W (hA.below h) (hB.below h) (by omega) (by omega)
  rwa [hu] at h)
 have hc7 : ∀ W, Below w.heap.size w W → Hid (Calls Tryd.prog 8 #[.string (txt t)] W (PrsP (p, pe, pa) W)) := fun W h => Lib.hid (by rw [← hp]; exact C.parse t W htl h)
 have hc8 : ∀ W va, Below w.heap.size w W → WayV W.heap.size W va p → Hid (Calls Tryd.prog 10 #[va, .slice A l.length c] W (Ans9 (.bool (decide (p = l))) W)) := fun W va h hv => Lib.hid (rsteps10_any p l va _ W hv (hA.below h) hpl (by omega))
 have C1 := Lib.hid hc1
 have C2 := Lib.hid hc2
 have C3 := Lib.hid hc3
 have C4 := Lib.hid hc4
 have C5 := Lib.hid hc5
 have C6 := Lib.hid hc6
 have C7 := Lib.hid hc7
 have C8 := Lib.hid hc8
 have HFX := Lib.hid hfx
 have HPT := Lib.hid hpt
 have i0 : ¬ (20 : Int) < (l.length : Int) := by omega
 have i1 : ¬ (20 : Int) < (m.length : Int) := by omega
 have tt : (txt t).toList = t := txt_toList t
 clear hc1 hc2 hc3 hc4 hc5 hc6 hc7 hc8 hA hB hsz ht hx hu hp hpl hpt htl hfx C HA hl hm
 go_enter Tryd.func4, Tryd.ntmps4
 go_wp2_with fail
 refine HAW.out.mono ?_
 rintro r w1 ⟨rfl, hB1⟩
 have HB1 := Lib.hid hB1
 clear hB1
 go_wp2_with fail
 refine (C1.out w1 HB1.out).out.mono ?_
 rintro r w2 ⟨rfl, hb2⟩
 have HB2 := Lib.hid (HB1.out.trans (hb2.mono HB1.out.size))
 clear hb2
 go_wp2_with fail
 refine (C3.out w2 HB2.out).out.mono ?_
 rintro r w3 ⟨cs, rfl, hlx, hb3⟩
 obtain ⟨Bx, mx, Ax, cx, rfl⟩ := hlx.shape
 have hal : Below w3.heap.size w3 (w3.alloc (.cells #[.string (txt x.1.name), .int .i64 (x.1.kind : Int), .int .i64 (x.1.typ : Int), .int .u64 (x.1.low : Int), .int .u64 (x.1.high : Int), .slice Bx x.1.names.length mx, .bool x.1.must, .int .i64 (x.1.most : Int), .slice Ax x.2.len cx] 34)) := (Below.refl _ _).alloc (Nat.le_refl _) _
 have HX3 : Hid (Blk (w3.alloc (.cells #[.string (txt x.1.name), .int .i64 (x.1.kind : Int), .int .i64 (x.1.typ : Int), .int .u64 (x.1.low : Int), .int .u64 (x.1.high : Int), .slice Bx x.1.names.length mx, .bool x.1.must, .int .i64 (x.1.most : Int), .slice Ax x.2.len cx] 34)) w3.heap.size 34 #[.string (txt x.1.name), .int .i64 (x.1.kind : Int), .int .i64 (x.1.typ : Int), .int .u64 (x.1.low : Int), .int .u64 (x.1.high : Int), .slice Bx x.1.names.length mx, .bool x.1.must, .int .i64 (x.1.most : Int), .slice Ax x.2.len cx]) := Lib.hid (Blk.new w3 34 #[.string (txt x.1.name), .int .i64 (x.1.kind : Int), .int .i64 (x.1.typ : Int), .int .u64 (x.1.low : Int), .int .u64 (x.1.high : Int), .slice Bx x.1.names.length mx, .bool x.1.must, .int .i64 (x.1.most : Int), .slice Ax x.2.len cx])
 have HLX3 := Lib.hid (hlx.below hal)
 have HB3 : Hid (Below w.heap.size w (w3.alloc (.cells #[.string (txt x.1.name), .int .i64 (x.1.kind : Int), .int .i64 (x.1.typ : Int), .int .u64 (x.1.low : Int), .int .u64 (x.1.high : Int), .slice Bx x.1.names.length mx, .bool x.1.must, .int .i64 (x.1.most : Int), .slice Ax x.2.len cx] 34))) := Lib.hid (HB2.out.trans ((hb3.trans (hal.mono hb3.size)).mono HB2.out.size))
 clear hlx hb3 hal
 go_wp2_with fail
 refine (C4.out _ HB3.out).out.mono ?_
 rintro r w4 ⟨cs4, rfl, hly, hb4⟩
 obtain ⟨By, my, Ay, cy, rfl⟩ := hly.shape
 have hal : Below w4.heap.size w4 (w4.alloc (.cells #[.string (txt x.1.name), .int .i64 (x.1.kind : Int), .int .i64 (x.1.typ : Int), .int .u64 (x.1.low : Int), .int .u64 (x.1.high : Int), .slice By x.1.names.length my, .bool x.1.must, .int .i64 (x.1.most : Int), .slice Ay x.2.len cy] 39)).drew := ((Below.refl _ _).alloc (Nat.le_refl _) _).drew
 have hb4' := hb4.trans (hal.mono hb4.size)
 have HX4 := Lib.hid (HX3.out.below hb4' HX3.out.lt)
 have HLX4 := Lib.hid (HLX3.out.below hb4')
 have HY4 : Hid (Blk (w4.alloc (.cells #[.string (txt x.1.name), .int .i64 (x.1.kind : Int), .int .i64 (x.1.typ : Int), .int .u64 (x.1.low : Int), .int .u64 (x.1.high : Int), .slice By x.1.names.length my, .bool x.1.must, .int .i64 (x.1.most : Int), .slice Ay x.2.len cy] 39)).drew w4.heap.size 39 #[.string (txt x.1.name), .int .i64 (x.1.kind : Int), .int .i64 (x.1.typ : Int), .int .u64 (x.1.low : Int), .int .u64 (x.1.high : Int), .slice By x.1.names.length my, .bool x.1.must, .int .i64 (x.1.most : Int), .slice Ay x.2.len cy]) := Lib.hid ((Blk.new w4 39 #[.string (txt x.1.name), .int .i64 (x.1.kind : Int), .int .i64 (x.1.typ : Int), .int .u64 (x.1.low : Int), .int .u64 (x.1.high : Int), .slice By x.1.names.length my, .bool x.1.must, .int .i64 (x.1.most : Int), .slice Ay x.2.len cy]).below (Below.refl _ _).drew (Blk.new w4 39 #[.string (txt x.1.name), .int .i64 (x.1.kind : Int), .int .i64 (x.1.typ : Int), .int .u64 (x.1.low : Int), .int .u64 (x.1.high : Int), .slice By x.1.names.length my, .bool x.1.must, .int .i64 (x.1.most : Int), .slice Ay x.2.len cy]).lt)
 have HLY4 := Lib.hid (hly.below hal)
 have HB4 : Hid (Below w.heap.size w (w4.alloc (.cells #[.string (txt x.1.name), .int .i64 (x.1.kind : Int), .int .i64 (x.1.typ : Int), .int .u64 (x.1.low : Int), .int .u64 (x.1.high : Int), .slice By x.1.names.length my, .bool x.1.must, .int .i64 (x.1.most : Int), .slice Ay x.2.len cy] 39)).drew) := Lib.hid (HB3.out.trans (hb4'.mono HB3.out.size))
 clear hly hb4 hb4' hal
 go_wp2_with fail
 refine wp_region_noPanic ?_
 refine wp_region_held_drew (S := fun _ => True) (by kernel_rfl) trivial (fun hS => ?_)
 refine held_more (S' := fun w' => Blk w' w3.heap.size 34 #[.string (txt x.1.name), .int .i64 (x.1.kind : Int), .int .i64 (x.1.typ : Int), .int .u64 (x.1.low : Int), .int .u64 (x.1.high : Int), .slice Bx x.1.names.length mx, .bool x.1.must, .int .i64 (x.1.most : Int), .slice Ax x.2.len cx] ∧ Blk w' w4.heap.size 39 #[.string (txt x.1.name), .int .i64 (x.1.kind : Int), .int .i64 (x.1.typ : Int), .int .u64 (x.1.low : Int), .int .u64 (x.1.high : Int), .slice By x.1.names.length my, .bool x.1.must, .int .i64 (x.1.most : Int), .slice Ay x.2.len cy]) (fun _ _ => trivial) _ _ _ _ ?_
 replace hS := And.intro HX4.out HY4.out
 refine wpAnyH_take (i := 0) (oi := ?o_0) (v := ?v_0) ?i_0 (by kernel_rfl) (by kernel_rfl) (by kernel_rfl) (fun _ _ _ h => h) (Or.inl ⟨?g_0, ?y_0⟩) hS ?_
 case i_0 => simp only [layG]; rfl
 case g_0 => rfl
 case y_0 => (intro w hSw; (go_simp <;> with_reducible rfl))
 (try simp only [Act.put, layS])
 refine wpAnyH_take (i := 1) (oi := ?o_1) (v := ?v_1) ?i_1 (by kernel_rfl) (by kernel_rfl) (by kernel_rfl) (fun _ _ _ h => h) (Or.inl ⟨?g_1, ?y_1⟩) hS ?_
 case i_1 => simp only [layG]; rfl
 case g_1 => rfl
 case y_1 => (intro w hSw; (go_simp <;> with_reducible rfl))
 (try simp only [Act.put, layS])
 refine wpAnyH_ready (rs := [2]) (by kernel_rfl) (by simp) ?_
 refine (AllReadyH.cons (o := ?or_2) ?ir_2 (fun K hK => ?str_2) AllReadyH.nil)
 case ir_2 => simp only [layG]; rfl
 rw [if_pos (by rfl)]
 go_simp
 refine (C2.out _ HB4.out).out.mono ?_
 rintro r w5 ⟨rfl, hb⟩
 have HX5 := Lib.hid (HX4.out.below hb HX4.out.lt)
 have HY5 := Lib.hid (HY4.out.below hb HY4.out.lt)
 have HLX5 := Lib.hid (HLX4.out.below hb)
 have HLY5 := Lib.hid (HLY4.out.below hb)
 have HB5 := Lib.hid (HB4.out.trans (hb.mono HB4.out.size))
 clear hb
 go_wp2_with fail
 refine hK.out _ _ ?sr_2 (fun hS => ?_)
 case sr_2 => (exact And.intro HX5.out HY5.out)
 clear hK K
 (try simp only [Act.put, layS])
 refine wpAnyH_take (i := 3) (oi := ?o_3) (v := ?v_3) ?i_3 (by kernel_rfl) (by kernel_rfl) (by kernel_rfl) (fun _ _ _ h => h) (Or.inl ⟨?g_3, ?y_3⟩) hS ?_
 case i_3 => simp only [layG]; rfl
 case g_3 => rfl
 case y_3 => (intro w hSw; (go_simp <;> with_reducible rfl))
 (try simp only [Act.put, layS])
 refine wpAnyH_take (i := 4) (oi := ?o_4) (v := ?v_4) ?i_4 (by kernel_rfl) (by kernel_rfl) (by kernel_rfl) (fun _ _ _ h => h) (Or.inl ⟨?g_4, ?y_4⟩) hS ?_
 case i_4 => simp only [layG]; rfl
 case g_4 => rfl
 case y_4 => (intro w hSw; (go_simp <;> with_reducible rfl))
 (try simp only [Act.put, layS])
 refine wpAnyH_take (i := 5) (oi := ?o_5) (v := ?v_5) ?i_5 (by kernel_rfl) (by kernel_rfl) (by kernel_rfl) (fun _ _ _ h => h) (Or.inl ⟨?g_5, ?y_5⟩) hS ?_
 case i_5 => simp only [layG]; rfl
 case g_5 => rfl
 case y_5 => (intro w hSw; have q0 := (hSw.1.cell 0).trans rfl; have q1 := (hSw.1.cell 1).trans rfl; have q2 := (hSw.1.cell 2).trans rfl; have q3 := (hSw.1.cell 3).trans rfl; have q4 := (hSw.1.cell 4).trans rfl; have q5 := (hSw.1.cell 5).trans rfl; have q6 := (hSw.1.cell 6).trans rfl; have q7 := (hSw.1.cell 7).trans rfl; have q8 := (hSw.1.cell 8).trans rfl; (go_simp <;> with_reducible rfl))
 (try simp only [Act.put, layS])
 refine wpAnyH_take (i := 7) (oi := ?o_6) (v := ?v_6) ?i_6 (by kernel_rfl) (by kernel_rfl) (by kernel_rfl) (fun _ _ _ h => h) (Or.inl ⟨?g_6, ?y_6⟩) hS ?_
 case i_6 => simp only [layG]; rfl
 case g_6 => rfl
 case y_6 => (intro w hSw; have q0 := (hSw.2.cell 0).trans rfl; have q1 := (hSw.2.cell 1).trans rfl; have q2 := (hSw.2.cell 2).trans rfl; have q3 := (hSw.2.cell 3).trans rfl; have q4 := (hSw.2.cell 4).trans rfl; have q5 := (hSw.2.cell 5).trans rfl; have q6 := (hSw.2.cell 6).trans rfl; have q7 := (hSw.2.cell 7).trans rfl; have q8 := (hSw.2.cell 8).trans rfl; (go_simp <;> with_reducible rfl))
 (try simp only [Act.put, layS])
 refine wpAnyH_ready (rs := [6]) (by kernel_rfl) (by simp) ?_
 refine (AllReadyH.cons (o := ?or_7) ?ir_7 (fun K hK => ?str_7) AllReadyH.nil)
 case ir_7 => simp only [layG]; rfl
 rw [if_pos (by rfl)]
 go_simp
 refine (plain15_l HLX5.out HFX.out).mono ?_
 rintro r w6 ⟨cs, rfl, hlz, hb⟩
 obtain ⟨Bz, mz, Az, cz, rfl⟩ := hlz.shape
 have HLZ6 := Lib.hid hlz
 have HX6 := Lib.hid (HX5.out.below hb HX5.out.lt)
 have HY6 := Lib.hid (HY5.out.below hb HY5.out.lt)
 have HLY6 := Lib.hid (HLY5.out.below hb)
 have HB6 := Lib.hid (HB5.out.trans (hb.mono HB5.out.size))
 clear hb hlz
 go_wp2_with fail
 refine hK.out _ _ ?sr_7 (fun hS => ?_)
 case sr_7 => (exact And.intro HX6.out HY6.out)
 clear hK K
 (try simp only [Act.put, layS])
 refine wpAnyH_ready (rs := [8]) (by kernel_rfl) (by simp) ?_
 refine (AllReadyH.cons (o := ?or_8) ?ir_8 (fun K hK => ?str_8) AllReadyH.nil)
 case ir_8 => simp only [layG]; rfl
 rw [if_pos (by rfl)]
 go_simp
 refine (same_l HLZ6.out HLY6.out HFX.out).mono ?_
 rintro r w7 ⟨rfl, hb⟩
 have HX7 := Lib.hid (HX6.out.below hb HX6.out.lt)
 have HY7 := Lib.hid (HY6.out.below hb HY6.out.lt)
 have HB7 := Lib.hid (HB6.out.trans (hb.mono HB6.out.size))
 clear hb
 go_wp2_with fail
 refine hK.out _ _ ?sr_8 (fun hS => ?_)
 case sr_8 => (exact And.intro HX7.out HY7.out)
 clear hK K
 (try simp only [Act.put, layS])
 refine wpAnyH_take (i := 9) (oi := ?o_9) (v := ?v_9) ?i_9 (by kernel_rfl) (by kernel_rfl) (by kernel_rfl) (fun _ _ _ h => h) (Or.inl ⟨?g_9, ?y_9⟩) hS ?_
 case i_9 => simp only [layG]; rfl
 case g_9 => rfl
 case y_9 => (intro w hSw; (go_simp <;> with_reducible rfl))
 (try simp only [Act.put, layS])
 refine wpAnyH_take (i := 10) (oi := ?o_a) (v := ?v_a) ?i_a (by kernel_rfl) (by kernel_rfl) (by kernel_rfl) (fun _ _ _ h => h) (Or.inl ⟨?g_a, ?y_a⟩) hS ?_
 case i_a => simp only [layG]; rfl
 case g_a => rfl
 case y_a => (intro w hSw; (go_simp <;> with_reducible rfl))
 (try simp only [Act.put, layS])
 refine wpAnyH_take (i := 11) (oi := ?o_b) (v := ?v_b) ?i_b (by kernel_rfl) (by kernel_rfl) (by kernel_rfl) (fun _ _ _ h => h) (Or.inl ⟨?g_b, ?y_b⟩) hS ?_
 case i_b => simp only [layG]; rfl
 case g_b => rfl
 case y_b => (intro w hSw; (go_simp <;> with_reducible rfl))
 (try simp only [Act.put, layS])
 refine wpAnyH_take (i := 12) (oi := ?o_c) (v := ?v_c) ?i_c (by kernel_rfl) (by kernel_rfl) (by kernel_rfl) (fun _ _ _ h => h) (Or.inl ⟨?g_c, ?y_c⟩) hS ?_
 case i_c => simp only [layG]; rfl
 case g_c => rfl
 case y_c => (intro w hSw; (go_simp <;> with_reducible rfl))
 (try simp only [Act.put, layS])
 refine wpAnyH_take (i := 13) (oi := ?o_d) (v := ?v_d) ?i_d (by kernel_rfl) (by kernel_rfl) (by kernel_rfl) (fun _ _ _ h => h) (Or.inl ⟨?g_d, ?y_d⟩) hS ?_
 case i_d => simp only [layG]; rfl
 case g_d => rfl
 case y_d => (intro w hSw; (go_simp <;> with_reducible rfl))
 (try simp only [Act.put, layS])
 refine wpAnyH_take (i := 14) (oi := ?o_e) (v := ?v_e) ?i_e (by kernel_rfl) (by kernel_rfl) (by kernel_rfl) (fun _ _ _ h => h) (Or.inl ⟨?g_e, ?y_e⟩) hS ?_
 case i_e => simp only [layG]; rfl
 case g_e => rfl
 case y_e => (intro w hSw; (go_simp <;> with_reducible rfl))
 (try simp only [Act.put, layS])
 refine wpAnyH_take (i := 15) (oi := ?o_f) (v := ?v_f) ?i_f (by kernel_rfl) (by kernel_rfl) (by kernel_rfl) (fun _ _ _ h => h) (Or.inl ⟨?g_f, ?y_f⟩) hS ?_
 case i_f => simp only [layG]; rfl
 case g_f => rfl
 case y_f => (intro w hSw; (go_simp <;> with_reducible rfl))
 (try simp only [Act.put, layS])
 refine wpAnyH_take (i := 16) (oi := ?o_g) (v := ?v_g) ?i_g (by kernel_rfl) (by kernel_rfl) (by kernel_rfl) (fun _ _ _ h => h) (Or.inl ⟨?g_g, ?y_g⟩) hS ?_
 case i_g => simp only [layG]; rfl
 case g_g => rfl
 case y_g => (intro w hSw; (go_simp <;> with_reducible rfl))
 (try simp only [Act.put, layS])
 refine wpAnyH_take (i := 17) (oi := ?o_h) (v := ?v_h) ?i_h (by kernel_rfl) (by kernel_rfl) (by kernel_rfl) (fun _ _ _ h => h) (Or.inl ⟨?g_h, ?y_h⟩) hS ?_
 case i_h => simp only [layG]; rfl
 case g_h => rfl
 case y_h => (intro w hSw; (go_simp <;> with_reducible rfl))
 (try simp only [Act.put, layS])
 refine wpAnyH_take (i := 18) (oi := ?o_i) (v := ?v_i) ?i_i (by kernel_rfl) (by kernel_rfl) (by kernel_rfl) (fun _ _ _ h => h) (Or.inl ⟨?g_i, ?y_i⟩) hS ?_
 case i_i => simp only [layG]; rfl
 case g_i => rfl
 case y_i => (intro w hSw; (go_simp <;> with_reducible rfl))
 (try simp only [Act.put, layS])
 refine wpAnyH_take (i := 20) (oi := ?o_j) (v := ?v_j) ?i_j (by kernel_rfl) (by kernel_rfl) (by kernel_rfl) (fun _ _ _ h => h) (Or.inl ⟨?g_j, ?y_j⟩) hS ?_
 case i_j => simp only [layG]; rfl
 case g_j => rfl
 case y_j => (intro w hSw; (go_simp <;> with_reducible rfl))
 (try simp only [Act.put, layS])
 refine wpAnyH_take (i := 21) (oi := ?o_k) (v := ?v_k) ?i_k (by kernel_rfl) (by kernel_rfl) (by kernel_rfl) (fun _ _ _ h => h) (Or.inl ⟨?g_k, ?y_k⟩) hS ?_
 case i_k => simp only [layG]; rfl
 case g_k => rfl
 case y_k => (intro w hSw; (go_simp <;> with_reducible rfl))
 (try simp only [Act.put, layS])
 refine wpAnyH_ready (rs := [19]) (by kernel_rfl) (by simp) ?_
 refine (AllReadyH.cons (o := ?or_l) ?ir_l (fun K hK => ?str_l) AllReadyH.nil)
 case ir_l => simp only [layG]; rfl
 rw [if_pos (by rfl)]
 go_simp
 refine (C5.out w7 HB7.out).out.mono ?_
 rintro r w8 ⟨rfl, hb⟩
 have HX8 := Lib.hid (HX7.out.below hb HX7.out.lt)
 have HY8 := Lib.hid (HY7.out.below hb HY7.out.lt)
 have HB8 := Lib.hid (HB7.out.trans (hb.mono HB7.out.size))
 clear hb
 go_wp2_with fail
 refine hK.out _ _ ?sr_l (fun hS => ?_)
 case sr_l => (exact And.intro HX8.out HY8.out)
 clear hK K
 (try simp only [Act.put, layS])
 refine wpAnyH_ready (rs := [22]) (by kernel_rfl) (by simp) ?_
 refine (AllReadyH.cons (o := ?or_m) ?ir_m (fun K hK => ?str_m) AllReadyH.nil)
 case ir_m => simp only [layG]; rfl
 rw [if_pos (by rfl)]
 go_simp
 refine (C6.out w8 HB8.out).out.mono ?_
 rintro r w9 ⟨rfl, hb⟩
 have HX9 := Lib.hid (HX8.out.below hb HX8.out.lt)
 have HY9 := Lib.hid (HY8.out.below hb HY8.out.lt)
 have HB9 := Lib.hid (HB8.out.trans (hb.mono HB8.out.size))
 clear hb
 go_wp2_with fail
 refine hK.out _ _ ?sr_m (fun hS => ?_)
 case sr_m => (exact And.intro HX9.out HY9.out)
 clear hK K
 (try simp only [Act.put, layS])
 refine wpAnyH_take (i := 23) (oi := ?o_n) (v := ?v_n) ?i_n (by kernel_rfl) (by kernel_rfl) (by kernel_rfl) (fun _ _ _ h => h) (Or.inl ⟨?g_n, ?y_n⟩) hS ?_
 case i_n => simp only [layG]; rfl
 case g_n => rfl
 case y_n => (intro w hSw; (go_simp <;> with_reducible rfl))
 (try simp only [Act.put, layS])
 refine wpAnyH_take (i := 24) (oi := ?o_o) (v := ?v_o) ?i_o (by kernel_rfl) (by kernel_rfl) (by kernel_rfl) (fun _ _ _ h => h) (Or.inl ⟨?g_o, ?y_o⟩) hS ?_
 case i_o => simp only [layG]; rfl
 case g_o => rfl
 case y_o => (intro w hSw; (go_simp <;> with_reducible rfl))
 (try simp only [Act.put, layS])
 refine wpAnyH_done (by kernel_rfl) ?_ _
 refine NoPanic.normal ?_
 clear hS
 go_wp2_with fail
 refine (C7.out w9 HB9.out).out.mono ?_
 rintro r w10 ⟨v2, rfl, hv2, hb⟩
 have HV2 := Lib.hid hv2
 have HB10 := Lib.hid (HB9.out.trans (hb.mono HB9.out.size))
 clear hv2 hb
 rcases HPT.out with rfl | ⟨g1, rfl, rfl, rfl⟩
 ·have e0 : txt [] = (⟨#[]⟩ : ByteArray) := rfl
  go_wp2
  go_ret
  exact ⟨rfl, HB10.out⟩
 ·have hst := C8.out w10 v2 HB10.out HV2.out
  rw [decide_eq_true rfl] at hst
  go_wp2_with fail
  refine hst.out.mono ?_
  rintro r w11 ⟨rfl, hb⟩
  have HB11 := Lib.hid (HB10.out.trans (hb.mono HB10.out.size))
  clear hb hst
  go_wp2
  go_ret
  exact ⟨rfl, HB11.out⟩
theorem pathShows_walk (v : Int) (hv0 : -9223372036854775808 ≤ v) (hv1 : v ≤ 9223372036854775807) (l m : List Stp) (A B : Option Addr) (c d : Nat) (w : World)
  (hA : WayV w.heap.size w (.slice A l.length c) l) (hB : WayV w.heap.size w (.slice B m.length d) m) (hsz : ∀ s ∈ l, s.1.length ≤ 9223372036854775807 ∧ s.2.length ≤ 9223372036854775807) (C : PthC w) (HA : Awake15 w) :
  Calls Tryd.prog 4 #[.int .i64 v, .slice A l.length c, .slice B m.length d] w (fun r w' => r = .returned (.bool true) ∧ Below w.heap.size w w') := by
 by_cases h : 20 < l.length ∨ 20 < m.length
 ·exact pathShows_many v l m A B c d w h HA
 ·obtain ⟨p, pe, pa, hp⟩ : ∃ p pe pa, parseX (showX l) = (p, pe, pa) := ⟨_, _, _, rfl⟩
  by_cases h0 : showX l = []
  ·refine pathShows_few v hv0 hv1 l m A B c d (showX l) _ _ _ p pe pa w hA hB (by omega) (by omega) hsz rfl rfl rfl hp ?_ (.inl h0) C HA
   rw [h0] at hp
   obtain rfl : ([] : List Stp) = p := congrArg Prod.fst hp
   simp
  ·have hq := parse_show h0
   rw [hp] at hq
   obtain rfl : p = l := congrArg Prod.fst hq
   have e2 : pe = 0 := congrArg (fun z => z.2.1) hq
   have e3 : pa = 0 := congrArg (fun z => z.2.2) hq
   exact pathShows_few v hv0 hv1 p m A B c d (showX p) _ _ _ p pe pa w hA hB (by omega) (by omega) hsz rfl rfl rfl hp (by omega) (.inr ⟨by simpa using h0, rfl, e2, e3⟩) C HA
end Go.Proofs.YtikmilcdibldhaaDoor
