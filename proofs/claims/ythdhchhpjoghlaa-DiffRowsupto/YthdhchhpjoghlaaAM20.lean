/- DfvB -/
import Derived.Test.YthdhchhpjoghlaaAM0
import Derived.Test.YthdhchhpjoghlaaAM8
import Derived.Test.YthdhchhpjoghlaaAM18
set_option linter.unusedSimpArgs false
set_option linter.unusedVariables false
namespace Go.Proofs.Ythdhchhpjoghlaa
open Go.RowKit
attribute [local go_sem] Oper.semAt_some
def EditP (e : EdD) (w : World) (r : Ending) (w' : World) : Prop := ∃ Aw cw An cn Ao co, r = .returned (.agg (edC e.kind (.slice Aw e.way.length cw) e.node.1 (.slice An e.node.2.len cn) e.old.1 (.slice Ao e.old.2.len co)).toArray) ∧
 EdS (Fresh9 w.heap.size w') w' (edC e.kind (.slice Aw e.way.length cw) e.node.1 (.slice An e.node.2.len cn) e.old.1 (.slice Ao e.old.2.len co)) e ∧ Below w.heap.size w w'
theorem EditP.less {e : EdD} {w w1 : World} {r : Ending} {w' : World} (h : EditP e w1 r w') (hb : Below w.heap.size w w1) : EditP e w r w' := by
 obtain ⟨Aw, cw, An, cn, Ao, co, h1, h2, h3⟩ := h
 exact ⟨Aw, cw, An, cn, Ao, co, h1, h2.keep (fun _ _ => rfl) (fun g hg => hg.keep rfl hb.size), hb.trans (h3.mono hb.size)⟩
def BxE (w : World) (X Y Z : Array Value) (W : World) : Prop := Below w.heap.size w W ∧ Blk W w.heap.size 27 X ∧ Blk W (w.heap.size + 1) 27 Y ∧ Blk W (w.heap.size + 2) 42 Z ∧ W.heap.size = w.heap.size + 3
theorem bxe_new (w : World) (X Y Z : Array Value) : BxE w X Y Z (((w.alloc (.cells X 27)).alloc (.cells Y 27)).alloc (.cells Z 42)) := by
 have h2 := Blk.new (w.alloc (.cells X 27)) 27 Y
 rw [show (w.alloc (.cells X 27)).heap.size = w.heap.size + 1 by simp] at h2
 have h3 := Blk.new ((w.alloc (.cells X 27)).alloc (.cells Y 27)) 42 Z
 rw [show ((w.alloc (.cells X 27)).alloc (.cells Y 27)).heap.size = w.heap.size + 2 by simp] at h3
 exact ⟨(((Below.refl _ _).alloc (Nat.le_refl _) _).alloc (by simp) _).alloc (by simp; omega) _, ((Blk.new w 27 X).alloc _).alloc _, h2.alloc _, h3, by simp⟩
theorem BxE.drew {w W : World} {X Y Z : Array Value} (h : BxE w X Y Z W) : BxE w X Y Z W.drew := ⟨h.1.drew, h.2.1, h.2.2.1, h.2.2.2.1, h.2.2.2.2⟩
set_option maxRecDepth 100000 in
set_option maxHeartbeats 8000000 in
theorem edit_any (k : Int) (l : List Stp) (v : Value) (x y : Nd) (A B : Option Addr) (c d : Nat) (W : World) (hv : WayV W.heap.size W v l) (hl : l.length ≤ 1000000) (hx : LieN W (ndC x.1 (.slice A x.2.len c)) x) (hy : LieN W (ndC y.1 (.slice B y.2.len d)) y) (hfx : Few9 x) (hfy : Few9 y) :
  Calls Try.prog 40 #[.int .i64 k, v, .agg #[.string (txt x.1.name), .string (txt x.1.key), .int .i64 x.1.kind, .int .u64 (x.1.num : Int), .string (txt x.1.text), .slice A x.2.len c], .agg #[.string (txt y.1.name), .string (txt y.1.key), .int .i64 y.1.kind, .int .u64 (y.1.num : Int), .string (txt y.1.text), .slice B y.2.len d]] W (EditP ⟨k, l, x, y⟩ W) := by
 obtain ⟨Av, cv, rfl⟩ := hv.shape
 have B0 := Lib.hid (bxe_new W #[.string (txt x.1.name), .string (txt x.1.key), .int .i64 x.1.kind, .int .u64 (x.1.num : Int), .string (txt x.1.text), .slice A x.2.len c] #[.string (txt y.1.name), .string (txt y.1.key), .int .i64 y.1.kind, .int .u64 (y.1.num : Int), .string (txt y.1.text), .slice B y.2.len d] #[.int .i64 0, .slice none 0 0, .string ⟨#[]⟩, .string ⟨#[]⟩, .int .i64 0, .int .u64 0, .string ⟨#[]⟩, .slice none 0 0, .string ⟨#[]⟩, .string ⟨#[]⟩, .int .i64 0, .int .u64 0, .string ⟨#[]⟩, .slice none 0 0]).drew
 have HB0 : Hid (Below (W.heap.size + 2) (((W.alloc (.cells #[.string (txt x.1.name), .string (txt x.1.key), .int .i64 x.1.kind, .int .u64 (x.1.num : Int), .string (txt x.1.text), .slice A x.2.len c] 27)).alloc (.cells #[.string (txt y.1.name), .string (txt y.1.key), .int .i64 y.1.kind, .int .u64 (y.1.num : Int), .string (txt y.1.text), .slice B y.2.len d] 27)).alloc (.cells #[.int .i64 0, .slice none 0 0, .string ⟨#[]⟩, .string ⟨#[]⟩, .int .i64 0, .int .u64 0, .string ⟨#[]⟩, .slice none 0 0, .string ⟨#[]⟩, .string ⟨#[]⟩, .int .i64 0, .int .u64 0, .string ⟨#[]⟩, .slice none 0 0] 42)).drew (((W.alloc (.cells #[.string (txt x.1.name), .string (txt x.1.key), .int .i64 x.1.kind, .int .u64 (x.1.num : Int), .string (txt x.1.text), .slice A x.2.len c] 27)).alloc (.cells #[.string (txt y.1.name), .string (txt y.1.key), .int .i64 y.1.kind, .int .u64 (y.1.num : Int), .string (txt y.1.text), .slice B y.2.len d] 27)).alloc (.cells #[.int .i64 0, .slice none 0 0, .string ⟨#[]⟩, .string ⟨#[]⟩, .int .i64 0, .int .u64 0, .string ⟨#[]⟩, .slice none 0 0, .string ⟨#[]⟩, .string ⟨#[]⟩, .int .i64 0, .int .u64 0, .string ⟨#[]⟩, .slice none 0 0] 42)).drew) := Lib.hid (Below.refl _ _)
 have H1 : Hid (Calls Try.prog 48 #[.slice Av l.length cv] (((W.alloc (.cells #[.string (txt x.1.name), .string (txt x.1.key), .int .i64 x.1.kind, .int .u64 (x.1.num : Int), .string (txt x.1.text), .slice A x.2.len c] 27)).alloc (.cells #[.string (txt y.1.name), .string (txt y.1.key), .int .i64 y.1.kind, .int .u64 (y.1.num : Int), .string (txt y.1.text), .slice B y.2.len d] 27)).alloc (.cells #[.int .i64 0, .slice none 0 0, .string ⟨#[]⟩, .string ⟨#[]⟩, .int .i64 0, .int .u64 0, .string ⟨#[]⟩, .slice none 0 0, .string ⟨#[]⟩, .string ⟨#[]⟩, .int .i64 0, .int .u64 0, .string ⟨#[]⟩, .slice none 0 0] 42)).drew (OwnSP l (((W.alloc (.cells #[.string (txt x.1.name), .string (txt x.1.key), .int .i64 x.1.kind, .int .u64 (x.1.num : Int), .string (txt x.1.text), .slice A x.2.len c] 27)).alloc (.cells #[.string (txt y.1.name), .string (txt y.1.key), .int .i64 y.1.kind, .int .u64 (y.1.num : Int), .string (txt y.1.text), .slice B y.2.len d] 27)).alloc (.cells #[.int .i64 0, .slice none 0 0, .string ⟨#[]⟩, .string ⟨#[]⟩, .int .i64 0, .int .u64 0, .string ⟨#[]⟩, .slice none 0 0, .string ⟨#[]⟩, .string ⟨#[]⟩, .int .i64 0, .int .u64 0, .string ⟨#[]⟩, .slice none 0 0] 42)).drew)) := Lib.hid (clones_any l _ _ (hv.below B0.out.1) hl)
 have H2 : Hid (∀ w', Below W.heap.size W w' → Calls Try.prog 49 #[.agg #[.string (txt x.1.name), .string (txt x.1.key), .int .i64 x.1.kind, .int .u64 (x.1.num : Int), .string (txt x.1.text), .slice A x.2.len c]] w' (NewP x w')) := Lib.hid fun w' h => copied_any x A c w' (hx.below h) hfx
 have H3 : Hid (∀ w', Below W.heap.size W w' → Calls Try.prog 49 #[.agg #[.string (txt y.1.name), .string (txt y.1.key), .int .i64 y.1.kind, .int .u64 (y.1.num : Int), .string (txt y.1.text), .slice B y.2.len d]] w' (NewP y w')) := Lib.hid fun w' h => copied_any y B d w' (hy.below h) hfy
 have HP0 : Hid (W.heap.size < W.heap.size + 2) := Lib.hid (by omega)
 have HP1 : Hid (W.heap.size + 1 < W.heap.size + 2) := Lib.hid (by omega)
 clear hv hl hx hy hfx hfy
 go_enter Try.func40, Try.ntmps40
 go_wp2_with fail
 refine wp_region_noPanic ?_
 refine wp_region_held_drew (S := fun _ => True) (by kernel_rfl) trivial (fun hS => ?_)
 refine held_more (S' := fun w' => Below (W.heap.size + 2) (((W.alloc (.cells #[.string (txt x.1.name), .string (txt x.1.key), .int .i64 x.1.kind, .int .u64 (x.1.num : Int), .string (txt x.1.text), .slice A x.2.len c] 27)).alloc (.cells #[.string (txt y.1.name), .string (txt y.1.key), .int .i64 y.1.kind, .int .u64 (y.1.num : Int), .string (txt y.1.text), .slice B y.2.len d] 27)).alloc (.cells #[.int .i64 0, .slice none 0 0, .string ⟨#[]⟩, .string ⟨#[]⟩, .int .i64 0, .int .u64 0, .string ⟨#[]⟩, .slice none 0 0, .string ⟨#[]⟩, .string ⟨#[]⟩, .int .i64 0, .int .u64 0, .string ⟨#[]⟩, .slice none 0 0] 42)).drew w') (fun _ _ => trivial) _ _ _ _ ?_
 replace hS := HB0.out
 refine tkH 0 hS ?_
 refine tkH 1 hS ?_
 refine tkH 3 hS ?_ (hy := fun w hSw => by have q0 := (hSw.cell (p := ⟨W.heap.size, 0, none⟩) HP0.out).trans ((B0.out.2.1.cell 0).trans rfl); have q1 := (hSw.cell (p := ⟨W.heap.size, 1, none⟩) HP0.out).trans ((B0.out.2.1.cell 1).trans rfl); have q2 := (hSw.cell (p := ⟨W.heap.size, 2, none⟩) HP0.out).trans ((B0.out.2.1.cell 2).trans rfl); have q3 := (hSw.cell (p := ⟨W.heap.size, 3, none⟩) HP0.out).trans ((B0.out.2.1.cell 3).trans rfl); have q4 := (hSw.cell (p := ⟨W.heap.size, 4, none⟩) HP0.out).trans ((B0.out.2.1.cell 4).trans rfl); have q5 := (hSw.cell (p := ⟨W.heap.size, 5, none⟩) HP0.out).trans ((B0.out.2.1.cell 5).trans rfl); (go_simp <;> with_reducible rfl))
 refine tkH 5 hS ?_ (hy := fun w hSw => by have q0 := (hSw.cell (p := ⟨W.heap.size + 1, 0, none⟩) HP1.out).trans ((B0.out.2.2.1.cell 0).trans rfl); have q1 := (hSw.cell (p := ⟨W.heap.size + 1, 1, none⟩) HP1.out).trans ((B0.out.2.2.1.cell 1).trans rfl); have q2 := (hSw.cell (p := ⟨W.heap.size + 1, 2, none⟩) HP1.out).trans ((B0.out.2.2.1.cell 2).trans rfl); have q3 := (hSw.cell (p := ⟨W.heap.size + 1, 3, none⟩) HP1.out).trans ((B0.out.2.2.1.cell 3).trans rfl); have q4 := (hSw.cell (p := ⟨W.heap.size + 1, 4, none⟩) HP1.out).trans ((B0.out.2.2.1.cell 4).trans rfl); have q5 := (hSw.cell (p := ⟨W.heap.size + 1, 5, none⟩) HP1.out).trans ((B0.out.2.2.1.cell 5).trans rfl); (go_simp <;> with_reducible rfl))
 refine wpAnyH_ready (rs := [2]) (by kernel_rfl) (by simp) ?_
 refine (AllReadyH.cons (o := ?or_0) ?ir_0 (fun K hK => ?str_0) AllReadyH.nil)
 case ir_0 => simp only [layG]; rfl
 rw [if_pos (by rfl)]
 go_simp
 refine H1.out.mono ?_
 rintro r w1 ⟨v1, rfl, ho1, hb1⟩
 obtain ⟨A1, c1, rfl⟩ := ho1.shape
 have HO1 := Lib.hid ho1
 have K1 := Lib.hid (hb1.mono (Nat.le_of_eq B0.out.2.2.2.2.symm))
 have T1 := Lib.hid (B0.out.1.trans (hb1.mono B0.out.1.size))
 have Z1 := Lib.hid hb1.size
 clear ho1 hb1
 go_wp2_with fail
 refine hK.out _ _ ?sr_0 (fun hS => ?_)
 case sr_0 => (exact K1.out.mono (Nat.le_succ _))
 clear hK K
 (try simp only [Act.put, layS])
 refine wpAnyH_ready (rs := [4]) (by kernel_rfl) (by simp) ?_
 refine (AllReadyH.cons (o := ?or_1) ?ir_1 (fun K hK => ?str_1) AllReadyH.nil)
 case ir_1 => simp only [layG]; rfl
 rw [if_pos (by rfl)]
 go_simp
 refine (H2.out w1 T1.out).mono ?_
 rintro r w2 ⟨A2, c2, rfl, hr2, hb2⟩
 have HR2 := Lib.hid hr2
 have HO2 := Lib.hid (HO1.out.below hb2)
 have K2 := Lib.hid (K1.out.trans (hb2.mono (Nat.le_trans (Nat.le_of_eq B0.out.2.2.2.2.symm) Z1.out)))
 have T2 := Lib.hid (T1.out.trans (hb2.mono T1.out.size))
 have Z2 := Lib.hid hb2.size
 clear hr2 hb2
 go_wp2_with fail
 refine hK.out _ _ ?sr_1 (fun hS => ?_)
 case sr_1 => (exact K2.out.mono (Nat.le_succ _))
 clear hK K
 (try simp only [Act.put, layS])
 refine wpAnyH_ready (rs := [6]) (by kernel_rfl) (by simp) ?_
 refine (AllReadyH.cons (o := ?or_2) ?ir_2 (fun K hK => ?str_2) AllReadyH.nil)
 case ir_2 => simp only [layG]; rfl
 rw [if_pos (by rfl)]
 go_simp
 refine (H3.out w2 T2.out).mono ?_
 rintro r w3 ⟨A3, c3, rfl, hr3, hb3⟩
 have HR3 := Lib.hid hr3
 have HO3 := Lib.hid (HO2.out.below hb3)
 have HQ3 : Hid (RowS (Fresh9 w1.heap.size w3) w3 (.slice A2 x.2.len c2) x.2) := Lib.hid (HR2.out.keep (fun g hg => hb3.block g hg.lt) (fun g hg => hg.keep (hb3.block g hg.lt) (Nat.le_refl _)))
 have K3 := Lib.hid (K2.out.trans (hb3.mono (Nat.le_trans (Nat.le_of_eq B0.out.2.2.2.2.symm) (Nat.le_trans Z1.out Z2.out))))
 have T3 := Lib.hid (T2.out.trans (hb3.mono T2.out.size))
 clear hr3 hb3
 go_wp2_with fail
 refine hK.out _ _ ?sr_2 (fun hS => ?_)
 case sr_2 => (exact K3.out.mono (Nat.le_succ _))
 clear hK K
 (try simp only [Act.put, layS])
 refine tkH 7 hS ?_
 refine wpAnyH_ready (rs := [8]) (by kernel_rfl) (by simp) ?_
 refine (AllReadyH.cons (o := ?or_3) ?ir_3 (fun K hK => ?str_3) AllReadyH.nil)
 case ir_3 => simp only [layG]; rfl
 rw [if_pos (by rfl)]
 have HZ := Lib.hid (B0.out.2.2.2.1.below K3.out (by show _ < _; exact Nat.lt_succ_self _))
 have fz0 : (w3).frozen? ⟨W.heap.size + 2, 0, none⟩ = false := HZ.out.frozen 0
 have fq0 := (HZ.out.cell 0).trans rfl
 have fz1 : (w3).frozen? ⟨W.heap.size + 2, 1, none⟩ = false := HZ.out.frozen 1
 have fq1 := (HZ.out.cell 1).trans rfl
 have fz2 : (w3).frozen? ⟨W.heap.size + 2, 2, none⟩ = false := HZ.out.frozen 2
 have fq2 := (HZ.out.cell 2).trans rfl
 have fz3 : (w3).frozen? ⟨W.heap.size + 2, 3, none⟩ = false := HZ.out.frozen 3
 have fq3 := (HZ.out.cell 3).trans rfl
 have fz4 : (w3).frozen? ⟨W.heap.size + 2, 4, none⟩ = false := HZ.out.frozen 4
 have fq4 := (HZ.out.cell 4).trans rfl
 have fz5 : (w3).frozen? ⟨W.heap.size + 2, 5, none⟩ = false := HZ.out.frozen 5
 have fq5 := (HZ.out.cell 5).trans rfl
 have fz6 : (w3).frozen? ⟨W.heap.size + 2, 6, none⟩ = false := HZ.out.frozen 6
 have fq6 := (HZ.out.cell 6).trans rfl
 have fz7 : (w3).frozen? ⟨W.heap.size + 2, 7, none⟩ = false := HZ.out.frozen 7
 have fq7 := (HZ.out.cell 7).trans rfl
 have fz8 : (w3).frozen? ⟨W.heap.size + 2, 8, none⟩ = false := HZ.out.frozen 8
 have fq8 := (HZ.out.cell 8).trans rfl
 have fz9 : (w3).frozen? ⟨W.heap.size + 2, 9, none⟩ = false := HZ.out.frozen 9
 have fq9 := (HZ.out.cell 9).trans rfl
 have fz10 : (w3).frozen? ⟨W.heap.size + 2, 10, none⟩ = false := HZ.out.frozen 10
 have fq10 := (HZ.out.cell 10).trans rfl
 have fz11 : (w3).frozen? ⟨W.heap.size + 2, 11, none⟩ = false := HZ.out.frozen 11
 have fq11 := (HZ.out.cell 11).trans rfl
 have fz12 : (w3).frozen? ⟨W.heap.size + 2, 12, none⟩ = false := HZ.out.frozen 12
 have fq12 := (HZ.out.cell 12).trans rfl
 have fz13 : (w3).frozen? ⟨W.heap.size + 2, 13, none⟩ = false := HZ.out.frozen 13
 have fq13 := (HZ.out.cell 13).trans rfl
 go_simp
 refine hK.out _ _ ?sr_3 (fun hS => ?_)
 case sr_3 => (exact (K3.out.mono (Nat.le_succ _)).trans (set14_below (w := w3) (b := W.heap.size + 2) (Nat.le_refl _)))
 clear hK K
 (try simp only [Act.put, layS])
 refine wpAnyH_done (by kernel_rfl) ?_ _
 refine NoPanic.normal ?_
 clear hS
 have hsz : W.heap.size + 3 ≤ w3.heap.size := Nat.le_trans (Nat.le_of_eq B0.out.2.2.2.2.symm) K3.out.size
 have HQ : Hid (Blk (set14 w3 (W.heap.size + 2) (.int .i64 k) (.slice A1 l.length c1) (.string (txt x.1.name)) (.string (txt x.1.key)) (.int .i64 x.1.kind) (.int .u64 (x.1.num : Int)) (.string (txt x.1.text)) (.slice A2 x.2.len c2) (.string (txt y.1.name)) (.string (txt y.1.key)) (.int .i64 y.1.kind) (.int .u64 (y.1.num : Int)) (.string (txt y.1.text)) (.slice A3 y.2.len c3)) (W.heap.size + 2) 42 #[.int .i64 k, .slice A1 l.length c1, .string (txt x.1.name), .string (txt x.1.key), .int .i64 x.1.kind, .int .u64 (x.1.num : Int), .string (txt x.1.text), .slice A2 x.2.len c2, .string (txt y.1.name), .string (txt y.1.key), .int .i64 y.1.kind, .int .u64 (y.1.num : Int), .string (txt y.1.text), .slice A3 y.2.len c3]) := Lib.hid (HZ.out.set14 _ _ _ _ _ _ _ _ _ _ _ _ _ _)
 have HP : Hid (EditP ⟨k, l, x, y⟩ W (.returned (.agg #[.int .i64 k, .slice A1 l.length c1, .string (txt x.1.name), .string (txt x.1.key), .int .i64 x.1.kind, .int .u64 (x.1.num : Int), .string (txt x.1.text), .slice A2 x.2.len c2, .string (txt y.1.name), .string (txt y.1.key), .int .i64 y.1.kind, .int .u64 (y.1.num : Int), .string (txt y.1.text), .slice A3 y.2.len c3])) (set14 w3 (W.heap.size + 2) (.int .i64 k) (.slice A1 l.length c1) (.string (txt x.1.name)) (.string (txt x.1.key)) (.int .i64 x.1.kind) (.int .u64 (x.1.num : Int)) (.string (txt x.1.text)) (.slice A2 x.2.len c2) (.string (txt y.1.name)) (.string (txt y.1.key)) (.int .i64 y.1.kind) (.int .u64 (y.1.num : Int)) (.string (txt y.1.text)) (.slice A3 y.2.len c3))) := Lib.hid (by
  have hk : ∀ g, W.heap.size + 3 ≤ g → (set14 w3 (W.heap.size + 2) (.int .i64 k) (.slice A1 l.length c1) (.string (txt x.1.name)) (.string (txt x.1.key)) (.int .i64 x.1.kind) (.int .u64 (x.1.num : Int)) (.string (txt x.1.text)) (.slice A2 x.2.len c2) (.string (txt y.1.name)) (.string (txt y.1.key)) (.int .i64 y.1.kind) (.int .u64 (y.1.num : Int)) (.string (txt y.1.text)) (.slice A3 y.2.len c3)).heap[g]? = w3.heap[g]? := fun g hg => set14_other (by omega)
  have e0 := B0.out.2.2.2.2
  have z1 := Z1.out
  have z2 := Z2.out
  refine ⟨A1, c1, A2, c2, A3, c3, rfl, ⟨_, _, _, rfl, HO3.out.wf.keep (fun g hg => hk g (by have := hg.1; omega)) (fun g hg => hg.keep (hk g (by have := hg.1; omega)) (by omega)), HQ3.out.keep (fun g hg => hk g (by have := hg.1; omega)) (fun g hg => hg.keep (hk g (by have := hg.1; omega)) (by omega)), HR3.out.keep (fun g hg => hk g (by have := hg.1; omega)) (fun g hg => hg.keep (hk g (by have := hg.1; omega)) (by omega))⟩, T3.out.trans (set14_below (Nat.le_add_right _ _))⟩)
 have V := Veil16.mk (And.intro HQ HP)
 clear hsz HQ HP
 go_wp2
 refine bodyPost_ret (results_cell_row rfl _ _ (W.heap.size + 2) 42 _ (0, 0) _ rfl V.out.1.out Try.underlying42 rfl (by kernel_rfl)) rfl ?_
 exact V.out.2.out
end Go.Proofs.Ythdhchhpjoghlaa
