/- DfvC -/
import Derived.Test.YthdhchhpjoghlaaAM0
import Derived.Test.YthdhchhpjoghlaaAM20
set_option linter.unusedSimpArgs false
set_option linter.unusedVariables false
namespace Go.Proofs.Ythdhchhpjoghlaa
open Go.RowKit
attribute [local go_sem] Oper.semAt_some
def BxD (w : World) (X Z : Array Value) (W : World) : Prop := Below w.heap.size w W ∧ Blk W w.heap.size 27 X ∧ Blk W (w.heap.size + 1) 42 Z ∧ W.heap.size = w.heap.size + 2
theorem bxd_new (w : World) (X Z : Array Value) : BxD w X Z ((w.alloc (.cells X 27)).alloc (.cells Z 42)) := by
 have h2 := Blk.new (w.alloc (.cells X 27)) 42 Z
 rw [show (w.alloc (.cells X 27)).heap.size = w.heap.size + 1 by simp] at h2
 exact ⟨((Below.refl _ _).alloc (Nat.le_refl _) _).alloc (by simp) _, (Blk.new w 27 X).alloc _, h2, by simp⟩
set_option maxRecDepth 100000 in
set_option maxHeartbeats 8000000 in
theorem deleted_any (l : List Stp) (v : Value) (x : Nd) (A : Option Addr) (c : Nat) (W : World) (hv : WayV W.heap.size W v l) (hl : l.length ≤ 1000000) (hx : LieN W (ndC x.1 (.slice A x.2.len c)) x) (hfx : Few9 x) :
  Calls Try.prog 26 #[v, .agg #[.string (txt x.1.name), .string (txt x.1.key), .int .i64 x.1.kind, .int .u64 (x.1.num : Int), .string (txt x.1.text), .slice A x.2.len c]] W (EditP ⟨2, l, noN, x⟩ W) := by
 obtain ⟨Av, cv, rfl⟩ := hv.shape
 have B0 := Lib.hid (bxd_new W #[.string (txt x.1.name), .string (txt x.1.key), .int .i64 x.1.kind, .int .u64 (x.1.num : Int), .string (txt x.1.text), .slice A x.2.len c] #[.int .i64 0, .slice none 0 0, .string ⟨#[]⟩, .string ⟨#[]⟩, .int .i64 0, .int .u64 0, .string ⟨#[]⟩, .slice none 0 0, .string ⟨#[]⟩, .string ⟨#[]⟩, .int .i64 0, .int .u64 0, .string ⟨#[]⟩, .slice none 0 0])
 have HE : Hid (Calls Try.prog 40 #[.int .i64 2, .slice Av l.length cv, .agg #[.string ⟨#[]⟩, .string ⟨#[]⟩, .int .i64 0, .int .u64 0, .string ⟨#[]⟩, .slice none 0 0], .agg #[.string (txt x.1.name), .string (txt x.1.key), .int .i64 x.1.kind, .int .u64 (x.1.num : Int), .string (txt x.1.text), .slice A x.2.len c]] ((W.alloc (.cells #[.string (txt x.1.name), .string (txt x.1.key), .int .i64 x.1.kind, .int .u64 (x.1.num : Int), .string (txt x.1.text), .slice A x.2.len c] 27)).alloc (.cells #[.int .i64 0, .slice none 0 0, .string ⟨#[]⟩, .string ⟨#[]⟩, .int .i64 0, .int .u64 0, .string ⟨#[]⟩, .slice none 0 0, .string ⟨#[]⟩, .string ⟨#[]⟩, .int .i64 0, .int .u64 0, .string ⟨#[]⟩, .slice none 0 0] 42)) (EditP ⟨2, l, noN, x⟩ ((W.alloc (.cells #[.string (txt x.1.name), .string (txt x.1.key), .int .i64 x.1.kind, .int .u64 (x.1.num : Int), .string (txt x.1.text), .slice A x.2.len c] 27)).alloc (.cells #[.int .i64 0, .slice none 0 0, .string ⟨#[]⟩, .string ⟨#[]⟩, .int .i64 0, .int .u64 0, .string ⟨#[]⟩, .slice none 0 0, .string ⟨#[]⟩, .string ⟨#[]⟩, .int .i64 0, .int .u64 0, .string ⟨#[]⟩, .slice none 0 0] 42)))) := Lib.hid (edit_any 2 l _ noN x none A 0 c ((W.alloc (.cells #[.string (txt x.1.name), .string (txt x.1.key), .int .i64 x.1.kind, .int .u64 (x.1.num : Int), .string (txt x.1.text), .slice A x.2.len c] 27)).alloc (.cells #[.int .i64 0, .slice none 0 0, .string ⟨#[]⟩, .string ⟨#[]⟩, .int .i64 0, .int .u64 0, .string ⟨#[]⟩, .slice none 0 0, .string ⟨#[]⟩, .string ⟨#[]⟩, .int .i64 0, .int .u64 0, .string ⟨#[]⟩, .slice none 0 0] 42)) (hv.below B0.out.1) hl (LieB.zero _ _) (hx.below B0.out.1) (by simp [Few9, noN, Fr.size]) hfx)
 clear hv hl hx hfx
 have q0x : ((W.alloc (.cells #[.string (txt x.1.name), .string (txt x.1.key), .int .i64 x.1.kind, .int .u64 (x.1.num : Int), .string (txt x.1.text), .slice A x.2.len c] 27)).alloc (.cells #[.int .i64 0, .slice none 0 0, .string ⟨#[]⟩, .string ⟨#[]⟩, .int .i64 0, .int .u64 0, .string ⟨#[]⟩, .slice none 0 0, .string ⟨#[]⟩, .string ⟨#[]⟩, .int .i64 0, .int .u64 0, .string ⟨#[]⟩, .slice none 0 0] 42)).cell? ⟨W.heap.size, 0, none⟩ = _ := (B0.out.2.1.cell 0).trans rfl
 have q1x : ((W.alloc (.cells #[.string (txt x.1.name), .string (txt x.1.key), .int .i64 x.1.kind, .int .u64 (x.1.num : Int), .string (txt x.1.text), .slice A x.2.len c] 27)).alloc (.cells #[.int .i64 0, .slice none 0 0, .string ⟨#[]⟩, .string ⟨#[]⟩, .int .i64 0, .int .u64 0, .string ⟨#[]⟩, .slice none 0 0, .string ⟨#[]⟩, .string ⟨#[]⟩, .int .i64 0, .int .u64 0, .string ⟨#[]⟩, .slice none 0 0] 42)).cell? ⟨W.heap.size, 1, none⟩ = _ := (B0.out.2.1.cell 1).trans rfl
 have q2x : ((W.alloc (.cells #[.string (txt x.1.name), .string (txt x.1.key), .int .i64 x.1.kind, .int .u64 (x.1.num : Int), .string (txt x.1.text), .slice A x.2.len c] 27)).alloc (.cells #[.int .i64 0, .slice none 0 0, .string ⟨#[]⟩, .string ⟨#[]⟩, .int .i64 0, .int .u64 0, .string ⟨#[]⟩, .slice none 0 0, .string ⟨#[]⟩, .string ⟨#[]⟩, .int .i64 0, .int .u64 0, .string ⟨#[]⟩, .slice none 0 0] 42)).cell? ⟨W.heap.size, 2, none⟩ = _ := (B0.out.2.1.cell 2).trans rfl
 have q3x : ((W.alloc (.cells #[.string (txt x.1.name), .string (txt x.1.key), .int .i64 x.1.kind, .int .u64 (x.1.num : Int), .string (txt x.1.text), .slice A x.2.len c] 27)).alloc (.cells #[.int .i64 0, .slice none 0 0, .string ⟨#[]⟩, .string ⟨#[]⟩, .int .i64 0, .int .u64 0, .string ⟨#[]⟩, .slice none 0 0, .string ⟨#[]⟩, .string ⟨#[]⟩, .int .i64 0, .int .u64 0, .string ⟨#[]⟩, .slice none 0 0] 42)).cell? ⟨W.heap.size, 3, none⟩ = _ := (B0.out.2.1.cell 3).trans rfl
 have q4x : ((W.alloc (.cells #[.string (txt x.1.name), .string (txt x.1.key), .int .i64 x.1.kind, .int .u64 (x.1.num : Int), .string (txt x.1.text), .slice A x.2.len c] 27)).alloc (.cells #[.int .i64 0, .slice none 0 0, .string ⟨#[]⟩, .string ⟨#[]⟩, .int .i64 0, .int .u64 0, .string ⟨#[]⟩, .slice none 0 0, .string ⟨#[]⟩, .string ⟨#[]⟩, .int .i64 0, .int .u64 0, .string ⟨#[]⟩, .slice none 0 0] 42)).cell? ⟨W.heap.size, 4, none⟩ = _ := (B0.out.2.1.cell 4).trans rfl
 have q5x : ((W.alloc (.cells #[.string (txt x.1.name), .string (txt x.1.key), .int .i64 x.1.kind, .int .u64 (x.1.num : Int), .string (txt x.1.text), .slice A x.2.len c] 27)).alloc (.cells #[.int .i64 0, .slice none 0 0, .string ⟨#[]⟩, .string ⟨#[]⟩, .int .i64 0, .int .u64 0, .string ⟨#[]⟩, .slice none 0 0, .string ⟨#[]⟩, .string ⟨#[]⟩, .int .i64 0, .int .u64 0, .string ⟨#[]⟩, .slice none 0 0] 42)).cell? ⟨W.heap.size, 5, none⟩ = _ := (B0.out.2.1.cell 5).trans rfl
 go_enter Try.func26, Try.ntmps26
 go_wp2_with fail
 refine HE.out.mono ?_
 rintro r w3 ⟨A1, c1, A2, c2, A3, c3, hr, hE, hB⟩
 have hr2 : r = .returned (.agg #[.int .i64 2, .slice A1 l.length c1, .string ⟨#[]⟩, .string ⟨#[]⟩, .int .i64 0, .int .u64 0, .string ⟨#[]⟩, .slice A2 0 c2, .string (txt x.1.name), .string (txt x.1.key), .int .i64 x.1.kind, .int .u64 (x.1.num : Int), .string (txt x.1.text), .slice A3 x.2.len c3]) := hr
 subst hr2
 have HZ := Lib.hid (B0.out.2.2.1.below hB B0.out.2.2.1.lt)
 have HQ : Hid (Blk (set14 w3 (W.heap.size + 1) (.int .i64 2) (.slice A1 l.length c1) (.string ⟨#[]⟩) (.string ⟨#[]⟩) (.int .i64 0) (.int .u64 0) (.string ⟨#[]⟩) (.slice A2 0 c2) (.string (txt x.1.name)) (.string (txt x.1.key)) (.int .i64 x.1.kind) (.int .u64 (x.1.num : Int)) (.string (txt x.1.text)) (.slice A3 x.2.len c3)) (W.heap.size + 1) 42 #[.int .i64 2, .slice A1 l.length c1, .string ⟨#[]⟩, .string ⟨#[]⟩, .int .i64 0, .int .u64 0, .string ⟨#[]⟩, .slice A2 0 c2, .string (txt x.1.name), .string (txt x.1.key), .int .i64 x.1.kind, .int .u64 (x.1.num : Int), .string (txt x.1.text), .slice A3 x.2.len c3]) := Lib.hid (HZ.out.set14 _ _ _ _ _ _ _ _ _ _ _ _ _ _)
 have HP : Hid (EditP ⟨2, l, noN, x⟩ W (.returned (.agg #[.int .i64 2, .slice A1 l.length c1, .string ⟨#[]⟩, .string ⟨#[]⟩, .int .i64 0, .int .u64 0, .string ⟨#[]⟩, .slice A2 0 c2, .string (txt x.1.name), .string (txt x.1.key), .int .i64 x.1.kind, .int .u64 (x.1.num : Int), .string (txt x.1.text), .slice A3 x.2.len c3])) (set14 w3 (W.heap.size + 1) (.int .i64 2) (.slice A1 l.length c1) (.string ⟨#[]⟩) (.string ⟨#[]⟩) (.int .i64 0) (.int .u64 0) (.string ⟨#[]⟩) (.slice A2 0 c2) (.string (txt x.1.name)) (.string (txt x.1.key)) (.int .i64 x.1.kind) (.int .u64 (x.1.num : Int)) (.string (txt x.1.text)) (.slice A3 x.2.len c3))) := Lib.hid (by
  have hs := B0.out.2.2.2
  exact ⟨A1, c1, A2, c2, A3, c3, rfl, hE.keep (fun g hg => set14_other (by have := hg.1; omega)) (fun g hg => hg.keep (set14_other (by have := hg.1; omega)) (by omega)), (B0.out.1.trans (hB.mono B0.out.1.size)).trans (set14_below (Nat.le_add_right _ _))⟩)
 have V := Veil16.mk (And.intro HQ HP)
 clear hr hE hB HQ HP HE q0x q1x q2x q3x q4x q5x
 have fz0 : (w3).frozen? ⟨W.heap.size + 1, 0, none⟩ = false := HZ.out.frozen 0
 have fq0 := (HZ.out.cell 0).trans rfl
 have fz1 : (w3).frozen? ⟨W.heap.size + 1, 1, none⟩ = false := HZ.out.frozen 1
 have fq1 := (HZ.out.cell 1).trans rfl
 have fz2 : (w3).frozen? ⟨W.heap.size + 1, 2, none⟩ = false := HZ.out.frozen 2
 have fq2 := (HZ.out.cell 2).trans rfl
 have fz3 : (w3).frozen? ⟨W.heap.size + 1, 3, none⟩ = false := HZ.out.frozen 3
 have fq3 := (HZ.out.cell 3).trans rfl
 have fz4 : (w3).frozen? ⟨W.heap.size + 1, 4, none⟩ = false := HZ.out.frozen 4
 have fq4 := (HZ.out.cell 4).trans rfl
 have fz5 : (w3).frozen? ⟨W.heap.size + 1, 5, none⟩ = false := HZ.out.frozen 5
 have fq5 := (HZ.out.cell 5).trans rfl
 have fz6 : (w3).frozen? ⟨W.heap.size + 1, 6, none⟩ = false := HZ.out.frozen 6
 have fq6 := (HZ.out.cell 6).trans rfl
 have fz7 : (w3).frozen? ⟨W.heap.size + 1, 7, none⟩ = false := HZ.out.frozen 7
 have fq7 := (HZ.out.cell 7).trans rfl
 have fz8 : (w3).frozen? ⟨W.heap.size + 1, 8, none⟩ = false := HZ.out.frozen 8
 have fq8 := (HZ.out.cell 8).trans rfl
 have fz9 : (w3).frozen? ⟨W.heap.size + 1, 9, none⟩ = false := HZ.out.frozen 9
 have fq9 := (HZ.out.cell 9).trans rfl
 have fz10 : (w3).frozen? ⟨W.heap.size + 1, 10, none⟩ = false := HZ.out.frozen 10
 have fq10 := (HZ.out.cell 10).trans rfl
 have fz11 : (w3).frozen? ⟨W.heap.size + 1, 11, none⟩ = false := HZ.out.frozen 11
 have fq11 := (HZ.out.cell 11).trans rfl
 have fz12 : (w3).frozen? ⟨W.heap.size + 1, 12, none⟩ = false := HZ.out.frozen 12
 have fq12 := (HZ.out.cell 12).trans rfl
 have fz13 : (w3).frozen? ⟨W.heap.size + 1, 13, none⟩ = false := HZ.out.frozen 13
 have fq13 := (HZ.out.cell 13).trans rfl
 clear HZ
 go_wp2
 refine bodyPost_ret (results_cell_row rfl _ _ (W.heap.size + 1) 42 _ (0, 0) _ rfl V.out.1.out Try.underlying42 rfl (by kernel_rfl)) rfl ?_
 exact V.out.2.out
set_option maxRecDepth 100000 in
set_option maxHeartbeats 8000000 in
theorem created_any (l : List Stp) (v : Value) (x : Nd) (A : Option Addr) (c : Nat) (W : World) (hv : WayV W.heap.size W v l) (hl : l.length ≤ 1000000) (hx : LieN W (ndC x.1 (.slice A x.2.len c)) x) (hfx : Few9 x) :
  Calls Try.prog 27 #[v, .agg #[.string (txt x.1.name), .string (txt x.1.key), .int .i64 x.1.kind, .int .u64 (x.1.num : Int), .string (txt x.1.text), .slice A x.2.len c]] W (EditP ⟨1, l, x, noN⟩ W) := by
 obtain ⟨Av, cv, rfl⟩ := hv.shape
 have B0 := Lib.hid (bxd_new W #[.string (txt x.1.name), .string (txt x.1.key), .int .i64 x.1.kind, .int .u64 (x.1.num : Int), .string (txt x.1.text), .slice A x.2.len c] #[.int .i64 0, .slice none 0 0, .string ⟨#[]⟩, .string ⟨#[]⟩, .int .i64 0, .int .u64 0, .string ⟨#[]⟩, .slice none 0 0, .string ⟨#[]⟩, .string ⟨#[]⟩, .int .i64 0, .int .u64 0, .string ⟨#[]⟩, .slice none 0 0])
 have HE : Hid (Calls Try.prog 40 #[.int .i64 1, .slice Av l.length cv, .agg #[.string (txt x.1.name), .string (txt x.1.key), .int .i64 x.1.kind, .int .u64 (x.1.num : Int), .string (txt x.1.text), .slice A x.2.len c], .agg #[.string ⟨#[]⟩, .string ⟨#[]⟩, .int .i64 0, .int .u64 0, .string ⟨#[]⟩, .slice none 0 0]] ((W.alloc (.cells #[.string (txt x.1.name), .string (txt x.1.key), .int .i64 x.1.kind, .int .u64 (x.1.num : Int), .string (txt x.1.text), .slice A x.2.len c] 27)).alloc (.cells #[.int .i64 0, .slice none 0 0, .string ⟨#[]⟩, .string ⟨#[]⟩, .int .i64 0, .int .u64 0, .string ⟨#[]⟩, .slice none 0 0, .string ⟨#[]⟩, .string ⟨#[]⟩, .int .i64 0, .int .u64 0, .string ⟨#[]⟩, .slice none 0 0] 42)) (EditP ⟨1, l, x, noN⟩ ((W.alloc (.cells #[.string (txt x.1.name), .string (txt x.1.key), .int .i64 x.1.kind, .int .u64 (x.1.num : Int), .string (txt x.1.text), .slice A x.2.len c] 27)).alloc (.cells #[.int .i64 0, .slice none 0 0, .string ⟨#[]⟩, .string ⟨#[]⟩, .int .i64 0, .int .u64 0, .string ⟨#[]⟩, .slice none 0 0, .string ⟨#[]⟩, .string ⟨#[]⟩, .int .i64 0, .int .u64 0, .string ⟨#[]⟩, .slice none 0 0] 42)))) := Lib.hid (edit_any 1 l _ x noN A none c 0 ((W.alloc (.cells #[.string (txt x.1.name), .string (txt x.1.key), .int .i64 x.1.kind, .int .u64 (x.1.num : Int), .string (txt x.1.text), .slice A x.2.len c] 27)).alloc (.cells #[.int .i64 0, .slice none 0 0, .string ⟨#[]⟩, .string ⟨#[]⟩, .int .i64 0, .int .u64 0, .string ⟨#[]⟩, .slice none 0 0, .string ⟨#[]⟩, .string ⟨#[]⟩, .int .i64 0, .int .u64 0, .string ⟨#[]⟩, .slice none 0 0] 42)) (hv.below B0.out.1) hl (hx.below B0.out.1) (LieB.zero _ _) hfx (by simp [Few9, noN, Fr.size]))
 clear hv hl hx hfx
 have q0x : ((W.alloc (.cells #[.string (txt x.1.name), .string (txt x.1.key), .int .i64 x.1.kind, .int .u64 (x.1.num : Int), .string (txt x.1.text), .slice A x.2.len c] 27)).alloc (.cells #[.int .i64 0, .slice none 0 0, .string ⟨#[]⟩, .string ⟨#[]⟩, .int .i64 0, .int .u64 0, .string ⟨#[]⟩, .slice none 0 0, .string ⟨#[]⟩, .string ⟨#[]⟩, .int .i64 0, .int .u64 0, .string ⟨#[]⟩, .slice none 0 0] 42)).cell? ⟨W.heap.size, 0, none⟩ = _ := (B0.out.2.1.cell 0).trans rfl
 have q1x : ((W.alloc (.cells #[.string (txt x.1.name), .string (txt x.1.key), .int .i64 x.1.kind, .int .u64 (x.1.num : Int), .string (txt x.1.text), .slice A x.2.len c] 27)).alloc (.cells #[.int .i64 0, .slice none 0 0, .string ⟨#[]⟩, .string ⟨#[]⟩, .int .i64 0, .int .u64 0, .string ⟨#[]⟩, .slice none 0 0, .string ⟨#[]⟩, .string ⟨#[]⟩, .int .i64 0, .int .u64 0, .string ⟨#[]⟩, .slice none 0 0] 42)).cell? ⟨W.heap.size, 1, none⟩ = _ := (B0.out.2.1.cell 1).trans rfl
 have q2x : ((W.alloc (.cells #[.string (txt x.1.name), .string (txt x.1.key), .int .i64 x.1.kind, .int .u64 (x.1.num : Int), .string (txt x.1.text), .slice A x.2.len c] 27)).alloc (.cells #[.int .i64 0, .slice none 0 0, .string ⟨#[]⟩, .string ⟨#[]⟩, .int .i64 0, .int .u64 0, .string ⟨#[]⟩, .slice none 0 0, .string ⟨#[]⟩, .string ⟨#[]⟩, .int .i64 0, .int .u64 0, .string ⟨#[]⟩, .slice none 0 0] 42)).cell? ⟨W.heap.size, 2, none⟩ = _ := (B0.out.2.1.cell 2).trans rfl
 have q3x : ((W.alloc (.cells #[.string (txt x.1.name), .string (txt x.1.key), .int .i64 x.1.kind, .int .u64 (x.1.num : Int), .string (txt x.1.text), .slice A x.2.len c] 27)).alloc (.cells #[.int .i64 0, .slice none 0 0, .string ⟨#[]⟩, .string ⟨#[]⟩, .int .i64 0, .int .u64 0, .string ⟨#[]⟩, .slice none 0 0, .string ⟨#[]⟩, .string ⟨#[]⟩, .int .i64 0, .int .u64 0, .string ⟨#[]⟩, .slice none 0 0] 42)).cell? ⟨W.heap.size, 3, none⟩ = _ := (B0.out.2.1.cell 3).trans rfl
 have q4x : ((W.alloc (.cells #[.string (txt x.1.name), .string (txt x.1.key), .int .i64 x.1.kind, .int .u64 (x.1.num : Int), .string (txt x.1.text), .slice A x.2.len c] 27)).alloc (.cells #[.int .i64 0, .slice none 0 0, .string ⟨#[]⟩, .string ⟨#[]⟩, .int .i64 0, .int .u64 0, .string ⟨#[]⟩, .slice none 0 0, .string ⟨#[]⟩, .string ⟨#[]⟩, .int .i64 0, .int .u64 0, .string ⟨#[]⟩, .slice none 0 0] 42)).cell? ⟨W.heap.size, 4, none⟩ = _ := (B0.out.2.1.cell 4).trans rfl
 have q5x : ((W.alloc (.cells #[.string (txt x.1.name), .string (txt x.1.key), .int .i64 x.1.kind, .int .u64 (x.1.num : Int), .string (txt x.1.text), .slice A x.2.len c] 27)).alloc (.cells #[.int .i64 0, .slice none 0 0, .string ⟨#[]⟩, .string ⟨#[]⟩, .int .i64 0, .int .u64 0, .string ⟨#[]⟩, .slice none 0 0, .string ⟨#[]⟩, .string ⟨#[]⟩, .int .i64 0, .int .u64 0, .string ⟨#[]⟩, .slice none 0 0] 42)).cell? ⟨W.heap.size, 5, none⟩ = _ := (B0.out.2.1.cell 5).trans rfl
 go_enter Try.func27, Try.ntmps27
 go_wp2_with fail
 refine HE.out.mono ?_
 rintro r w3 ⟨A1, c1, A2, c2, A3, c3, hr, hE, hB⟩
 have hr2 : r = .returned (.agg #[.int .i64 1, .slice A1 l.length c1, .string (txt x.1.name), .string (txt x.1.key), .int .i64 x.1.kind, .int .u64 (x.1.num : Int), .string (txt x.1.text), .slice A2 x.2.len c2, .string ⟨#[]⟩, .string ⟨#[]⟩, .int .i64 0, .int .u64 0, .string ⟨#[]⟩, .slice A3 0 c3]) := hr
 subst hr2
 have HZ := Lib.hid (B0.out.2.2.1.below hB B0.out.2.2.1.lt)
 have HQ : Hid (Blk (set14 w3 (W.heap.size + 1) (.int .i64 1) (.slice A1 l.length c1) (.string (txt x.1.name)) (.string (txt x.1.key)) (.int .i64 x.1.kind) (.int .u64 (x.1.num : Int)) (.string (txt x.1.text)) (.slice A2 x.2.len c2) (.string ⟨#[]⟩) (.string ⟨#[]⟩) (.int .i64 0) (.int .u64 0) (.string ⟨#[]⟩) (.slice A3 0 c3)) (W.heap.size + 1) 42 #[.int .i64 1, .slice A1 l.length c1, .string (txt x.1.name), .string (txt x.1.key), .int .i64 x.1.kind, .int .u64 (x.1.num : Int), .string (txt x.1.text), .slice A2 x.2.len c2, .string ⟨#[]⟩, .string ⟨#[]⟩, .int .i64 0, .int .u64 0, .string ⟨#[]⟩, .slice A3 0 c3]) := Lib.hid (HZ.out.set14 _ _ _ _ _ _ _ _ _ _ _ _ _ _)
 have HP : Hid (EditP ⟨1, l, x, noN⟩ W (.returned (.agg #[.int .i64 1, .slice A1 l.length c1, .string (txt x.1.name), .string (txt x.1.key), .int .i64 x.1.kind, .int .u64 (x.1.num : Int), .string (txt x.1.text), .slice A2 x.2.len c2, .string ⟨#[]⟩, .string ⟨#[]⟩, .int .i64 0, .int .u64 0, .string ⟨#[]⟩, .slice A3 0 c3])) (set14 w3 (W.heap.size + 1) (.int .i64 1) (.slice A1 l.length c1) (.string (txt x.1.name)) (.string (txt x.1.key)) (.int .i64 x.1.kind) (.int .u64 (x.1.num : Int)) (.string (txt x.1.text)) (.slice A2 x.2.len c2) (.string ⟨#[]⟩) (.string ⟨#[]⟩) (.int .i64 0) (.int .u64 0) (.string ⟨#[]⟩) (.slice A3 0 c3))) := Lib.hid (by
  have hs := B0.out.2.2.2
  exact ⟨A1, c1, A2, c2, A3, c3, rfl, hE.keep (fun g hg => set14_other (by have := hg.1; omega)) (fun g hg => hg.keep (set14_other (by have := hg.1; omega)) (by omega)), (B0.out.1.trans (hB.mono B0.out.1.size)).trans (set14_below (Nat.le_add_right _ _))⟩)
 have V := Veil16.mk (And.intro HQ HP)
 clear hr hE hB HQ HP HE q0x q1x q2x q3x q4x q5x
 have fz0 : (w3).frozen? ⟨W.heap.size + 1, 0, none⟩ = false := HZ.out.frozen 0
 have fq0 := (HZ.out.cell 0).trans rfl
 have fz1 : (w3).frozen? ⟨W.heap.size + 1, 1, none⟩ = false := HZ.out.frozen 1
 have fq1 := (HZ.out.cell 1).trans rfl
 have fz2 : (w3).frozen? ⟨W.heap.size + 1, 2, none⟩ = false := HZ.out.frozen 2
 have fq2 := (HZ.out.cell 2).trans rfl
 have fz3 : (w3).frozen? ⟨W.heap.size + 1, 3, none⟩ = false := HZ.out.frozen 3
 have fq3 := (HZ.out.cell 3).trans rfl
 have fz4 : (w3).frozen? ⟨W.heap.size + 1, 4, none⟩ = false := HZ.out.frozen 4
 have fq4 := (HZ.out.cell 4).trans rfl
 have fz5 : (w3).frozen? ⟨W.heap.size + 1, 5, none⟩ = false := HZ.out.frozen 5
 have fq5 := (HZ.out.cell 5).trans rfl
 have fz6 : (w3).frozen? ⟨W.heap.size + 1, 6, none⟩ = false := HZ.out.frozen 6
 have fq6 := (HZ.out.cell 6).trans rfl
 have fz7 : (w3).frozen? ⟨W.heap.size + 1, 7, none⟩ = false := HZ.out.frozen 7
 have fq7 := (HZ.out.cell 7).trans rfl
 have fz8 : (w3).frozen? ⟨W.heap.size + 1, 8, none⟩ = false := HZ.out.frozen 8
 have fq8 := (HZ.out.cell 8).trans rfl
 have fz9 : (w3).frozen? ⟨W.heap.size + 1, 9, none⟩ = false := HZ.out.frozen 9
 have fq9 := (HZ.out.cell 9).trans rfl
 have fz10 : (w3).frozen? ⟨W.heap.size + 1, 10, none⟩ = false := HZ.out.frozen 10
 have fq10 := (HZ.out.cell 10).trans rfl
 have fz11 : (w3).frozen? ⟨W.heap.size + 1, 11, none⟩ = false := HZ.out.frozen 11
 have fq11 := (HZ.out.cell 11).trans rfl
 have fz12 : (w3).frozen? ⟨W.heap.size + 1, 12, none⟩ = false := HZ.out.frozen 12
 have fq12 := (HZ.out.cell 12).trans rfl
 have fz13 : (w3).frozen? ⟨W.heap.size + 1, 13, none⟩ = false := HZ.out.frozen 13
 have fq13 := (HZ.out.cell 13).trans rfl
 clear HZ
 go_wp2
 refine bodyPost_ret (results_cell_row rfl _ _ (W.heap.size + 1) 42 _ (0, 0) _ rfl V.out.1.out Try.underlying42 rfl (by kernel_rfl)) rfl ?_
 exact V.out.2.out
set_option maxRecDepth 100000 in
set_option maxHeartbeats 8000000 in
theorem replaced_any (l : List Stp) (v : Value) (x y : Nd) (A B : Option Addr) (c d : Nat) (W : World) (hv : WayV W.heap.size W v l) (hl : l.length ≤ 1000000) (hx : LieN W (ndC x.1 (.slice A x.2.len c)) x) (hfx : Few9 x) (hy : LieN W (ndC y.1 (.slice B y.2.len d)) y) (hfy : Few9 y) :
  Calls Try.prog 29 #[v, .agg #[.string (txt x.1.name), .string (txt x.1.key), .int .i64 x.1.kind, .int .u64 (x.1.num : Int), .string (txt x.1.text), .slice A x.2.len c], .agg #[.string (txt y.1.name), .string (txt y.1.key), .int .i64 y.1.kind, .int .u64 (y.1.num : Int), .string (txt y.1.text), .slice B y.2.len d]] W (EditP ⟨3, l, x, y⟩ W) := by
 obtain ⟨Av, cv, rfl⟩ := hv.shape
 have B0 := Lib.hid (bxe_new W #[.string (txt x.1.name), .string (txt x.1.key), .int .i64 x.1.kind, .int .u64 (x.1.num : Int), .string (txt x.1.text), .slice A x.2.len c] #[.string (txt y.1.name), .string (txt y.1.key), .int .i64 y.1.kind, .int .u64 (y.1.num : Int), .string (txt y.1.text), .slice B y.2.len d] #[.int .i64 0, .slice none 0 0, .string ⟨#[]⟩, .string ⟨#[]⟩, .int .i64 0, .int .u64 0, .string ⟨#[]⟩, .slice none 0 0, .string ⟨#[]⟩, .string ⟨#[]⟩, .int .i64 0, .int .u64 0, .string ⟨#[]⟩, .slice none 0 0])
 have HE : Hid (Calls Try.prog 40 #[.int .i64 3, .slice Av l.length cv, .agg #[.string (txt x.1.name), .string (txt x.1.key), .int .i64 x.1.kind, .int .u64 (x.1.num : Int), .string (txt x.1.text), .slice A x.2.len c], .agg #[.string (txt y.1.name), .string (txt y.1.key), .int .i64 y.1.kind, .int .u64 (y.1.num : Int), .string (txt y.1.text), .slice B y.2.len d]] (((W.alloc (.cells #[.string (txt x.1.name), .string (txt x.1.key), .int .i64 x.1.kind, .int .u64 (x.1.num : Int), .string (txt x.1.text), .slice A x.2.len c] 27)).alloc (.cells #[.string (txt y.1.name), .string (txt y.1.key), .int .i64 y.1.kind, .int .u64 (y.1.num : Int), .string (txt y.1.text), .slice B y.2.len d] 27)).alloc (.cells #[.int .i64 0, .slice none 0 0, .string ⟨#[]⟩, .string ⟨#[]⟩, .int .i64 0, .int .u64 0, .string ⟨#[]⟩, .slice none 0 0, .string ⟨#[]⟩, .string ⟨#[]⟩, .int .i64 0, .int .u64 0, .string ⟨#[]⟩, .slice none 0 0] 42)) (EditP ⟨3, l, x, y⟩ (((W.alloc (.cells #[.string (txt x.1.name), .string (txt x.1.key), .int .i64 x.1.kind, .int .u64 (x.1.num : Int), .string (txt x.1.text), .slice A x.2.len c] 27)).alloc (.cells #[.string (txt y.1.name), .string (txt y.1.key), .int .i64 y.1.kind, .int .u64 (y.1.num : Int), .string (txt y.1.text), .slice B y.2.len d] 27)).alloc (.cells #[.int .i64 0, .slice none 0 0, .string ⟨#[]⟩, .string ⟨#[]⟩, .int .i64 0, .int .u64 0, .string ⟨#[]⟩, .slice none 0 0, .string ⟨#[]⟩, .string ⟨#[]⟩, .int .i64 0, .int .u64 0, .string ⟨#[]⟩, .slice none 0 0] 42)))) := Lib.hid (edit_any 3 l _ x y A B c d (((W.alloc (.cells #[.string (txt x.1.name), .string (txt x.1.key), .int .i64 x.1.kind, .int .u64 (x.1.num : Int), .string (txt x.1.text), .slice A x.2.len c] 27)).alloc (.cells #[.string (txt y.1.name), .string (txt y.1.key), .int .i64 y.1.kind, .int .u64 (y.1.num : Int), .string (txt y.1.text), .slice B y.2.len d] 27)).alloc (.cells #[.int .i64 0, .slice none 0 0, .string ⟨#[]⟩, .string ⟨#[]⟩, .int .i64 0, .int .u64 0, .string ⟨#[]⟩, .slice none 0 0, .string ⟨#[]⟩, .string ⟨#[]⟩, .int .i64 0, .int .u64 0, .string ⟨#[]⟩, .slice none 0 0] 42)) (hv.below B0.out.1) hl (hx.below B0.out.1) (hy.below B0.out.1) hfx hfy)
 clear hv hl hx hfx hy hfy
 have q0x : (((W.alloc (.cells #[.string (txt x.1.name), .string (txt x.1.key), .int .i64 x.1.kind, .int .u64 (x.1.num : Int), .string (txt x.1.text), .slice A x.2.len c] 27)).alloc (.cells #[.string (txt y.1.name), .string (txt y.1.key), .int .i64 y.1.kind, .int .u64 (y.1.num : Int), .string (txt y.1.text), .slice B y.2.len d] 27)).alloc (.cells #[.int .i64 0, .slice none 0 0, .string ⟨#[]⟩, .string ⟨#[]⟩, .int .i64 0, .int .u64 0, .string ⟨#[]⟩, .slice none 0 0, .string ⟨#[]⟩, .string ⟨#[]⟩, .int .i64 0, .int .u64 0, .string ⟨#[]⟩, .slice none 0 0] 42)).cell? ⟨W.heap.size, 0, none⟩ = _ := (B0.out.2.1.cell 0).trans rfl
 have q1x : (((W.alloc (.cells #[.string (txt x.1.name), .string (txt x.1.key), .int .i64 x.1.kind, .int .u64 (x.1.num : Int), .string (txt x.1.text), .slice A x.2.len c] 27)).alloc (.cells #[.string (txt y.1.name), .string (txt y.1.key), .int .i64 y.1.kind, .int .u64 (y.1.num : Int), .string (txt y.1.text), .slice B y.2.len d] 27)).alloc (.cells #[.int .i64 0, .slice none 0 0, .string ⟨#[]⟩, .string ⟨#[]⟩, .int .i64 0, .int .u64 0, .string ⟨#[]⟩, .slice none 0 0, .string ⟨#[]⟩, .string ⟨#[]⟩, .int .i64 0, .int .u64 0, .string ⟨#[]⟩, .slice none 0 0] 42)).cell? ⟨W.heap.size, 1, none⟩ = _ := (B0.out.2.1.cell 1).trans rfl
 have q2x : (((W.alloc (.cells #[.string (txt x.1.name), .string (txt x.1.key), .int .i64 x.1.kind, .int .u64 (x.1.num : Int), .string (txt x.1.text), .slice A x.2.len c] 27)).alloc (.cells #[.string (txt y.1.name), .string (txt y.1.key), .int .i64 y.1.kind, .int .u64 (y.1.num : Int), .string (txt y.1.text), .slice B y.2.len d] 27)).alloc (.cells #[.int .i64 0, .slice none 0 0, .string ⟨#[]⟩, .string ⟨#[]⟩, .int .i64 0, .int .u64 0, .string ⟨#[]⟩, .slice none 0 0, .string ⟨#[]⟩, .string ⟨#[]⟩, .int .i64 0, .int .u64 0, .string ⟨#[]⟩, .slice none 0 0] 42)).cell? ⟨W.heap.size, 2, none⟩ = _ := (B0.out.2.1.cell 2).trans rfl
 have q3x : (((W.alloc (.cells #[.string (txt x.1.name), .string (txt x.1.key), .int .i64 x.1.kind, .int .u64 (x.1.num : Int), .string (txt x.1.text), .slice A x.2.len c] 27)).alloc (.cells #[.string (txt y.1.name), .string (txt y.1.key), .int .i64 y.1.kind, .int .u64 (y.1.num : Int), .string (txt y.1.text), .slice B y.2.len d] 27)).alloc (.cells #[.int .i64 0, .slice none 0 0, .string ⟨#[]⟩, .string ⟨#[]⟩, .int .i64 0, .int .u64 0, .string ⟨#[]⟩, .slice none 0 0, .string ⟨#[]⟩, .string ⟨#[]⟩, .int .i64 0, .int .u64 0, .string ⟨#[]⟩, .slice none 0 0] 42)).cell? ⟨W.heap.size, 3, none⟩ = _ := (B0.out.2.1.cell 3).trans rfl
 have q4x : (((W.alloc (.cells #[.string (txt x.1.name), .string (txt x.1.key), .int .i64 x.1.kind, .int .u64 (x.1.num : Int), .string (txt x.1.text), .slice A x.2.len c] 27)).alloc (.cells #[.string (txt y.1.name), .string (txt y.1.key), .int .i64 y.1.kind, .int .u64 (y.1.num : Int), .string (txt y.1.text), .slice B y.2.len d] 27)).alloc (.cells #[.int .i64 0, .slice none 0 0, .string ⟨#[]⟩, .string ⟨#[]⟩, .int .i64 0, .int .u64 0, .string ⟨#[]⟩, .slice none 0 0, .string ⟨#[]⟩, .string ⟨#[]⟩, .int .i64 0, .int .u64 0, .string ⟨#[]⟩, .slice none 0 0] 42)).cell? ⟨W.heap.size, 4, none⟩ = _ := (B0.out.2.1.cell 4).trans rfl
 have q5x : (((W.alloc (.cells #[.string (txt x.1.name), .string (txt x.1.key), .int .i64 x.1.kind, .int .u64 (x.1.num : Int), .string (txt x.1.text), .slice A x.2.len c] 27)).alloc (.cells #[.string (txt y.1.name), .string (txt y.1.key), .int .i64 y.1.kind, .int .u64 (y.1.num : Int), .string (txt y.1.text), .slice B y.2.len d] 27)).alloc (.cells #[.int .i64 0, .slice none 0 0, .string ⟨#[]⟩, .string ⟨#[]⟩, .int .i64 0, .int .u64 0, .string ⟨#[]⟩, .slice none 0 0, .string ⟨#[]⟩, .string ⟨#[]⟩, .int .i64 0, .int .u64 0, .string ⟨#[]⟩, .slice none 0 0] 42)).cell? ⟨W.heap.size, 5, none⟩ = _ := (B0.out.2.1.cell 5).trans rfl
 have q0y : (((W.alloc (.cells #[.string (txt x.1.name), .string (txt x.1.key), .int .i64 x.1.kind, .int .u64 (x.1.num : Int), .string (txt x.1.text), .slice A x.2.len c] 27)).alloc (.cells #[.string (txt y.1.name), .string (txt y.1.key), .int .i64 y.1.kind, .int .u64 (y.1.num : Int), .string (txt y.1.text), .slice B y.2.len d] 27)).alloc (.cells #[.int .i64 0, .slice none 0 0, .string ⟨#[]⟩, .string ⟨#[]⟩, .int .i64 0, .int .u64 0, .string ⟨#[]⟩, .slice none 0 0, .string ⟨#[]⟩, .string ⟨#[]⟩, .int .i64 0, .int .u64 0, .string ⟨#[]⟩, .slice none 0 0] 42)).cell? ⟨W.heap.size + 1, 0, none⟩ = _ := (B0.out.2.2.1.cell 0).trans rfl
 have q1y : (((W.alloc (.cells #[.string (txt x.1.name), .string (txt x.1.key), .int .i64 x.1.kind, .int .u64 (x.1.num : Int), .string (txt x.1.text), .slice A x.2.len c] 27)).alloc (.cells #[.string (txt y.1.name), .string (txt y.1.key), .int .i64 y.1.kind, .int .u64 (y.1.num : Int), .string (txt y.1.text), .slice B y.2.len d] 27)).alloc (.cells #[.int .i64 0, .slice none 0 0, .string ⟨#[]⟩, .string ⟨#[]⟩, .int .i64 0, .int .u64 0, .string ⟨#[]⟩, .slice none 0 0, .string ⟨#[]⟩, .string ⟨#[]⟩, .int .i64 0, .int .u64 0, .string ⟨#[]⟩, .slice none 0 0] 42)).cell? ⟨W.heap.size + 1, 1, none⟩ = _ := (B0.out.2.2.1.cell 1).trans rfl
 have q2y : (((W.alloc (.cells #[.string (txt x.1.name), .string (txt x.1.key), .int .i64 x.1.kind, .int .u64 (x.1.num : Int), .string (txt x.1.text), .slice A x.2.len c] 27)).alloc (.cells #[.string (txt y.1.name), .string (txt y.1.key), .int .i64 y.1.kind, .int .u64 (y.1.num : Int), .string (txt y.1.text), .slice B y.2.len d] 27)).alloc (.cells #[.int .i64 0, .slice none 0 0, .string ⟨#[]⟩, .string ⟨#[]⟩, .int .i64 0, .int .u64 0, .string ⟨#[]⟩, .slice none 0 0, .string ⟨#[]⟩, .string ⟨#[]⟩, .int .i64 0, .int .u64 0, .string ⟨#[]⟩, .slice none 0 0] 42)).cell? ⟨W.heap.size + 1, 2, none⟩ = _ := (B0.out.2.2.1.cell 2).trans rfl
 have q3y : (((W.alloc (.cells #[.string (txt x.1.name), .string (txt x.1.key), .int .i64 x.1.kind, .int .u64 (x.1.num : Int), .string (txt x.1.text), .slice A x.2.len c] 27)).alloc (.cells #[.string (txt y.1.name), .string (txt y.1.key), .int .i64 y.1.kind, .int .u64 (y.1.num : Int), .string (txt y.1.text), .slice B y.2.len d] 27)).alloc (.cells #[.int .i64 0, .slice none 0 0, .string ⟨#[]⟩, .string ⟨#[]⟩, .int .i64 0, .int .u64 0, .string ⟨#[]⟩, .slice none 0 0, .string ⟨#[]⟩, .string ⟨#[]⟩, .int .i64 0, .int .u64 0, .string ⟨#[]⟩, .slice none 0 0] 42)).cell? ⟨W.heap.size + 1, 3, none⟩ = _ := (B0.out.2.2.1.cell 3).trans rfl
 have q4y : (((W.alloc (.cells #[.string (txt x.1.name), .string (txt x.1.key), .int .i64 x.1.kind, .int .u64 (x.1.num : Int), .string (txt x.1.text), .slice A x.2.len c] 27)).alloc (.cells #[.string (txt y.1.name), .string (txt y.1.key), .int .i64 y.1.kind, .int .u64 (y.1.num : Int), .string (txt y.1.text), .slice B y.2.len d] 27)).alloc (.cells #[.int .i64 0, .slice none 0 0, .string ⟨#[]⟩, .string ⟨#[]⟩, .int .i64 0, .int .u64 0, .string ⟨#[]⟩, .slice none 0 0, .string ⟨#[]⟩, .string ⟨#[]⟩, .int .i64 0, .int .u64 0, .string ⟨#[]⟩, .slice none 0 0] 42)).cell? ⟨W.heap.size + 1, 4, none⟩ = _ := (B0.out.2.2.1.cell 4).trans rfl
 have q5y : (((W.alloc (.cells #[.string (txt x.1.name), .string (txt x.1.key), .int .i64 x.1.kind, .int .u64 (x.1.num : Int), .string (txt x.1.text), .slice A x.2.len c] 27)).alloc (.cells #[.string (txt y.1.name), .string (txt y.1.key), .int .i64 y.1.kind, .int .u64 (y.1.num : Int), .string (txt y.1.text), .slice B y.2.len d] 27)).alloc (.cells #[.int .i64 0, .slice none 0 0, .string ⟨#[]⟩, .string ⟨#[]⟩, .int .i64 0, .int .u64 0, .string ⟨#[]⟩, .slice none 0 0, .string ⟨#[]⟩, .string ⟨#[]⟩, .int .i64 0, .int .u64 0, .string ⟨#[]⟩, .slice none 0 0] 42)).cell? ⟨W.heap.size + 1, 5, none⟩ = _ := (B0.out.2.2.1.cell 5).trans rfl
 go_enter Try.func29, Try.ntmps29
 go_wp2_with fail
 refine HE.out.mono ?_
 rintro r w3 ⟨A1, c1, A2, c2, A3, c3, hr, hE, hB⟩
 have hr2 : r = .returned (.agg #[.int .i64 3, .slice A1 l.length c1, .string (txt x.1.name), .string (txt x.1.key), .int .i64 x.1.kind, .int .u64 (x.1.num : Int), .string (txt x.1.text), .slice A2 x.2.len c2, .string (txt y.1.name), .string (txt y.1.key), .int .i64 y.1.kind, .int .u64 (y.1.num : Int), .string (txt y.1.text), .slice A3 y.2.len c3]) := hr
 subst hr2
 have HZ := Lib.hid (B0.out.2.2.2.1.below hB B0.out.2.2.2.1.lt)
 have HQ : Hid (Blk (set14 w3 (W.heap.size + 2) (.int .i64 3) (.slice A1 l.length c1) (.string (txt x.1.name)) (.string (txt x.1.key)) (.int .i64 x.1.kind) (.int .u64 (x.1.num : Int)) (.string (txt x.1.text)) (.slice A2 x.2.len c2) (.string (txt y.1.name)) (.string (txt y.1.key)) (.int .i64 y.1.kind) (.int .u64 (y.1.num : Int)) (.string (txt y.1.text)) (.slice A3 y.2.len c3)) (W.heap.size + 2) 42 #[.int .i64 3, .slice A1 l.length c1, .string (txt x.1.name), .string (txt x.1.key), .int .i64 x.1.kind, .int .u64 (x.1.num : Int), .string (txt x.1.text), .slice A2 x.2.len c2, .string (txt y.1.name), .string (txt y.1.key), .int .i64 y.1.kind, .int .u64 (y.1.num : Int), .string (txt y.1.text), .slice A3 y.2.len c3]) := Lib.hid (HZ.out.set14 _ _ _ _ _ _ _ _ _ _ _ _ _ _)
 have HP : Hid (EditP ⟨3, l, x, y⟩ W (.returned (.agg #[.int .i64 3, .slice A1 l.length c1, .string (txt x.1.name), .string (txt x.1.key), .int .i64 x.1.kind, .int .u64 (x.1.num : Int), .string (txt x.1.text), .slice A2 x.2.len c2, .string (txt y.1.name), .string (txt y.1.key), .int .i64 y.1.kind, .int .u64 (y.1.num : Int), .string (txt y.1.text), .slice A3 y.2.len c3])) (set14 w3 (W.heap.size + 2) (.int .i64 3) (.slice A1 l.length c1) (.string (txt x.1.name)) (.string (txt x.1.key)) (.int .i64 x.1.kind) (.int .u64 (x.1.num : Int)) (.string (txt x.1.text)) (.slice A2 x.2.len c2) (.string (txt y.1.name)) (.string (txt y.1.key)) (.int .i64 y.1.kind) (.int .u64 (y.1.num : Int)) (.string (txt y.1.text)) (.slice A3 y.2.len c3))) := Lib.hid (by
  have hs := B0.out.2.2.2.2
  exact ⟨A1, c1, A2, c2, A3, c3, rfl, hE.keep (fun g hg => set14_other (by have := hg.1; omega)) (fun g hg => hg.keep (set14_other (by have := hg.1; omega)) (by omega)), (B0.out.1.trans (hB.mono B0.out.1.size)).trans (set14_below (Nat.le_add_right _ _))⟩)
 have V := Veil16.mk (And.intro HQ HP)
 clear hr hE hB HQ HP HE q0x q1x q2x q3x q4x q5x q0y q1y q2y q3y q4y q5y
 have fz0 : (w3).frozen? ⟨W.heap.size + 2, 0, none⟩ = false := HZ.out.frozen 0
 have fq0 := (HZ.out.cell 0).trans rfl
 have fz1 : (w3).frozen? ⟨W.heap.size + 2, 1, none⟩ = false := HZ.out.frozen 1
 have fq1 := (HZ.out.cell 1).trans rfl
 have fz2 : (w3).frozen? ⟨W.heap.size + 2, 2, none⟩ = false := HZ.out.frozen 2
 have fq2 := (HZ.out.cell 2).trans rfl
 have fz3 : (w3).frozen? ⟨W.heap.size + 2, 3, none⟩ = false := HZ.out.frozen 3
 have fq3 := (HZ.out.cell 3).trans rfl
 have fz4 : (w3).frozen? ⟨W.heap.size + 2, 4, none⟩ = false := HZ.out.frozen 4
 have fq4 := (HZ.out.cell 4).trans rfl
 have fz5 : (w3).frozen? ⟨W.heap.size + 2, 5, none⟩ = false := HZ.out.frozen 5
 have fq5 := (HZ.out.cell 5).trans rfl
 have fz6 : (w3).frozen? ⟨W.heap.size + 2, 6, none⟩ = false := HZ.out.frozen 6
 have fq6 := (HZ.out.cell 6).trans rfl
 have fz7 : (w3).frozen? ⟨W.heap.size + 2, 7, none⟩ = false := HZ.out.frozen 7
 have fq7 := (HZ.out.cell 7).trans rfl
 have fz8 : (w3).frozen? ⟨W.heap.size + 2, 8, none⟩ = false := HZ.out.frozen 8
 have fq8 := (HZ.out.cell 8).trans rfl
 have fz9 : (w3).frozen? ⟨W.heap.size + 2, 9, none⟩ = false := HZ.out.frozen 9
 have fq9 := (HZ.out.cell 9).trans rfl
 have fz10 : (w3).frozen? ⟨W.heap.size + 2, 10, none⟩ = false := HZ.out.frozen 10
 have fq10 := (HZ.out.cell 10).trans rfl
 have fz11 : (w3).frozen? ⟨W.heap.size + 2, 11, none⟩ = false := HZ.out.frozen 11
 have fq11 := (HZ.out.cell 11).trans rfl
 have fz12 : (w3).frozen? ⟨W.heap.size + 2, 12, none⟩ = false := HZ.out.frozen 12
 have fq12 := (HZ.out.cell 12).trans rfl
 have fz13 : (w3).frozen? ⟨W.heap.size + 2, 13, none⟩ = false := HZ.out.frozen 13
 have fq13 := (HZ.out.cell 13).trans rfl
 clear HZ
 go_wp2
 refine bodyPost_ret (results_cell_row rfl _ _ (W.heap.size + 2) 42 _ (0, 0) _ rfl V.out.1.out Try.underlying42 rfl (by kernel_rfl)) rfl ?_
 exact V.out.2.out
end Go.Proofs.Ythdhchhpjoghlaa
