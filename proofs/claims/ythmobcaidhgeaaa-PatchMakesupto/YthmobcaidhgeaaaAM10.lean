/- Law17A -/
import Derived.Test.YthmobcaidhgeaaaAM9
set_option linter.unusedSimpArgs false
set_option linter.unusedVariables false
set_option maxRecDepth 100000
set_option maxHeartbeats 8000000
namespace Go.Proofs.Ythmobcaidhgeaaa
open Go.RowKit
section
attribute [local go_sem] Oper.semAt_some
def aUpD : NdD := ⟨[117, 112], [], 3, 1, []⟩
def aUpS : Stp := ([117, 112], [])
def aUpE : EdD := ⟨1, [aUpS], (aUpD, .nil), noN⟩
def aUpX : EdD := ⟨2, [aUpS], noN, (aUpD, .nil)⟩
def aUpF : NdF := .cons aUpD .nil .nil
theorem a_run1 : runXE noN [aUpE] 0 = ((zeroT, aUpF), 0, 0) := by decide
theorem a_run2 : runXE noN [aUpE, aUpE] 0 = ((zeroT, .nil), 24, 1) := by decide
theorem a_one : oneX (zeroT, aUpF) aUpX = ((zeroT, .nil), 0) := by decide
theorem a_rgt : rgtX noN = true ∧ rgtX (zeroT, aUpF) = true ∧ rgtX (aUpD, .nil) = true := by decide
def AwE (w : World) (b2 : Nat) (As : Option Addr) (cs : Nat) (W : World) : Prop :=
 Below w.heap.size w W ∧ Blk W w.heap.size 27 #[.string ⟨#[117, 112]⟩, .string ⟨#[]⟩, .int .i64 3, .int .u64 1, .string ⟨#[]⟩, .slice none 0 0] ∧ Blk W b2 37 #[.int .i64 1, .slice As 1 cs, .string ⟨#[117, 112]⟩, .string ⟨#[]⟩, .int .i64 3, .int .u64 1, .string ⟨#[]⟩, .slice none 0 0, .string ⟨#[]⟩, .string ⟨#[]⟩, .int .i64 0, .int .u64 0, .string ⟨#[]⟩, .slice none 0 0] ∧ WayV W.heap.size W (.slice As 1 cs) [aUpS]
theorem AwE.go {w : World} {b2 : Nat} {As : Option Addr} {cs : Nat} {W W' : World} (h : AwE w b2 As cs W) (hb : Below W.heap.size W W') : AwE w b2 As cs W' :=
 ⟨h.1.trans (hb.mono h.1.size), h.2.1.below hb h.2.1.lt, h.2.2.1.below hb h.2.2.1.lt, h.2.2.2.below hb⟩
theorem awE_new (w : World) : AwE w (w.heap.size + 1 + 1) (some ⟨w.heap.size + 1, 0, none⟩) 1 (((w.alloc (.cells #[.string ⟨#[117, 112]⟩, .string ⟨#[]⟩, .int .i64 3, .int .u64 1, .string ⟨#[]⟩, .slice none 0 0] 27)).alloc (.cells #[.string ⟨#[117, 112]⟩, .string ⟨#[]⟩] 47)).alloc (.cells #[.int .i64 1, .slice (some ⟨w.heap.size + 1, 0, none⟩) 1 1, .string ⟨#[117, 112]⟩, .string ⟨#[]⟩, .int .i64 3, .int .u64 1, .string ⟨#[]⟩, .slice none 0 0, .string ⟨#[]⟩, .string ⟨#[]⟩, .int .i64 0, .int .u64 0, .string ⟨#[]⟩, .slice none 0 0] 37)) := by
 have h1 : Blk (w.alloc (.cells #[.string ⟨#[117, 112]⟩, .string ⟨#[]⟩, .int .i64 3, .int .u64 1, .string ⟨#[]⟩, .slice none 0 0] 27)) w.heap.size 27 #[.string ⟨#[117, 112]⟩, .string ⟨#[]⟩, .int .i64 3, .int .u64 1, .string ⟨#[]⟩, .slice none 0 0] := Blk.new w _ _
 have h2 := Blk.new (w.alloc (.cells #[.string ⟨#[117, 112]⟩, .string ⟨#[]⟩, .int .i64 3, .int .u64 1, .string ⟨#[]⟩, .slice none 0 0] 27)) 47 #[.string ⟨#[117, 112]⟩, .string ⟨#[]⟩]
 have h3 := Blk.new ((w.alloc (.cells #[.string ⟨#[117, 112]⟩, .string ⟨#[]⟩, .int .i64 3, .int .u64 1, .string ⟨#[]⟩, .slice none 0 0] 27)).alloc (.cells #[.string ⟨#[117, 112]⟩, .string ⟨#[]⟩] 47)) 37 #[.int .i64 1, .slice (some ⟨w.heap.size + 1, 0, none⟩) 1 1, .string ⟨#[117, 112]⟩, .string ⟨#[]⟩, .int .i64 3, .int .u64 1, .string ⟨#[]⟩, .slice none 0 0, .string ⟨#[]⟩, .string ⟨#[]⟩, .int .i64 0, .int .u64 0, .string ⟨#[]⟩, .slice none 0 0]
 rw [show (w.alloc (.cells #[.string ⟨#[117, 112]⟩, .string ⟨#[]⟩, .int .i64 3, .int .u64 1, .string ⟨#[]⟩, .slice none 0 0] 27)).heap.size = w.heap.size + 1 by simp] at h2
 rw [show ((w.alloc (.cells #[.string ⟨#[117, 112]⟩, .string ⟨#[]⟩, .int .i64 3, .int .u64 1, .string ⟨#[]⟩, .slice none 0 0] 27)).alloc (.cells #[.string ⟨#[117, 112]⟩, .string ⟨#[]⟩] 47)).heap.size = w.heap.size + 1 + 1 by simp] at h3
 have h4 := h2.alloc (.cells #[.int .i64 1, .slice (some ⟨w.heap.size + 1, 0, none⟩) 1 1, .string ⟨#[117, 112]⟩, .string ⟨#[]⟩, .int .i64 3, .int .u64 1, .string ⟨#[]⟩, .slice none 0 0, .string ⟨#[]⟩, .string ⟨#[]⟩, .int .i64 0, .int .u64 0, .string ⟨#[]⟩, .slice none 0 0] 37)
 refine ⟨(bAl.alloc (by simp) _).alloc (by simp; omega) _, (h1.alloc _).alloc _, h3, _, _, rfl, Nat.le_refl _, fun _ => ⟨_, _, rfl, h4.lt, fun j s hs => ?_⟩⟩
 match j, hs with
 | 0, hs =>
  simp at hs
  subst hs
  exact ⟨(h4.cell 0).trans rfl, (h4.cell 1).trans rfl⟩
 | j + 1, hs => simp at hs
theorem aEdS {w : World} {b2 : Nat} {As : Option Addr} {cs : Nat} {W : World} (h : AwE w b2 As cs W) : EdS (Bel W) W [.int .i64 1, .slice As 1 cs, .string ⟨#[117, 112]⟩, .string ⟨#[]⟩, .int .i64 3, .int .u64 1, .string ⟨#[]⟩, .slice none 0 0, .string ⟨#[]⟩, .string ⟨#[]⟩, .int .i64 0, .int .u64 0, .string ⟨#[]⟩, .slice none 0 0] aUpE :=
 ⟨_, _, _, rfl, h.2.2.2.s, FrV.empty _ _ _, FrV.empty _ _ _⟩
theorem aEds1 {w : World} {b2 : Nat} {As : Option Addr} {cs : Nat} {W : World} (h : AwE w b2 As cs W) : EdsV (Bel (W.alloc (.cells #[.int .i64 1, .slice As 1 cs, .string ⟨#[117, 112]⟩, .string ⟨#[]⟩, .int .i64 3, .int .u64 1, .string ⟨#[]⟩, .slice none 0 0, .string ⟨#[]⟩, .string ⟨#[]⟩, .int .i64 0, .int .u64 0, .string ⟨#[]⟩, .slice none 0 0] 37))) (W.alloc (.cells #[.int .i64 1, .slice As 1 cs, .string ⟨#[117, 112]⟩, .string ⟨#[]⟩, .int .i64 3, .int .u64 1, .string ⟨#[]⟩, .slice none 0 0, .string ⟨#[]⟩, .string ⟨#[]⟩, .int .i64 0, .int .u64 0, .string ⟨#[]⟩, .slice none 0 0] 37)) (.slice (some ⟨W.heap.size, 0, none⟩) 1 1) [aUpE] := by
 have hb : Below W.heap.size W (W.alloc (.cells #[.int .i64 1, .slice As 1 cs, .string ⟨#[117, 112]⟩, .string ⟨#[]⟩, .int .i64 3, .int .u64 1, .string ⟨#[]⟩, .slice none 0 0, .string ⟨#[]⟩, .string ⟨#[]⟩, .int .i64 0, .int .u64 0, .string ⟨#[]⟩, .slice none 0 0] 37)) := bAl
 have hn : Blk (W.alloc (.cells #[.int .i64 1, .slice As 1 cs, .string ⟨#[117, 112]⟩, .string ⟨#[]⟩, .int .i64 3, .int .u64 1, .string ⟨#[]⟩, .slice none 0 0, .string ⟨#[]⟩, .string ⟨#[]⟩, .int .i64 0, .int .u64 0, .string ⟨#[]⟩, .slice none 0 0] 37)) W.heap.size 37 #[.int .i64 1, .slice As 1 cs, .string ⟨#[117, 112]⟩, .string ⟨#[]⟩, .int .i64 3, .int .u64 1, .string ⟨#[]⟩, .slice none 0 0, .string ⟨#[]⟩, .string ⟨#[]⟩, .int .i64 0, .int .u64 0, .string ⟨#[]⟩, .slice none 0 0] := Blk.new _ _ _
 refine ⟨_, _, rfl, Nat.le_refl _, fun _ => ⟨_, _, [.int .i64 1, .slice As 1 cs, .string ⟨#[117, 112]⟩, .string ⟨#[]⟩, .int .i64 3, .int .u64 1, .string ⟨#[]⟩, .slice none 0 0, .string ⟨#[]⟩, .string ⟨#[]⟩, .int .i64 0, .int .u64 0, .string ⟨#[]⟩, .slice none 0 0], rfl, hn.lt, rowE.one_ (aEdS (h.go hb)), fun j u hj => ?_⟩⟩
 rw [Nat.zero_add, hn.cell]
 simpa using hj
theorem aEds2 {w : World} {b2 : Nat} {As : Option Addr} {cs : Nat} {W : World} (h : AwE w b2 As cs W) : EdsV (Bel (W.alloc (.cells #[.int .i64 1, .slice As 1 cs, .string ⟨#[117, 112]⟩, .string ⟨#[]⟩, .int .i64 3, .int .u64 1, .string ⟨#[]⟩, .slice none 0 0, .string ⟨#[]⟩, .string ⟨#[]⟩, .int .i64 0, .int .u64 0, .string ⟨#[]⟩, .slice none 0 0, .int .i64 1, .slice As 1 cs, .string ⟨#[117, 112]⟩, .string ⟨#[]⟩, .int .i64 3, .int .u64 1, .string ⟨#[]⟩, .slice none 0 0, .string ⟨#[]⟩, .string ⟨#[]⟩, .int .i64 0, .int .u64 0, .string ⟨#[]⟩, .slice none 0 0] 37))) (W.alloc (.cells #[.int .i64 1, .slice As 1 cs, .string ⟨#[117, 112]⟩, .string ⟨#[]⟩, .int .i64 3, .int .u64 1, .string ⟨#[]⟩, .slice none 0 0, .string ⟨#[]⟩, .string ⟨#[]⟩, .int .i64 0, .int .u64 0, .string ⟨#[]⟩, .slice none 0 0, .int .i64 1, .slice As 1 cs, .string ⟨#[117, 112]⟩, .string ⟨#[]⟩, .int .i64 3, .int .u64 1, .string ⟨#[]⟩, .slice none 0 0, .string ⟨#[]⟩, .string ⟨#[]⟩, .int .i64 0, .int .u64 0, .string ⟨#[]⟩, .slice none 0 0] 37)) (.slice (some ⟨W.heap.size, 0, none⟩) 2 2) [aUpE, aUpE] := by
 have hb : Below W.heap.size W (W.alloc (.cells #[.int .i64 1, .slice As 1 cs, .string ⟨#[117, 112]⟩, .string ⟨#[]⟩, .int .i64 3, .int .u64 1, .string ⟨#[]⟩, .slice none 0 0, .string ⟨#[]⟩, .string ⟨#[]⟩, .int .i64 0, .int .u64 0, .string ⟨#[]⟩, .slice none 0 0, .int .i64 1, .slice As 1 cs, .string ⟨#[117, 112]⟩, .string ⟨#[]⟩, .int .i64 3, .int .u64 1, .string ⟨#[]⟩, .slice none 0 0, .string ⟨#[]⟩, .string ⟨#[]⟩, .int .i64 0, .int .u64 0, .string ⟨#[]⟩, .slice none 0 0] 37)) := bAl
 have hn : Blk (W.alloc (.cells #[.int .i64 1, .slice As 1 cs, .string ⟨#[117, 112]⟩, .string ⟨#[]⟩, .int .i64 3, .int .u64 1, .string ⟨#[]⟩, .slice none 0 0, .string ⟨#[]⟩, .string ⟨#[]⟩, .int .i64 0, .int .u64 0, .string ⟨#[]⟩, .slice none 0 0, .int .i64 1, .slice As 1 cs, .string ⟨#[117, 112]⟩, .string ⟨#[]⟩, .int .i64 3, .int .u64 1, .string ⟨#[]⟩, .slice none 0 0, .string ⟨#[]⟩, .string ⟨#[]⟩, .int .i64 0, .int .u64 0, .string ⟨#[]⟩, .slice none 0 0] 37)) W.heap.size 37 #[.int .i64 1, .slice As 1 cs, .string ⟨#[117, 112]⟩, .string ⟨#[]⟩, .int .i64 3, .int .u64 1, .string ⟨#[]⟩, .slice none 0 0, .string ⟨#[]⟩, .string ⟨#[]⟩, .int .i64 0, .int .u64 0, .string ⟨#[]⟩, .slice none 0 0, .int .i64 1, .slice As 1 cs, .string ⟨#[117, 112]⟩, .string ⟨#[]⟩, .int .i64 3, .int .u64 1, .string ⟨#[]⟩, .slice none 0 0, .string ⟨#[]⟩, .string ⟨#[]⟩, .int .i64 0, .int .u64 0, .string ⟨#[]⟩, .slice none 0 0] := Blk.new _ _ _
 refine ⟨_, _, rfl, Nat.le_refl _, fun _ => ⟨_, _, [.int .i64 1, .slice As 1 cs, .string ⟨#[117, 112]⟩, .string ⟨#[]⟩, .int .i64 3, .int .u64 1, .string ⟨#[]⟩, .slice none 0 0, .string ⟨#[]⟩, .string ⟨#[]⟩, .int .i64 0, .int .u64 0, .string ⟨#[]⟩, .slice none 0 0, .int .i64 1, .slice As 1 cs, .string ⟨#[117, 112]⟩, .string ⟨#[]⟩, .int .i64 3, .int .u64 1, .string ⟨#[]⟩, .slice none 0 0, .string ⟨#[]⟩, .string ⟨#[]⟩, .int .i64 0, .int .u64 0, .string ⟨#[]⟩, .slice none 0 0], rfl, hn.lt, ⟨[.int .i64 1, .slice As 1 cs, .string ⟨#[117, 112]⟩, .string ⟨#[]⟩, .int .i64 3, .int .u64 1, .string ⟨#[]⟩, .slice none 0 0, .string ⟨#[]⟩, .string ⟨#[]⟩, .int .i64 0, .int .u64 0, .string ⟨#[]⟩, .slice none 0 0], [.int .i64 1, .slice As 1 cs, .string ⟨#[117, 112]⟩, .string ⟨#[]⟩, .int .i64 3, .int .u64 1, .string ⟨#[]⟩, .slice none 0 0, .string ⟨#[]⟩, .string ⟨#[]⟩, .int .i64 0, .int .u64 0, .string ⟨#[]⟩, .slice none 0 0], rfl, aEdS (h.go hb), rowE.one_ (aEdS (h.go hb))⟩, fun j u hj => ?_⟩⟩
 rw [Nat.zero_add, hn.cell]
 simpa using hj
theorem aFew1 : FewR noN [aUpE] := ⟨by decide, by decide, fun e he => by have h : e = aUpE := (by simpa using he); rw [h]; exact ⟨by decide, by decide, by decide⟩⟩
theorem aFew2 : FewR noN [aUpE, aUpE] := ⟨by decide, by decide, fun e he => by have h : e = aUpE := (by simpa using he); rw [h]; exact ⟨by decide, by decide, by decide⟩⟩
theorem aRg1 : ∀ e ∈ [aUpE], rgtX e.node = true := fun e he => by have h : e = aUpE := (by simpa using he); rw [h]; exact a_rgt.2.2
theorem aRg2 : ∀ e ∈ [aUpE, aUpE], rgtX e.node = true := fun e he => by have h : e = aUpE := (by simpa using he); rw [h]; exact a_rgt.2.2
theorem awake17 {W0 : World} (C : PatC W0) : Awake17 W0 := by
 intro w hW0
 have HC := hHd C
 have HW := hHd hW0
 have HN := hHd (awE_new w)
 have b0 : (w.alloc (.cells #[.string ⟨#[117, 112]⟩, .string ⟨#[]⟩, .int .i64 3, .int .u64 1, .string ⟨#[]⟩, .slice none 0 0] 27)).cell? ⟨w.heap.size, 0, none⟩ = some (.string ⟨#[117, 112]⟩) := ((Blk.new w 27 #[.string ⟨#[117, 112]⟩, .string ⟨#[]⟩, .int .i64 3, .int .u64 1, .string ⟨#[]⟩, .slice none 0 0]).cell 0).trans rfl
 have b1 : (w.alloc (.cells #[.string ⟨#[117, 112]⟩, .string ⟨#[]⟩, .int .i64 3, .int .u64 1, .string ⟨#[]⟩, .slice none 0 0] 27)).cell? ⟨w.heap.size, 1, none⟩ = some (.string ⟨#[]⟩) := ((Blk.new w 27 #[.string ⟨#[117, 112]⟩, .string ⟨#[]⟩, .int .i64 3, .int .u64 1, .string ⟨#[]⟩, .slice none 0 0]).cell 1).trans rfl
 have b2 : (w.alloc (.cells #[.string ⟨#[117, 112]⟩, .string ⟨#[]⟩, .int .i64 3, .int .u64 1, .string ⟨#[]⟩, .slice none 0 0] 27)).cell? ⟨w.heap.size, 2, none⟩ = some (.int .i64 3) := ((Blk.new w 27 #[.string ⟨#[117, 112]⟩, .string ⟨#[]⟩, .int .i64 3, .int .u64 1, .string ⟨#[]⟩, .slice none 0 0]).cell 2).trans rfl
 have b3 : (w.alloc (.cells #[.string ⟨#[117, 112]⟩, .string ⟨#[]⟩, .int .i64 3, .int .u64 1, .string ⟨#[]⟩, .slice none 0 0] 27)).cell? ⟨w.heap.size, 3, none⟩ = some (.int .u64 1) := ((Blk.new w 27 #[.string ⟨#[117, 112]⟩, .string ⟨#[]⟩, .int .i64 3, .int .u64 1, .string ⟨#[]⟩, .slice none 0 0]).cell 3).trans rfl
 have b4 : (w.alloc (.cells #[.string ⟨#[117, 112]⟩, .string ⟨#[]⟩, .int .i64 3, .int .u64 1, .string ⟨#[]⟩, .slice none 0 0] 27)).cell? ⟨w.heap.size, 4, none⟩ = some (.string ⟨#[]⟩) := ((Blk.new w 27 #[.string ⟨#[117, 112]⟩, .string ⟨#[]⟩, .int .i64 3, .int .u64 1, .string ⟨#[]⟩, .slice none 0 0]).cell 4).trans rfl
 have b5 : (w.alloc (.cells #[.string ⟨#[117, 112]⟩, .string ⟨#[]⟩, .int .i64 3, .int .u64 1, .string ⟨#[]⟩, .slice none 0 0] 27)).cell? ⟨w.heap.size, 5, none⟩ = some (.slice none 0 0) := ((Blk.new w 27 #[.string ⟨#[117, 112]⟩, .string ⟨#[]⟩, .int .i64 3, .int .u64 1, .string ⟨#[]⟩, .slice none 0 0]).cell 5).trans rfl
 clear C hW0
 go_enter Try.func7, Try.ntmps7
 go_upto_region 2 with (fail)
 go_cut [2] (fun t2 wx => ∃ (e2 : Nat) (As : Option Addr) (cs : Nat), t2 = .pointer (some ⟨e2, 0, none⟩) ∧ Hid (AwE w e2 As cs wx))
 case first =>
  go_wp2_with fail
  go_meet
  exact ⟨_, _, _, rfl, HN⟩
 case rest =>
  obtain ⟨e2, As, cs, rfl, S0⟩ := hcut
  obtain ⟨w0, hw0⟩ : ∃ w0, w0 = wc := ⟨_, rfl⟩
  subst hw0
  clear b0 b1 b2 b3 b4 b5 HN
  have a0 : (w0).cell? ⟨e2, 0, none⟩ = some (.int .i64 1) := (S0.out.2.2.1.cell 0).trans rfl
  have a1 : (w0).cell? ⟨e2, 1, none⟩ = some (.slice As 1 cs) := (S0.out.2.2.1.cell 1).trans rfl
  have a2 : (w0).cell? ⟨e2, 2, none⟩ = some (.string ⟨#[117, 112]⟩) := (S0.out.2.2.1.cell 2).trans rfl
  have a3 : (w0).cell? ⟨e2, 3, none⟩ = some (.string ⟨#[]⟩) := (S0.out.2.2.1.cell 3).trans rfl
  have a4 : (w0).cell? ⟨e2, 4, none⟩ = some (.int .i64 3) := (S0.out.2.2.1.cell 4).trans rfl
  have a5 : (w0).cell? ⟨e2, 5, none⟩ = some (.int .u64 1) := (S0.out.2.2.1.cell 5).trans rfl
  have a6 : (w0).cell? ⟨e2, 6, none⟩ = some (.string ⟨#[]⟩) := (S0.out.2.2.1.cell 6).trans rfl
  have a7 : (w0).cell? ⟨e2, 7, none⟩ = some (.slice none 0 0) := (S0.out.2.2.1.cell 7).trans rfl
  have a8 : (w0).cell? ⟨e2, 8, none⟩ = some (.string ⟨#[]⟩) := (S0.out.2.2.1.cell 8).trans rfl
  have a9 : (w0).cell? ⟨e2, 9, none⟩ = some (.string ⟨#[]⟩) := (S0.out.2.2.1.cell 9).trans rfl
  have a10 : (w0).cell? ⟨e2, 10, none⟩ = some (.int .i64 0) := (S0.out.2.2.1.cell 10).trans rfl
  have a11 : (w0).cell? ⟨e2, 11, none⟩ = some (.int .u64 0) := (S0.out.2.2.1.cell 11).trans rfl
  have a12 : (w0).cell? ⟨e2, 12, none⟩ = some (.string ⟨#[]⟩) := (S0.out.2.2.1.cell 12).trans rfl
  have a13 : (w0).cell? ⟨e2, 13, none⟩ = some (.slice none 0 0) := (S0.out.2.2.1.cell 13).trans rfl
  have hb1 : Below w0.heap.size w0 (w0.alloc (.cells #[.int .i64 1, .slice As 1 cs, .string ⟨#[117, 112]⟩, .string ⟨#[]⟩, .int .i64 3, .int .u64 1, .string ⟨#[]⟩, .slice none 0 0, .string ⟨#[]⟩, .string ⟨#[]⟩, .int .i64 0, .int .u64 0, .string ⟨#[]⟩, .slice none 0 0] 37)) := bAl
  have S1 := hHd (S0.out.go hb1)
  have K1 := hHd (HC.out.apply (w0.alloc (.cells #[.int .i64 1, .slice As 1 cs, .string ⟨#[117, 112]⟩, .string ⟨#[]⟩, .int .i64 3, .int .u64 1, .string ⟨#[]⟩, .slice none 0 0, .string ⟨#[]⟩, .string ⟨#[]⟩, .int .i64 0, .int .u64 0, .string ⟨#[]⟩, .slice none 0 0] 37)).heap.size noN [aUpE] (ndC zeroT (.slice none 0 0)) _ (w0.alloc (.cells #[.int .i64 1, .slice As 1 cs, .string ⟨#[117, 112]⟩, .string ⟨#[]⟩, .int .i64 3, .int .u64 1, .string ⟨#[]⟩, .slice none 0 0, .string ⟨#[]⟩, .string ⟨#[]⟩, .int .i64 0, .int .u64 0, .string ⟨#[]⟩, .slice none 0 0] 37)) (Nat.le_refl _) (lie_zero17 _) (aEds1 S0.out) aFew1 a_rgt.1 aRg1 (HW.out.trans (S1.out.1.mono HW.out.size)))
  clear hb1
  go_wp2_with fail
  refine K1.out.mono ?_
  intro r w3 hr
  obtain ⟨A3, c3, he, hl3, hb⟩ := hr.flat a_run1
  obtain rfl : r = .returned (.tuple #[.agg #[.string ⟨#[]⟩, .string ⟨#[]⟩, .int .i64 0, .int .u64 0, .string ⟨#[]⟩, .slice A3 1 c3], .int .i64 0, .int .i64 0]) := he
  have hba : Below w3.heap.size w3 (w3.alloc (.cells #[.string ⟨#[]⟩, .string ⟨#[]⟩, .int .i64 0, .int .u64 0, .string ⟨#[]⟩, .slice A3 1 c3] 27)) := bAl
  have S3 := hHd ((S1.out.go hb).go hba)
  have B3 : Hid (Blk (w3.alloc (.cells #[.string ⟨#[]⟩, .string ⟨#[]⟩, .int .i64 0, .int .u64 0, .string ⟨#[]⟩, .slice A3 1 c3] 27)) w3.heap.size 27 #[.string ⟨#[]⟩, .string ⟨#[]⟩, .int .i64 0, .int .u64 0, .string ⟨#[]⟩, .slice A3 1 c3]) := hHd (Blk.new _ _ _)
  have L3 : Hid (LieN (w3.alloc (.cells #[.string ⟨#[]⟩, .string ⟨#[]⟩, .int .i64 0, .int .u64 0, .string ⟨#[]⟩, .slice A3 1 c3] 27)) (ndC zeroT (.slice A3 1 c3)) (zeroT, aUpF)) := hHd (LieB.below (hl3.lies hb.size) hba)
  clear hr hl3 hb hba K1 a0 a1 a2 a3 a4 a5 a6 a7 a8 a9 a10 a11 a12 a13
  have d0 : (w3.alloc (.cells #[.string ⟨#[]⟩, .string ⟨#[]⟩, .int .i64 0, .int .u64 0, .string ⟨#[]⟩, .slice A3 1 c3] 27)).cell? ⟨e2, 0, none⟩ = some (.int .i64 1) := (S3.out.2.2.1.cell 0).trans rfl
  have d1 : (w3.alloc (.cells #[.string ⟨#[]⟩, .string ⟨#[]⟩, .int .i64 0, .int .u64 0, .string ⟨#[]⟩, .slice A3 1 c3] 27)).cell? ⟨e2, 1, none⟩ = some (.slice As 1 cs) := (S3.out.2.2.1.cell 1).trans rfl
  have d2 : (w3.alloc (.cells #[.string ⟨#[]⟩, .string ⟨#[]⟩, .int .i64 0, .int .u64 0, .string ⟨#[]⟩, .slice A3 1 c3] 27)).cell? ⟨e2, 2, none⟩ = some (.string ⟨#[117, 112]⟩) := (S3.out.2.2.1.cell 2).trans rfl
  have d3 : (w3.alloc (.cells #[.string ⟨#[]⟩, .string ⟨#[]⟩, .int .i64 0, .int .u64 0, .string ⟨#[]⟩, .slice A3 1 c3] 27)).cell? ⟨e2, 3, none⟩ = some (.string ⟨#[]⟩) := (S3.out.2.2.1.cell 3).trans rfl
  have d4 : (w3.alloc (.cells #[.string ⟨#[]⟩, .string ⟨#[]⟩, .int .i64 0, .int .u64 0, .string ⟨#[]⟩, .slice A3 1 c3] 27)).cell? ⟨e2, 4, none⟩ = some (.int .i64 3) := (S3.out.2.2.1.cell 4).trans rfl
  have d5 : (w3.alloc (.cells #[.string ⟨#[]⟩, .string ⟨#[]⟩, .int .i64 0, .int .u64 0, .string ⟨#[]⟩, .slice A3 1 c3] 27)).cell? ⟨e2, 5, none⟩ = some (.int .u64 1) := (S3.out.2.2.1.cell 5).trans rfl
  have d6 : (w3.alloc (.cells #[.string ⟨#[]⟩, .string ⟨#[]⟩, .int .i64 0, .int .u64 0, .string ⟨#[]⟩, .slice A3 1 c3] 27)).cell? ⟨e2, 6, none⟩ = some (.string ⟨#[]⟩) := (S3.out.2.2.1.cell 6).trans rfl
  have d7 : (w3.alloc (.cells #[.string ⟨#[]⟩, .string ⟨#[]⟩, .int .i64 0, .int .u64 0, .string ⟨#[]⟩, .slice A3 1 c3] 27)).cell? ⟨e2, 7, none⟩ = some (.slice none 0 0) := (S3.out.2.2.1.cell 7).trans rfl
  have d8 : (w3.alloc (.cells #[.string ⟨#[]⟩, .string ⟨#[]⟩, .int .i64 0, .int .u64 0, .string ⟨#[]⟩, .slice A3 1 c3] 27)).cell? ⟨e2, 8, none⟩ = some (.string ⟨#[]⟩) := (S3.out.2.2.1.cell 8).trans rfl
  have d9 : (w3.alloc (.cells #[.string ⟨#[]⟩, .string ⟨#[]⟩, .int .i64 0, .int .u64 0, .string ⟨#[]⟩, .slice A3 1 c3] 27)).cell? ⟨e2, 9, none⟩ = some (.string ⟨#[]⟩) := (S3.out.2.2.1.cell 9).trans rfl
  have d10 : (w3.alloc (.cells #[.string ⟨#[]⟩, .string ⟨#[]⟩, .int .i64 0, .int .u64 0, .string ⟨#[]⟩, .slice A3 1 c3] 27)).cell? ⟨e2, 10, none⟩ = some (.int .i64 0) := (S3.out.2.2.1.cell 10).trans rfl
  have d11 : (w3.alloc (.cells #[.string ⟨#[]⟩, .string ⟨#[]⟩, .int .i64 0, .int .u64 0, .string ⟨#[]⟩, .slice A3 1 c3] 27)).cell? ⟨e2, 11, none⟩ = some (.int .u64 0) := (S3.out.2.2.1.cell 11).trans rfl
  have d12 : (w3.alloc (.cells #[.string ⟨#[]⟩, .string ⟨#[]⟩, .int .i64 0, .int .u64 0, .string ⟨#[]⟩, .slice A3 1 c3] 27)).cell? ⟨e2, 12, none⟩ = some (.string ⟨#[]⟩) := (S3.out.2.2.1.cell 12).trans rfl
  have d13 : (w3.alloc (.cells #[.string ⟨#[]⟩, .string ⟨#[]⟩, .int .i64 0, .int .u64 0, .string ⟨#[]⟩, .slice A3 1 c3] 27)).cell? ⟨e2, 13, none⟩ = some (.slice none 0 0) := (S3.out.2.2.1.cell 13).trans rfl
  have hb4 : Below (w3.alloc (.cells #[.string ⟨#[]⟩, .string ⟨#[]⟩, .int .i64 0, .int .u64 0, .string ⟨#[]⟩, .slice A3 1 c3] 27)).heap.size (w3.alloc (.cells #[.string ⟨#[]⟩, .string ⟨#[]⟩, .int .i64 0, .int .u64 0, .string ⟨#[]⟩, .slice A3 1 c3] 27)) ((w3.alloc (.cells #[.string ⟨#[]⟩, .string ⟨#[]⟩, .int .i64 0, .int .u64 0, .string ⟨#[]⟩, .slice A3 1 c3] 27)).alloc (.cells #[.int .i64 1, .slice As 1 cs, .string ⟨#[117, 112]⟩, .string ⟨#[]⟩, .int .i64 3, .int .u64 1, .string ⟨#[]⟩, .slice none 0 0, .string ⟨#[]⟩, .string ⟨#[]⟩, .int .i64 0, .int .u64 0, .string ⟨#[]⟩, .slice none 0 0, .int .i64 1, .slice As 1 cs, .string ⟨#[117, 112]⟩, .string ⟨#[]⟩, .int .i64 3, .int .u64 1, .string ⟨#[]⟩, .slice none 0 0, .string ⟨#[]⟩, .string ⟨#[]⟩, .int .i64 0, .int .u64 0, .string ⟨#[]⟩, .slice none 0 0] 37)) := bAl
  have S4 := hHd (S3.out.go hb4)
  have B4 := hHd (B3.out.below hb4 B3.out.lt)
  have L4 := hHd (LieB.below L3.out hb4)
  have HV4 := aEds2 S3.out
  rw [show (w3.alloc (.cells #[.string ⟨#[]⟩, .string ⟨#[]⟩, .int .i64 0, .int .u64 0, .string ⟨#[]⟩, .slice A3 1 c3] 27)).heap.size = w3.heap.size + 1 by simp] at HV4
  have K4 := hHd (HC.out.apply ((w3.alloc (.cells #[.string ⟨#[]⟩, .string ⟨#[]⟩, .int .i64 0, .int .u64 0, .string ⟨#[]⟩, .slice A3 1 c3] 27)).alloc (.cells #[.int .i64 1, .slice As 1 cs, .string ⟨#[117, 112]⟩, .string ⟨#[]⟩, .int .i64 3, .int .u64 1, .string ⟨#[]⟩, .slice none 0 0, .string ⟨#[]⟩, .string ⟨#[]⟩, .int .i64 0, .int .u64 0, .string ⟨#[]⟩, .slice none 0 0, .int .i64 1, .slice As 1 cs, .string ⟨#[117, 112]⟩, .string ⟨#[]⟩, .int .i64 3, .int .u64 1, .string ⟨#[]⟩, .slice none 0 0, .string ⟨#[]⟩, .string ⟨#[]⟩, .int .i64 0, .int .u64 0, .string ⟨#[]⟩, .slice none 0 0] 37)).heap.size noN [aUpE, aUpE] (ndC zeroT (.slice none 0 0)) _ ((w3.alloc (.cells #[.string ⟨#[]⟩, .string ⟨#[]⟩, .int .i64 0, .int .u64 0, .string ⟨#[]⟩, .slice A3 1 c3] 27)).alloc (.cells #[.int .i64 1, .slice As 1 cs, .string ⟨#[117, 112]⟩, .string ⟨#[]⟩, .int .i64 3, .int .u64 1, .string ⟨#[]⟩, .slice none 0 0, .string ⟨#[]⟩, .string ⟨#[]⟩, .int .i64 0, .int .u64 0, .string ⟨#[]⟩, .slice none 0 0, .int .i64 1, .slice As 1 cs, .string ⟨#[117, 112]⟩, .string ⟨#[]⟩, .int .i64 3, .int .u64 1, .string ⟨#[]⟩, .slice none 0 0, .string ⟨#[]⟩, .string ⟨#[]⟩, .int .i64 0, .int .u64 0, .string ⟨#[]⟩, .slice none 0 0] 37)) (Nat.le_refl _) (lie_zero17 _) HV4 aFew2 a_rgt.1 aRg2 (HW.out.trans (S4.out.1.mono HW.out.size)))
  clear hb4 HV4
  go_wp2_with fail
  refine K4.out.mono ?_
  intro r w5 hr
  obtain ⟨A5, c5, he, hl5, hb⟩ := hr.flat a_run2
  obtain rfl : r = .returned (.tuple #[.agg #[.string ⟨#[]⟩, .string ⟨#[]⟩, .int .i64 0, .int .u64 0, .string ⟨#[]⟩, .slice A5 0 c5], .int .i64 24, .int .i64 1]) := he
  have hba : Below w5.heap.size w5 (w5.alloc (.cells #[.string ⟨#[]⟩, .string ⟨#[]⟩, .int .i64 0, .int .u64 0, .string ⟨#[]⟩, .slice A5 0 c5] 27)) := bAl
  have S5 := hHd ((S4.out.go hb).go hba)
  have B5 := hHd ((B4.out.below hb B4.out.lt).below hba (Nat.lt_of_lt_of_le B4.out.lt hb.size))
  have L5 := hHd (LieB.below (LieB.below L4.out hb) hba)
  have K6 := (HC.out.one _ (zeroT, aUpF) aUpX (ndC zeroT (.slice A3 1 c3)) [.int .i64 2, .slice As 1 cs, .string ⟨#[]⟩, .string ⟨#[]⟩, .int .i64 0, .int .u64 0, .string ⟨#[]⟩, .slice none 0 0, .string ⟨#[117, 112]⟩, .string ⟨#[]⟩, .int .i64 3, .int .u64 1, .string ⟨#[]⟩, .slice none 0 0] _ (Nat.le_refl _) L5.out ⟨_, _, _, rfl, S5.out.2.2.2.s, FrV.empty _ _ _, FrV.empty _ _ _⟩ (by decide) ⟨by decide, by decide, by decide⟩ a_rgt.2.1 a_rgt.1 (HW.out.trans (S5.out.1.mono HW.out.size))).mono (fun _ _ k => PTreP.r k)
  rw [a_one] at K6
  have K6 := hHd K6
  clear hr hl5 hb hba K4 d0 d1 d2 d3 d4 d5 d6 d7 d8 d9 d10 d11 d12 d13
  obtain ⟨q0, q1, q2, q3, q4, q5⟩ := cl6 B5.out
  obtain ⟨y0, y1, y2, y3, y4, y5⟩ := cl6 S5.out.2.1
  have z1 : (w5.alloc (.cells #[.string ⟨#[]⟩, .string ⟨#[]⟩, .int .i64 0, .int .u64 0, .string ⟨#[]⟩, .slice A5 0 c5] 27)).cell? ⟨e2, 1, none⟩ = some (.slice As 1 cs) := (S5.out.2.2.1.cell 1).trans rfl
  go_wp2_with fail
  refine K6.out.mono ?_
  intro r w6 hr
  obtain ⟨A6, c6, he, hl6, hb⟩ := hr.flatR
  obtain rfl : r = .returned (.tuple #[.agg #[.string ⟨#[]⟩, .string ⟨#[]⟩, .int .i64 0, .int .u64 0, .string ⟨#[]⟩, .slice A6 0 c6], .int .i64 0]) := he
  have hba : Below w6.heap.size w6 (w6.alloc (.cells #[.string ⟨#[]⟩, .string ⟨#[]⟩, .int .i64 0, .int .u64 0, .string ⟨#[]⟩, .slice A6 0 c6] 27)) := bAl
  have B6 := hHd ((B5.out.below hb B5.out.lt).below hba (Nat.lt_of_lt_of_le B5.out.lt hb.size))
  have Z6 : Hid (Blk (w6.alloc (.cells #[.string ⟨#[]⟩, .string ⟨#[]⟩, .int .i64 0, .int .u64 0, .string ⟨#[]⟩, .slice A6 0 c6] 27)) w6.heap.size 27 #[.string ⟨#[]⟩, .string ⟨#[]⟩, .int .i64 0, .int .u64 0, .string ⟨#[]⟩, .slice A6 0 c6]) := hHd (Blk.new _ _ _)
  have S6 := hHd ((S5.out.go hb).go hba)
  clear hr hl6 hb hba K6 q0 q1 q2 q3 q4 q5 y0 y1 y2 y3 y4 y5 z1
  have v5 : (w6.alloc (.cells #[.string ⟨#[]⟩, .string ⟨#[]⟩, .int .i64 0, .int .u64 0, .string ⟨#[]⟩, .slice A6 0 c6] 27)).cell? ⟨w3.heap.size, 5, none⟩ = some (.slice A3 1 c3) := (B6.out.cell 5).trans rfl
  have u5 : (w6.alloc (.cells #[.string ⟨#[]⟩, .string ⟨#[]⟩, .int .i64 0, .int .u64 0, .string ⟨#[]⟩, .slice A6 0 c6] 27)).cell? ⟨w6.heap.size, 5, none⟩ = some (.slice A6 0 c6) := (Z6.out.cell 5).trans rfl
  go_wp2
  go_ret
  exact ⟨rfl, S6.out.1⟩
end
end Go.Proofs.Ythmobcaidhgeaaa
