/- EdvJ -/
import Derived.Test.YtleidkpdpabkpaaGreatDoorAM28
set_option linter.unusedSimpArgs false
set_option linter.unusedVariables false
set_option maxRecDepth 100000
set_option maxHeartbeats 8000000
namespace Go.Proofs.YtleidkpdpabkpaaGreatDoor
open Go.RowKit
section
attribute [local go_sem] Oper.semAt_some
def set14o (w : World) (b : Nat) (x0 x1 x2 x3 x4 x5 x6 x7 x8 x9 x10 x11 x12 x13 : Value) : World := (((((((((((((w.setCell ⟨b, 0, none⟩ x0).setCell ⟨b, 1, none⟩ x1).setCell ⟨b, 2, none⟩ x2).setCell ⟨b, 3, none⟩ x3).setCell ⟨b, 4, none⟩ x4).setCell ⟨b, 5, none⟩ x5).setCell ⟨b, 6, none⟩ x6).setCell ⟨b, 7, none⟩ x7).setCell ⟨b, 8, none⟩ x8).setCell ⟨b, 9, none⟩ x9).setCell ⟨b, 10, none⟩ x10).setCell ⟨b, 11, none⟩ x11).setCell ⟨b, 12, none⟩ x12).setCell ⟨b, 13, none⟩ x13
theorem Blk.set14o {w : World} {b : Nat} {t : TypeId} {y0 y1 y2 y3 y4 y5 y6 y7 y8 y9 y10 y11 y12 y13 : Value} (h : Blk w b t #[y0, y1, y2, y3, y4, y5, y6, y7, y8, y9, y10, y11, y12, y13]) (x0 x1 x2 x3 x4 x5 x6 x7 x8 x9 x10 x11 x12 x13 : Value) : Blk (set14o w b x0 x1 x2 x3 x4 x5 x6 x7 x8 x9 x10 x11 x12 x13) b t #[x0, x1, x2, x3, x4, x5, x6, x7, x8, x9, x10, x11, x12, x13] := by
 have h2 := ((((((((((((((h).set_ 0 x0).set_ 1 x1).set_ 2 x2).set_ 3 x3).set_ 4 x4).set_ 5 x5).set_ 6 x6).set_ 7 x7).set_ 8 x8).set_ 9 x9).set_ 10 x10).set_ 11 x11).set_ 12 x12).set_ 13 x13
 simp only [layS] at h2
 exact h2
theorem set14o_below {B : Nat} {w : World} {b : Nat} {x0 x1 x2 x3 x4 x5 x6 x7 x8 x9 x10 x11 x12 x13 : Value} (h : B ≤ b) : Below B w (set14o w b x0 x1 x2 x3 x4 x5 x6 x7 x8 x9 x10 x11 x12 x13) := (((((((((((((((Below.refl B w).setCell (p := ⟨b, 0, none⟩) h x0).setCell (p := ⟨b, 1, none⟩) h x1).setCell (p := ⟨b, 2, none⟩) h x2).setCell (p := ⟨b, 3, none⟩) h x3).setCell (p := ⟨b, 4, none⟩) h x4).setCell (p := ⟨b, 5, none⟩) h x5).setCell (p := ⟨b, 6, none⟩) h x6).setCell (p := ⟨b, 7, none⟩) h x7).setCell (p := ⟨b, 8, none⟩) h x8).setCell (p := ⟨b, 9, none⟩) h x9).setCell (p := ⟨b, 10, none⟩) h x10).setCell (p := ⟨b, 11, none⟩) h x11).setCell (p := ⟨b, 12, none⟩) h x12).setCell (p := ⟨b, 13, none⟩) h x13)
theorem set14o_other {w : World} {b g : Nat} {x0 x1 x2 x3 x4 x5 x6 x7 x8 x9 x10 x11 x12 x13 : Value} (h : g ≠ b) : (set14o w b x0 x1 x2 x3 x4 x5 x6 x7 x8 x9 x10 x11 x12 x13).heap[g]? = w.heap[g]? := by
 unfold set14o
 rw [Below.heap_setCell _ _ _ _ h, Below.heap_setCell _ _ _ _ h, Below.heap_setCell _ _ _ _ h, Below.heap_setCell _ _ _ _ h, Below.heap_setCell _ _ _ _ h, Below.heap_setCell _ _ _ _ h, Below.heap_setCell _ _ _ _ h, Below.heap_setCell _ _ _ _ h, Below.heap_setCell _ _ _ _ h, Below.heap_setCell _ _ _ _ h, Below.heap_setCell _ _ _ _ h, Below.heap_setCell _ _ _ _ h, Below.heap_setCell _ _ _ _ h, Below.heap_setCell _ _ _ _ h]
theorem set14o_size {w : World} {b : Nat} {x0 x1 x2 x3 x4 x5 x6 x7 x8 x9 x10 x11 x12 x13 : Value} : (set14o w b x0 x1 x2 x3 x4 x5 x6 x7 x8 x9 x10 x11 x12 x13).heap.size = w.heap.size := by simp [set14o, World.setCell]
def exS18 (kd : Nat) (s : Fo) : Bool := match (if kd = 1 then some s else nodeL18 5 s) with
 | none => false
 | some z => decide (z = .nil)
def AtP18 (t : Nat) (k s : Fo) (x : Nd) : Prop := exO18 t k = exS18 (t / 2) s ∧ (exS18 (t / 2) s = true → read18 V18 3 k = x ∧ read18 V18 5 k = read18 V18 5 s)
def AtO18 (t : Nat) (k z : Fo) (x y : Nd) : Prop := exO18 t k = decide (z = .nil) ∧ (z = .nil → read18 V18 3 k = x ∧ read18 V18 5 k = y)
theorem exO_way18 {t : Nat} {d : List UInt8} {q r : Fo} (ht : t % 2 = 1) (hp : (parseX15 d).2.1 = 0) : exO18 t (.cons 2 d q r) = exR18 (t / 2) r := by
 simp only [exO18, ht, hp]
 simp
theorem exO_two18 {t : Nat} {k : Fo} (h : hasX18 2 k = false) : exO18 t k = false := by
 cases k with
 | nil => rfl
 | cons u d q r =>
  have hu : ¬ u = 2 := by simpa [hasX18] using h
  simp only [exO18]
  rw [decide_eq_false hu, Bool.false_and, Bool.and_false]
theorem exO_par18 {t : Nat} {d : List UInt8} {q r : Fo} (h : ¬ (parseX15 d).2.1 = 0) : exO18 t (.cons 2 d q r) = false := by
 simp only [exO18]
 rw [decide_eq_false h, Bool.false_and, Bool.and_false, Bool.and_false]
theorem exO_odd18 {t : Nat} {k : Fo} (h : ¬ t % 2 = 1) : exO18 t k = false := by
 cases k with
 | nil => rfl
 | cons u d q r =>
  simp only [exO18]
  rw [decide_eq_false h, Bool.false_and]
theorem atP_no18 {t : Nat} {d : List UInt8} {q r : Fo} (ht : t % 2 = 1) (hp : (parseX15 d).2.1 = 0) (h2 : t / 2 = 2) : AtP18 t (.cons 2 d q r) r noN := by
 have e : exR18 (t / 2) r = exS18 (t / 2) r := by unfold exR18 exS18; rw [if_pos h2]; rfl
 refine ⟨by rw [exO_way18 ht hp, e], fun h => ?_⟩
 have h5 : read18 V18 5 (.cons 2 d q r) = read18 V18 5 r := by simp only [read18]; rw [if_neg (by decide)]
 refine ⟨?_, h5⟩
 unfold exS18 at h
 rw [if_neg (by omega)] at h
 simp only [read18]
 rw [if_neg (by decide)]
 cases r with
 | nil => rfl
 | cons u dd qq z =>
  simp only [nodeL18] at h
  split at h
  ·cases h
  ·rename_i x hx
   split at hx
   ·rename_i hu
    injection hx with hx
    subst hx
    have hz : z = .nil := by simpa using h
    subst hz
    simp only [read18]
    rw [if_neg (by omega)]
   ·cases hx
theorem atP_yes18 {t : Nat} {d d3 : List UInt8} {q q3 s : Fo} (ht : t % 2 = 1) (hp : (parseX15 d).2.1 = 0) (h2 : ¬ t / 2 = 2) (h : ex18 q3 0 = true) : AtP18 t (.cons 2 d q (.cons 3 d3 q3 s)) s (kid18 V18 q3, red18 V18 q3) := by
 refine ⟨?_, fun _ => ⟨by simp [read18], by simp [read18]⟩⟩
 rw [exO_way18 ht hp]
 unfold exR18 exS18
 rw [if_neg h2]
 simp only [nodeL18]
 rw [if_pos ⟨trivial, h⟩]
 rfl
theorem exP_no18 {t : Nat} {d : List UInt8} {q r : Fo} (ht : t % 2 = 1) (hp : (parseX15 d).2.1 = 0) (h2 : ¬ t / 2 = 2) (h : nodeL18 3 r = none) : exO18 t (.cons 2 d q r) = false := by
 rw [exO_way18 ht hp]
 unfold exR18
 rw [if_neg h2, h]
theorem nodeL_no18 {v : Nat} {r : Fo} (h : hasX18 v r = false) : nodeL18 v r = none := by
 cases r with
 | nil => rfl
 | cons u d q z =>
  have hu : ¬ u = v := by simpa [hasX18] using h
  simp [nodeL18, hu]
theorem nodeL_bad18 {v : Nat} {d : List UInt8} {q z : Fo} (h : ex18 q 0 = false) : nodeL18 v (.cons v d q z) = none := by
 simp [nodeL18, h]
theorem atO_no18 {t : Nat} {k s : Fo} {x : Nd} (h : AtP18 t k s x) (h1 : t / 2 = 1) : AtO18 t k s x noN := by
 have e : exS18 (t / 2) s = decide (s = .nil) := by unfold exS18; rw [if_pos h1]
 refine ⟨by rw [h.1, e], fun hs => ?_⟩
 obtain ⟨g1, g2⟩ := h.2 (by rw [e, hs]; rfl)
 exact ⟨g1, by rw [g2, hs]; rfl⟩
theorem atO_yes18 {t : Nat} {k z q : Fo} {d : List UInt8} {x : Nd} (h : AtP18 t k (.cons 5 d q z) x) (h1 : ¬ t / 2 = 1) (hq : ex18 q 0 = true) : AtO18 t k z x (kid18 V18 q, red18 V18 q) := by
 have e : exS18 (t / 2) (.cons 5 d q z) = decide (z = .nil) := by unfold exS18; rw [if_neg h1]; simp only [nodeL18]; rw [if_pos ⟨trivial, hq⟩]
 refine ⟨by rw [h.1, e], fun hs => ?_⟩
 obtain ⟨g1, g2⟩ := h.2 (by rw [e, hs]; rfl)
 exact ⟨g1, by rw [g2]; simp [read18]⟩
theorem exS_no18 {t : Nat} {k s : Fo} {x : Nd} (h : AtP18 t k s x) (h1 : ¬ t / 2 = 1) (hn : nodeL18 5 s = none) : exO18 t k = false := by
 rw [h.1]
 unfold exS18
 rw [if_neg h1, hn]
def New18 (w W : World) (g : Nat) : Prop := w.heap.size + 4 ≤ g ∧ g < W.heap.size
def Eo18 (w : World) (kd : Int) (wv : Value) (l : List Stp) (pa : NdD) (pf : NdF) (pv : Value) (oa : NdD) (ofs : NdF) (ov : Value) (r : Fo) (W : World) : Prop :=
 Blk W (w.heap.size + 1) 55 #[.int .i64 0, .slice none 0 0, .string ⟨#[]⟩, .string ⟨#[]⟩, .int .i64 0, .int .u64 0, .string ⟨#[]⟩, .slice none 0 0, .string ⟨#[]⟩, .string ⟨#[]⟩, .int .i64 0, .int .u64 0, .string ⟨#[]⟩, .slice none 0 0] ∧ Blk W (w.heap.size + 2) 55 (edC kd wv pa pv oa ov).toArray ∧ RdI18 (Lo w) W (w.heap.size + 3) r ∧ WayS (New18 w W) W wv l ∧ RowS (New18 w W) W pv pf ∧ RowS (New18 w W) W ov ofs ∧ Below w.heap.size w W ∧ w.heap.size + 4 ≤ W.heap.size
theorem Eo18.go {w W W' : World} {kd : Int} {wv : Value} {l : List Stp} {pa : NdD} {pf : NdF} {pv : Value} {oa : NdD} {ofs : NdF} {ov : Value} {r : Fo} (h : Eo18 w kd wv l pa pf pv oa ofs ov r W) (hb : Below W.heap.size W W') : Eo18 w kd wv l pa pf pv oa ofs ov r W' := by
 obtain ⟨h1, h2, h3, h4, h5, h6, h7, h8⟩ := h
 have hk : ∀ g, New18 w W g → W'.heap[g]? = W.heap[g]? := fun g hg => hb.block g hg.2
 have hs : ∀ g, New18 w W g → New18 w W' g := fun g hg => ⟨hg.1, Nat.lt_of_lt_of_le hg.2 hb.size⟩
 exact ⟨h1.below hb h1.lt, h2.below hb h2.lt, h3.go hb, h4.keep hk hs, h5.keep hk hs, h6.keep hk hs, h7.trans (hb.mono h7.size), Nat.le_trans h8 hb.size⟩
theorem Eo18.tak {w W W' : World} {kd : Int} {wv : Value} {l : List Stp} {pa : NdD} {pf : NdF} {pv : Value} {oa : NdD} {ofs : NdF} {ov : Value} {r r' : Fo} (h : Eo18 w kd wv l pa pf pv oa ofs ov r W) (hr : RdI18 (Lo w) W' (w.heap.size + 3) r') (hg : W.grownBy W' (some (w.heap.size + 3))) : Eo18 w kd wv l pa pf pv oa ofs ov r' W' := by
 obtain ⟨h1, h2, h3, h4, h5, h6, h7, h8⟩ := h
 have hk : ∀ g, New18 w W g → W'.heap[g]? = W.heap[g]? := fun g hn => hg.block g hn.2 (fun e => by have := Option.some.inj e; have := hn.1; omega)
 have hs : ∀ g, New18 w W g → New18 w W' g := fun g hn => ⟨hn.1, Nat.lt_of_lt_of_le hn.2 hg.size⟩
 exact ⟨h1.grown hg (fun e => by have := Option.some.inj e; omega), h2.grown hg (fun e => by have := Option.some.inj e; omega), hr, h4.keep hk hs, h5.keep hk hs, h6.keep hk hs, h7.grown hg h7.size (fun b e => by have := Option.some.inj e; omega), Nat.le_trans h8 hg.size⟩
theorem Eo18.set {w W W' : World} {kd : Int} {wv wv' : Value} {l l' : List Stp} {pa pa' : NdD} {pf pf' : NdF} {pv pv' : Value} {oa oa' : NdD} {ofs ofs' : NdF} {ov ov' : Value} {r : Fo} (h : Eo18 w kd wv l pa pf pv oa ofs ov r W) (hg : W.grownBy W' (some (w.heap.size + 2))) (hsz : W'.heap.size = W.heap.size)
  (hb : Blk W' (w.heap.size + 2) 55 (edC kd wv' pa' pv' oa' ov').toArray) (hw : WayS (New18 w W) W wv' l') (hp : RowS (New18 w W) W pv' pf') (ho : RowS (New18 w W) W ov' ofs') : Eo18 w kd wv' l' pa' pf' pv' oa' ofs' ov' r W' := by
 obtain ⟨h1, h2, h3, h4, h5, h6, h7, h8⟩ := h
 have hk : ∀ g, New18 w W g → W'.heap[g]? = W.heap[g]? := fun g hn => hg.block g hn.2 (fun e => by have := Option.some.inj e; have := hn.1; omega)
 have hs : ∀ g, New18 w W g → New18 w W' g := fun g hn => ⟨hn.1, Nat.lt_of_lt_of_le hn.2 hg.size⟩
 exact ⟨h1.grown hg (fun e => by have := Option.some.inj e; omega), hb, h3.other hg.size (fun b hl hb' => hg.block b hl (fun e => by have := Option.some.inj e; exact hb'.elim (fun h => by omega) (fun h => by have h9 : b < w.heap.size := h; omega))), hw.keep hk hs, hp.keep hk hs, ho.keep hk hs, h7.grown hg h7.size (fun b e => by have := Option.some.inj e; omega), Nat.le_trans h8 hg.size⟩
theorem way_new18 {w W0 W : World} {v : Value} {l : List Stp} (h : WayN15 W0.heap.size W v l) (hs : w.heap.size + 4 ≤ W0.heap.size) : WayS (New18 w W) W v l := by
 have h2 : WayS (fun g => W0.heap.size ≤ g ∧ g < W.heap.size) W v l := h
 exact h2.keep (fun _ _ => rfl) (fun g hg => ⟨Nat.le_trans hs hg.1, hg.2⟩)
theorem row_new18 {w W0 W : World} {a : NdD} {f : NdF} {A : Option Addr} {c : Nat} (h : LieP 0 W0.heap.size W (ndC a (.slice A f.len c)) (a, f)) (hs : w.heap.size + 4 ≤ W0.heap.size) : RowS (New18 w W) W (.slice A f.len c) f := by
 obtain ⟨A', c', e, h2⟩ := h.shape
 simp only [ndC, List.cons.injEq, true_and, and_true, Value.slice.injEq] at e
 obtain ⟨rfl, -, rfl⟩ := e
 have h3 : RowS (fun g => g < 0 ∨ (W0.heap.size ≤ g ∧ g < W.heap.size)) W (.slice A f.len c) f := h2
 exact h3.keep (fun _ _ => rfl) (fun g hg => hg.elim (fun h => absurd h (Nat.not_lt_zero _)) (fun hg => ⟨Nat.le_trans hs hg.1, hg.2⟩))
theorem grown_six18 (W : World) (b o : Nat) (x0 x1 x2 x3 x4 x5 : Value) : W.grownBy ((((((W.setCell ⟨b, o, none⟩ x0).setCell ⟨b, o + 1, none⟩ x1).setCell ⟨b, o + 2, none⟩ x2).setCell ⟨b, o + 3, none⟩ x3).setCell ⟨b, o + 4, none⟩ x4).setCell ⟨b, o + 5, none⟩ x5) (some b) :=
 gr_trans (gr_trans (gr_trans (gr_trans (gr_trans (grown_set18 _ b o x0) (grown_set18 _ b _ x1)) (grown_set18 _ b _ x2)) (grown_set18 _ b _ x3)) (grown_set18 _ b _ x4)) (grown_set18 _ b _ x5)
def EdOP18 (t : Nat) (k : Fo) (w : World) (r : Ending) (w' : World) : Prop := (exO18 t k = true ∧ ∃ wv pv ov, r = .returned (.agg (edC (devO18 t k).kind wv (devO18 t k).node.1 pv (devO18 t k).old.1 ov).toArray) ∧ EdS (fun g => w.heap.size ≤ g ∧ g < w'.heap.size) w' (edC (devO18 t k).kind wv (devO18 t k).node.1 pv (devO18 t k).old.1 ov) (devO18 t k) ∧ Below w.heap.size w w') ∨ (exO18 t k = false ∧ r = .panicked inv18 ∧ Below w.heap.size w w')
end
end Go.Proofs.YtleidkpdpabkpaaGreatDoor
