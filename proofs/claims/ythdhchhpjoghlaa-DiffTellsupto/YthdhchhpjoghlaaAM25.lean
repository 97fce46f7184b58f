/- DfvK -/
import Derived.Test.YthdhchhpjoghlaaAM0
import Derived.Test.YthdhchhpjoghlaaAM24
set_option linter.unusedSimpArgs false
set_option linter.unusedVariables false
namespace Go.Proofs.Ythdhchhpjoghlaa
open Go.RowKit
attribute [local go_sem] Oper.semAt_some
def PrgE (b : Nat) (S : Nat → Prop) (W : World) (v : Value) (M : List EdD) (u : Value) (l : List Stp) (E : List EdD) (W' : World) (v' : Value) (S' : Nat → Prop) : Prop :=
 StE b S' W' v' (M ++ E) u l ∧ TrK b v u W W' ∧ RowK9 W v v' ∧ ∀ g, S' g → S g ∨ W.heap.size ≤ g
section
variable {b : Nat} {S S1 : Nat → Prop} {W W1 W2 : World} {v v1 u : Value} {M E : List EdD} {l : List Stp}
theorem PrgE.start (h : StE b S W v M u l) : PrgE b S W v M u l [] W v S := ⟨by rw [List.append_nil]; exact h, TrK.refl _ _ _ _, RowK9.refl _ _, fun g h => .inl h⟩
theorem PrgE.below (h : PrgE b S W v M u l E W1 v1 S1) (hb : Below W1.heap.size W1 W2) : PrgE b S W v M u l E W2 v1 S1 := ⟨h.1.below hb, h.2.1.trans (TrK.below (v := v1) hb) h.2.2.1, h.2.2.1, h.2.2.2⟩
theorem PrgE.call (h : PrgE b S W v M u l E W1 v1 S1) {E' : List EdD} {r : Ending} (k : ToldP b S1 W1 v1 (M ++ E) E' u l r W2) : ∃ v2 S2, PrgE b S W v M u l (E ++ E') W2 v2 S2 := by
 obtain ⟨_, v2, S2, h1, h2, h3, h4⟩ := k
 refine ⟨v2, S2, by rw [← List.append_assoc]; exact h1, h.2.1.trans h2 h.2.2.1, h.2.2.1.trans h3 h.2.1.2.2.2.1, fun g hg => ?_⟩
 rcases h4 g hg with h5 | h5
 ·exact h.2.2.2 g h5
 ·exact .inr (Nat.le_trans h.2.1.2.2.2.1 h5)
theorem PrgE.told (h : PrgE b S W v M u l E W1 v1 S1) (x : Value) : ToldP b S W v M E u l (.returned x) W1 := ⟨⟨_, rfl⟩, v1, S1, h.1, h.2.1, h.2.2.1, h.2.2.2⟩
end
theorem ToldP.less {b : Nat} {S : Nat → Prop} {W W1 W2 : World} {v u : Value} {M E : List EdD} {l : List Stp} {r : Ending} (k : ToldP b S W1 v M E u l r W2) (hb : Below W.heap.size W W1) : ToldP b S W v M E u l r W2 := by
 obtain ⟨h0, v2, S2, h1, h2, h3, h4⟩ := k
 exact ⟨h0, v2, S2, h1, (TrK.below (v := v) hb).trans h2 (RowK9.refl _ _), h3.imp id (fun ⟨k, e, hk⟩ => ⟨k, e, Nat.le_trans hb.size hk⟩), fun g hg => (h4 g hg).imp id (fun h => Nat.le_trans hb.size h)⟩
theorem addat_any {b : Nat} {S S1 : Nat → Prop} {W W1 W2 : World} {v v1 u : Value} {M E : List EdD} {l : List Stp} (e : EdD) (Aw An Ao : Option Addr) (cw cn co : Nat) (h : PrgE b S W v M u l E W1 v1 S1)
  (hE : EdS (Fresh9 W1.heap.size W2) W2 (edC e.kind (.slice Aw e.way.length cw) e.node.1 (.slice An e.node.2.len cn) e.old.1 (.slice Ao e.old.2.len co)) e) (hb : Below W1.heap.size W1 W2) (hM : M.length + E.length ≤ 100000000) :
  Calls Try.prog 23 #[.agg #[.int .i64 e.kind, .slice Aw e.way.length cw, .string (txt e.node.1.name), .string (txt e.node.1.key), .int .i64 e.node.1.kind, .int .u64 (e.node.1.num : Int), .string (txt e.node.1.text), .slice An e.node.2.len cn, .string (txt e.old.1.name), .string (txt e.old.1.key), .int .i64 e.old.1.kind, .int .u64 (e.old.1.num : Int), .string (txt e.old.1.text), .slice Ao e.old.2.len co], .pointer (some ⟨b + 2, 0, none⟩)] W2 fun r W' => (∃ x, r = .returned x) ∧ ∃ v' S', PrgE b S W v M u l (E ++ [e]) W' v' S' ∧ TrK b v1 u W2 W' := by
 have hz := h.1.size
 refine (add_any b S1 (Fresh9 W1.heap.size W2) W2 v1 u (M ++ E) l e Aw An Ao cw cn co (h.1.below hb) hE (fun g hg => ⟨Nat.le_trans hz hg.1, hg.lt, fun e => by have := (h.1.vlt g e.symm).2; have := hg.1; omega, fun e => by have := (h.1.ult g e.symm).2; have := hg.1; omega⟩) (by rw [List.length_append]; exact hM)).mono ?_
 rintro r W' ⟨hr, v', h1, h2, h3⟩
 refine ⟨hr, v', _, ⟨by rw [← List.append_assoc]; exact h1, (h.below hb).2.1.trans h2 h.2.2.1, h.2.2.1.trans h3 (Nat.le_trans h.2.1.2.2.2.1 hb.size), fun g hg => ?_⟩, h2⟩
 rcases hg with hg | hg
 ·exact h.2.2.2 g hg
 ·exact .inr (Nat.le_trans h.2.1.2.2.2.1 hg.1)
def BesAt (n : Nat) : Prop := ∀ (f g : NdF), f.size + g.size < n → ∀ (b : Nat) (S : Nat → Prop) (W : World) (v u : Value) (M : List EdD) (l : List Stp) (A B : Option Addr) (c d : Nat), StE b S W v M u l →
 RowS (fun k => k < b) W (.slice A f.len c) f → RowS (fun k => k < b) W (.slice B g.len d) g → l.length + (f.size + g.size) ≤ 1000000 → M.length + (f.size + g.size) ≤ 90000000 →
 Calls Try.prog 30 #[u, .slice A f.len c, .slice B g.len d, .pointer (some ⟨b + 3, 0, none⟩), .pointer (some ⟨b + 5, 0, none⟩)] W (ToldP b S W v M (edF f g l) u l)
def BoxS (b k : Nat) (X Y : Array Value) (w : World) : Prop := Blk w (b + 3) 46 #[.func (.func 23) #[] #[.pointer (some ⟨b + 2, 0, none⟩)]] ∧ Blk w k 27 X ∧ Blk w (k + 1) 27 Y
theorem BoxS.below {b k : Nat} {X Y : Array Value} {w w' : World} (h : BoxS b k X Y w) (hb : Below w.heap.size w w') : BoxS b k X Y w' := ⟨h.1.below hb h.1.lt, h.2.1.below hb h.2.1.lt, h.2.2.below hb h.2.2.lt⟩
theorem BoxS.trk {b k : Nat} {X Y : Array Value} {w w' : World} {v u : Value} (h : BoxS b k X Y w) (ht : TrK b v u w w') (hk : b + 6 ≤ k) (hv : ∀ j, v.ownBlock = some j → b + 6 ≤ j ∧ (j < k ∨ k + 1 < j)) (hu : ∀ j, u.ownBlock = some j → b + 6 ≤ j ∧ j < k) : BoxS b k X Y w' := by
 have e : ∀ g, g < w.heap.size → g ≠ b + 2 → (g < b + 6 ∨ g = k ∨ g = k + 1) → w'.heap[g]? = w.heap[g]? := fun g h1 h2 h3 => ht.2.2.2.2 g h1 h2 (fun e => by have := hv g e.symm; omega) (fun e => by have := hu g e.symm; omega)
 exact ⟨(e _ h.1.lt (by omega) (.inl (by omega))).trans h.1, (e _ h.2.1.lt (by omega) (.inr (.inl rfl))).trans h.2.1, (e _ h.2.2.lt (by omega) (.inr (.inr rfl))).trans h.2.2⟩
theorem edK_leaf {x y : Nd} {w : List Stp} (h1 : x.1.kind ≠ 0) (h2 : y.1.kind ≠ 0) : edK x y w = if x = y then [] else [⟨3, w, y, x⟩] := by
 unfold edK
 split
 ·rfl
 ·rw [if_pos ⟨h1, h2⟩]
theorem edK_box {x y : Nd} {w : List Stp} (h1 : x.1.kind = 0) (h2 : y.1.kind = 0) : edK x y w = edF x.2 y.2 w := by
 unfold edK
 split
 ·rename_i h; rw [h, ed_self]
 ·rw [if_neg (fun h => h.1 h1), if_pos ⟨h1, h2⟩]
theorem edK_mixed {x y : Nd} {w : List Stp} (h : ¬ (x.1.kind = 0 ↔ y.1.kind = 0)) : edK x y w = [delE w x, newE w y] := by
 unfold edK
 rw [if_neg (fun e => h (by rw [e])), if_neg (fun k => h ⟨fun h => absurd h k.1, fun h => absurd h k.2⟩), if_neg (fun k => h ⟨fun _ => k.2, fun _ => k.1⟩)]
set_option maxRecDepth 100000 in
set_option maxHeartbeats 16000000 in
theorem both_any (n : Nat) (ih : BesAt n) (x y : Nd) (hsz : x.2.size + y.2.size < n) (b : Nat) (S : Nat → Prop) (W : World) (v u : Value) (M : List EdD) (l : List Stp) (A B : Option Addr) (c d : Nat) (h : StE b S W v M u l)
  (hx : RowS (fun k => k < b) W (.slice A x.2.len c) x.2) (hy : RowS (fun k => k < b) W (.slice B y.2.len d) y.2) (hl : l.length + (x.2.size + y.2.size) ≤ 1000000) (hM : M.length + (x.2.size + y.2.size + 2) ≤ 90000000) :
  Calls Try.prog 24 #[u, .agg #[.string (txt x.1.name), .string (txt x.1.key), .int .i64 x.1.kind, .int .u64 (x.1.num : Int), .string (txt x.1.text), .slice A x.2.len c], .agg #[.string (txt y.1.name), .string (txt y.1.key), .int .i64 y.1.kind, .int .u64 (y.1.num : Int), .string (txt y.1.text), .slice B y.2.len d], .pointer (some ⟨b + 3, 0, none⟩), .pointer (some ⟨b + 4, 0, none⟩)] W (ToldP b S W v M (edK x y l) u l) := by
 obtain ⟨Au, cu, rfl⟩ := OwnK.shape h.way
 have hb : Below W.heap.size W ((W.alloc (.cells #[.string (txt x.1.name), .string (txt x.1.key), .int .i64 x.1.kind, .int .u64 (x.1.num : Int), .string (txt x.1.text), .slice A x.2.len c] 27)).alloc (.cells #[.string (txt y.1.name), .string (txt y.1.key), .int .i64 y.1.kind, .int .u64 (y.1.num : Int), .string (txt y.1.text), .slice B y.2.len d] 27)) := ((Below.refl _ _).alloc (Nat.le_refl _) _).alloc (by simp) _
 have HP0 := Lib.hid (PrgE.start (h.below hb))
 have HBW := Lib.hid hb
 have HW1 : Hid (((W.alloc (.cells #[.string (txt x.1.name), .string (txt x.1.key), .int .i64 x.1.kind, .int .u64 (x.1.num : Int), .string (txt x.1.text), .slice A x.2.len c] 27)).alloc (.cells #[.string (txt y.1.name), .string (txt y.1.key), .int .i64 y.1.kind, .int .u64 (y.1.num : Int), .string (txt y.1.text), .slice B y.2.len d] 27)).heap.size = W.heap.size + 2) := Lib.hid (by simp)
 have HBB : Hid (b ≤ ((W.alloc (.cells #[.string (txt x.1.name), .string (txt x.1.key), .int .i64 x.1.kind, .int .u64 (x.1.num : Int), .string (txt x.1.text), .slice A x.2.len c] 27)).alloc (.cells #[.string (txt y.1.name), .string (txt y.1.key), .int .i64 y.1.kind, .int .u64 (y.1.num : Int), .string (txt y.1.text), .slice B y.2.len d] 27)).heap.size) := Lib.hid (Nat.le_trans (by have := h.size; omega) hb.size)
 have hzs := h.size
 have HU := Lib.hid h.ult
 have hbox : BoxS b W.heap.size #[.string (txt x.1.name), .string (txt x.1.key), .int .i64 x.1.kind, .int .u64 (x.1.num : Int), .string (txt x.1.text), .slice A x.2.len c] #[.string (txt y.1.name), .string (txt y.1.key), .int .i64 y.1.kind, .int .u64 (y.1.num : Int), .string (txt y.1.text), .slice B y.2.len d] ((W.alloc (.cells #[.string (txt x.1.name), .string (txt x.1.key), .int .i64 x.1.kind, .int .u64 (x.1.num : Int), .string (txt x.1.text), .slice A x.2.len c] 27)).alloc (.cells #[.string (txt y.1.name), .string (txt y.1.key), .int .i64 y.1.kind, .int .u64 (y.1.num : Int), .string (txt y.1.text), .slice B y.2.len d] 27)) := ⟨h.env.1.below hb h.env.1.lt, (Blk.new W 27 _).alloc _, Blk.newA (by simp) _ _⟩
 have HX0 := Lib.hid hbox
 have HZ := Lib.hid hzs
 have HVL := Lib.hid h.vlt
 have HRX := Lib.hid hx
 have HRY := Lib.hid hy
 have HL := Lib.hid hl
 have HM := Lib.hid hM
 have HIH := Lib.hid ih
 have HSZ := Lib.hid hsz
 -- rows of what came in, wherever it has got to
 have HROW : Hid (∀ (E : List EdD) (W1 : World) (v1 : Value) (S1 : Nat → Prop), PrgE b S ((W.alloc (.cells #[.string (txt x.1.name), .string (txt x.1.key), .int .i64 x.1.kind, .int .u64 (x.1.num : Int), .string (txt x.1.text), .slice A x.2.len c] 27)).alloc (.cells #[.string (txt y.1.name), .string (txt y.1.key), .int .i64 y.1.kind, .int .u64 (y.1.num : Int), .string (txt y.1.text), .slice B y.2.len d] 27)) v M (.slice Au l.length cu) l E W1 v1 S1 → ∀ g, g < b → W1.heap[g]? = W.heap[g]?) := Lib.hid fun E W1 v1 S1 hp g hg => (hp.2.1.2.2.2.2 g (Nat.lt_of_lt_of_le (show g < W.heap.size by omega) HBW.out.size) (by omega) (fun e => by have := (HVL.out g e.symm).1; omega) (fun e => by have := (HU.out g e.symm).1; omega)).trans (HBW.out.block g (by omega))
 -- an edit that is told, and added
 have HBX : Hid (∀ (E : List EdD) (W1 W2 W3 : World) (v1 : Value) (S1 : Nat → Prop), PrgE b S ((W.alloc (.cells #[.string (txt x.1.name), .string (txt x.1.key), .int .i64 x.1.kind, .int .u64 (x.1.num : Int), .string (txt x.1.text), .slice A x.2.len c] 27)).alloc (.cells #[.string (txt y.1.name), .string (txt y.1.key), .int .i64 y.1.kind, .int .u64 (y.1.num : Int), .string (txt y.1.text), .slice B y.2.len d] 27)) v M (.slice Au l.length cu) l E W1 v1 S1 → Below W1.heap.size W1 W2 → BoxS b W.heap.size #[.string (txt x.1.name), .string (txt x.1.key), .int .i64 x.1.kind, .int .u64 (x.1.num : Int), .string (txt x.1.text), .slice A x.2.len c] #[.string (txt y.1.name), .string (txt y.1.key), .int .i64 y.1.kind, .int .u64 (y.1.num : Int), .string (txt y.1.text), .slice B y.2.len d] W2 → TrK b v1 (.slice Au l.length cu) W2 W3 → BoxS b W.heap.size #[.string (txt x.1.name), .string (txt x.1.key), .int .i64 x.1.kind, .int .u64 (x.1.num : Int), .string (txt x.1.text), .slice A x.2.len c] #[.string (txt y.1.name), .string (txt y.1.key), .int .i64 y.1.kind, .int .u64 (y.1.num : Int), .string (txt y.1.text), .slice B y.2.len d] W3) := Lib.hid fun E W1 W2 W3 v1 S1 hp hb hbx ht => hbx.trk ht HZ.out (fun j e => ⟨(hp.1.vlt j e).1, by
  rcases hp.2.2.1 with h | ⟨k, h, hk⟩
  ·rw [h] at e; exact .inl (HVL.out j e).2
  ·rw [h] at e; injection e with e; have := HW1.out; omega⟩) HU.out
 clear h hb hbox hx hy hl hM ih hsz
 by_cases hx : x.1.kind = 0
 ·by_cases hy : y.1.kind = 0
  ·have HK : Hid (edK x y l = edF x.2 y.2 l) := Lib.hid (edK_box hx hy)
   have CX : Hid (∀ w', Calls Try.prog 25 #[.agg #[.string (txt x.1.name), .string (txt x.1.key), .int .i64 x.1.kind, .int .u64 (x.1.num : Int), .string (txt x.1.text), .slice A x.2.len c]] w' (Ans9 (.bool false) w')) := Lib.hid fun w' => by have h := dleaf_any x.1 (.slice A x.2.len c) w'; rwa [show decide (x.1.kind ≠ 0) = false by simp [hx]] at h
   have CY : Hid (∀ w', Calls Try.prog 25 #[.agg #[.string (txt y.1.name), .string (txt y.1.key), .int .i64 y.1.kind, .int .u64 (y.1.num : Int), .string (txt y.1.text), .slice B y.2.len d]] w' (Ans9 (.bool false) w')) := Lib.hid fun w' => by have h := dleaf_any y.1 (.slice B y.2.len d) w'; rwa [show decide (y.1.kind ≠ 0) = false by simp [hy]] at h
   have HD0 : Hid (BoxS b W.heap.size #[.string (txt x.1.name), .string (txt x.1.key), .int .i64 x.1.kind, .int .u64 (x.1.num : Int), .string (txt x.1.text), .slice A x.2.len c] #[.string (txt y.1.name), .string (txt y.1.key), .int .i64 y.1.kind, .int .u64 (y.1.num : Int), .string (txt y.1.text), .slice B y.2.len d] ((W.alloc (.cells #[.string (txt x.1.name), .string (txt x.1.key), .int .i64 x.1.kind, .int .u64 (x.1.num : Int), .string (txt x.1.text), .slice A x.2.len c] 27)).alloc (.cells #[.string (txt y.1.name), .string (txt y.1.key), .int .i64 y.1.kind, .int .u64 (y.1.num : Int), .string (txt y.1.text), .slice B y.2.len d] 27)).drew ∧ PrgE b S ((W.alloc (.cells #[.string (txt x.1.name), .string (txt x.1.key), .int .i64 x.1.kind, .int .u64 (x.1.num : Int), .string (txt x.1.text), .slice A x.2.len c] 27)).alloc (.cells #[.string (txt y.1.name), .string (txt y.1.key), .int .i64 y.1.kind, .int .u64 (y.1.num : Int), .string (txt y.1.text), .slice B y.2.len d] 27)) v M (.slice Au l.length cu) l [] ((W.alloc (.cells #[.string (txt x.1.name), .string (txt x.1.key), .int .i64 x.1.kind, .int .u64 (x.1.num : Int), .string (txt x.1.text), .slice A x.2.len c] 27)).alloc (.cells #[.string (txt y.1.name), .string (txt y.1.key), .int .i64 y.1.kind, .int .u64 (y.1.num : Int), .string (txt y.1.text), .slice B y.2.len d] 27)).drew v S) := Lib.hid ⟨HX0.out.below (Below.refl _ _).drew, HP0.out.below (Below.refl _ _).drew⟩
   clear hx hy
   go_enter Try.func24, Try.ntmps24
   go_wp2_with fail
   refine wp_region_noPanic ?_
   refine wp_region_held_drew (S := fun _ => True) (by kernel_rfl) trivial (fun hS => ?_)
   refine held_more (S' := fun w' => BoxS b W.heap.size #[.string (txt x.1.name), .string (txt x.1.key), .int .i64 x.1.kind, .int .u64 (x.1.num : Int), .string (txt x.1.text), .slice A x.2.len c] #[.string (txt y.1.name), .string (txt y.1.key), .int .i64 y.1.kind, .int .u64 (y.1.num : Int), .string (txt y.1.text), .slice B y.2.len d] w') (fun _ _ => trivial) _ _ _ _ ?_
   replace hS := HD0.out.1
   refine tkH 0 hS ?_ (hy := fun w hSw => by have q0 := (hSw.2.1.cell 0).trans rfl; have q1 := (hSw.2.1.cell 1).trans rfl; have q2 := (hSw.2.1.cell 2).trans rfl; have q3 := (hSw.2.1.cell 3).trans rfl; have q4 := (hSw.2.1.cell 4).trans rfl; have q5 := (hSw.2.1.cell 5).trans rfl; (go_simp <;> with_reducible rfl))
   refine tkH 2 hS ?_ (hy := fun w hSw => by have q0 := (hSw.2.2.cell 0).trans rfl; have q1 := (hSw.2.2.cell 1).trans rfl; have q2 := (hSw.2.2.cell 2).trans rfl; have q3 := (hSw.2.2.cell 3).trans rfl; have q4 := (hSw.2.2.cell 4).trans rfl; have q5 := (hSw.2.2.cell 5).trans rfl; (go_simp <;> with_reducible rfl))
   refine wpAnyH_ready (rs := [1]) (by kernel_rfl) (by simp) ?_
   refine (AllReadyH.cons (o := ?or_0) ?ir_0 (fun K hK => ?str_0) AllReadyH.nil)
   case ir_0 => simp only [layG]; rfl
   rw [if_pos (by rfl)]
   go_simp
   refine (CX.out _).mono ?_
   rintro r w1 ⟨rfl, hb⟩
   have Hw1 := Lib.hid (And.intro (HD0.out.1.below hb) (HD0.out.2.below hb))
   clear hb
   go_wp2_with fail
   refine hK.out _ _ ?sr_0 (fun hS => ?_)
   case sr_0 => (exact Hw1.out.1)
   clear hK K
   (try simp only [Act.put, layS])
   refine wpAnyH_ready (rs := [3]) (by kernel_rfl) (by simp) ?_
   refine (AllReadyH.cons (o := ?or_1) ?ir_1 (fun K hK => ?str_1) AllReadyH.nil)
   case ir_1 => simp only [layG]; rfl
   rw [if_pos (by rfl)]
   go_simp
   refine (CY.out _).mono ?_
   rintro r w2 ⟨rfl, hb⟩
   have Hw2 := Lib.hid (And.intro (Hw1.out.1.below hb) (Hw1.out.2.below hb))
   clear hb
   go_wp2_with fail
   refine hK.out _ _ ?sr_1 (fun hS => ?_)
   case sr_1 => (exact Hw2.out.1)
   clear hK K
   (try simp only [Act.put, layS])
   refine tkH 4 hS ?_
   refine tkH 5 hS ?_
   refine wpAnyH_done (by kernel_rfl) ?_ _
   refine NoPanic.normal ?_
   clear hS
   have z0 := (Hw2.out.1.2.1.cell 0).trans rfl
   have z1 := (Hw2.out.1.2.1.cell 1).trans rfl
   have z2 := (Hw2.out.1.2.1.cell 2).trans rfl
   have z3 := (Hw2.out.1.2.1.cell 3).trans rfl
   have z4 := (Hw2.out.1.2.1.cell 4).trans rfl
   have z5 := (Hw2.out.1.2.1.cell 5).trans rfl
   go_wp2_with fail
   refine (CX.out _).mono ?_
   rintro r w3 ⟨rfl, hb⟩
   have Hw3 := Lib.hid (And.intro (Hw2.out.1.below hb) (Hw2.out.2.below hb))
   clear hb
   have HC : Hid (Calls Try.prog 30 #[.slice Au l.length cu, .slice A x.2.len c, .slice B y.2.len d, .pointer (some ⟨b + 3, 0, none⟩), .pointer (some ⟨b + 5, 0, none⟩)] w3 (ToldP b S w3 v (M ++ []) (edF x.2 y.2 l) (.slice Au l.length cu) l)) := Lib.hid (HIH.out x.2 y.2 HSZ.out b S w3 v _ (M ++ []) l A B c d Hw3.out.2.1 (RowS.keep HRX.out (HROW.out _ _ _ _ Hw3.out.2) (fun _ h => h)) (RowS.keep HRY.out (HROW.out _ _ _ _ Hw3.out.2) (fun _ h => h)) HL.out (by have := HM.out; simp; omega))
   have q0 : w3.cell? ⟨b + 4, 0, none⟩ = _ := (Hw3.out.2.1.env.2.1.cell 0).trans rfl
   have q3 : w3.cell? ⟨W.heap.size, 5, none⟩ = some (.slice A x.2.len c) := (Hw3.out.1.2.1.cell 5).trans rfl
   have q4 : w3.cell? ⟨W.heap.size + 1, 5, none⟩ = some (.slice B y.2.len d) := (Hw3.out.1.2.2.cell 5).trans rfl
   clear z0 z1 z2 z3 z4 z5
   go_wp2_with fail
   refine HC.out.mono ?_
   intro r w4 hr
   obtain ⟨xr, rfl⟩ := hr.1
   obtain ⟨v4, S4, hp⟩ := Hw3.out.2.call hr
   have HF := Lib.hid hp
   clear hr hp q0 q3 q4
   go_wp2
   go_end0
   rw [HK.out]
   exact (HF.out.told _).less HBW.out
  ·have HK : Hid (edK x y l = [delE l x, newE l y]) := Lib.hid (edK_mixed (fun e => hy (e.1 hx)))
   have CX : Hid (∀ w', Calls Try.prog 25 #[.agg #[.string (txt x.1.name), .string (txt x.1.key), .int .i64 x.1.kind, .int .u64 (x.1.num : Int), .string (txt x.1.text), .slice A x.2.len c]] w' (Ans9 (.bool false) w')) := Lib.hid fun w' => by have h := dleaf_any x.1 (.slice A x.2.len c) w'; rwa [show decide (x.1.kind ≠ 0) = false by simp [hx]] at h
   have CY : Hid (∀ w', Calls Try.prog 25 #[.agg #[.string (txt y.1.name), .string (txt y.1.key), .int .i64 y.1.kind, .int .u64 (y.1.num : Int), .string (txt y.1.text), .slice B y.2.len d]] w' (Ans9 (.bool true) w')) := Lib.hid fun w' => by have h := dleaf_any y.1 (.slice B y.2.len d) w'; rwa [show decide (y.1.kind ≠ 0) = true by simp [hy]] at h
   have HD0 : Hid (BoxS b W.heap.size #[.string (txt x.1.name), .string (txt x.1.key), .int .i64 x.1.kind, .int .u64 (x.1.num : Int), .string (txt x.1.text), .slice A x.2.len c] #[.string (txt y.1.name), .string (txt y.1.key), .int .i64 y.1.kind, .int .u64 (y.1.num : Int), .string (txt y.1.text), .slice B y.2.len d] ((W.alloc (.cells #[.string (txt x.1.name), .string (txt x.1.key), .int .i64 x.1.kind, .int .u64 (x.1.num : Int), .string (txt x.1.text), .slice A x.2.len c] 27)).alloc (.cells #[.string (txt y.1.name), .string (txt y.1.key), .int .i64 y.1.kind, .int .u64 (y.1.num : Int), .string (txt y.1.text), .slice B y.2.len d] 27)).drew ∧ PrgE b S ((W.alloc (.cells #[.string (txt x.1.name), .string (txt x.1.key), .int .i64 x.1.kind, .int .u64 (x.1.num : Int), .string (txt x.1.text), .slice A x.2.len c] 27)).alloc (.cells #[.string (txt y.1.name), .string (txt y.1.key), .int .i64 y.1.kind, .int .u64 (y.1.num : Int), .string (txt y.1.text), .slice B y.2.len d] 27)) v M (.slice Au l.length cu) l [] ((W.alloc (.cells #[.string (txt x.1.name), .string (txt x.1.key), .int .i64 x.1.kind, .int .u64 (x.1.num : Int), .string (txt x.1.text), .slice A x.2.len c] 27)).alloc (.cells #[.string (txt y.1.name), .string (txt y.1.key), .int .i64 y.1.kind, .int .u64 (y.1.num : Int), .string (txt y.1.text), .slice B y.2.len d] 27)).drew v S) := Lib.hid ⟨HX0.out.below (Below.refl _ _).drew, HP0.out.below (Below.refl _ _).drew⟩
   clear hx hy
   go_enter Try.func24, Try.ntmps24
   go_wp2_with fail
   refine wp_region_noPanic ?_
   refine wp_region_held_drew (S := fun _ => True) (by kernel_rfl) trivial (fun hS => ?_)
   refine held_more (S' := fun w' => BoxS b W.heap.size #[.string (txt x.1.name), .string (txt x.1.key), .int .i64 x.1.kind, .int .u64 (x.1.num : Int), .string (txt x.1.text), .slice A x.2.len c] #[.string (txt y.1.name), .string (txt y.1.key), .int .i64 y.1.kind, .int .u64 (y.1.num : Int), .string (txt y.1.text), .slice B y.2.len d] w') (fun _ _ => trivial) _ _ _ _ ?_
   replace hS := HD0.out.1
   refine tkH 0 hS ?_ (hy := fun w hSw => by have q0 := (hSw.2.1.cell 0).trans rfl; have q1 := (hSw.2.1.cell 1).trans rfl; have q2 := (hSw.2.1.cell 2).trans rfl; have q3 := (hSw.2.1.cell 3).trans rfl; have q4 := (hSw.2.1.cell 4).trans rfl; have q5 := (hSw.2.1.cell 5).trans rfl; (go_simp <;> with_reducible rfl))
   refine tkH 2 hS ?_ (hy := fun w hSw => by have q0 := (hSw.2.2.cell 0).trans rfl; have q1 := (hSw.2.2.cell 1).trans rfl; have q2 := (hSw.2.2.cell 2).trans rfl; have q3 := (hSw.2.2.cell 3).trans rfl; have q4 := (hSw.2.2.cell 4).trans rfl; have q5 := (hSw.2.2.cell 5).trans rfl; (go_simp <;> with_reducible rfl))
   refine wpAnyH_ready (rs := [1]) (by kernel_rfl) (by simp) ?_
   refine (AllReadyH.cons (o := ?or_2) ?ir_2 (fun K hK => ?str_2) AllReadyH.nil)
   case ir_2 => simp only [layG]; rfl
   rw [if_pos (by rfl)]
   go_simp
   refine (CX.out _).mono ?_
   rintro r w1 ⟨rfl, hb⟩
   have Hw1 := Lib.hid (And.intro (HD0.out.1.below hb) (HD0.out.2.below hb))
   clear hb
   go_wp2_with fail
   refine hK.out _ _ ?sr_2 (fun hS => ?_)
   case sr_2 => (exact Hw1.out.1)
   clear hK K
   (try simp only [Act.put, layS])
   refine wpAnyH_ready (rs := [3]) (by kernel_rfl) (by simp) ?_
   refine (AllReadyH.cons (o := ?or_3) ?ir_3 (fun K hK => ?str_3) AllReadyH.nil)
   case ir_3 => simp only [layG]; rfl
   rw [if_pos (by rfl)]
   go_simp
   refine (CY.out _).mono ?_
   rintro r w2 ⟨rfl, hb⟩
   have Hw2 := Lib.hid (And.intro (Hw1.out.1.below hb) (Hw1.out.2.below hb))
   clear hb
   go_wp2_with fail
   refine hK.out _ _ ?sr_3 (fun hS => ?_)
   case sr_3 => (exact Hw2.out.1)
   clear hK K
   (try simp only [Act.put, layS])
   refine tkH 4 hS ?_
   refine tkH 5 hS ?_
   refine wpAnyH_done (by kernel_rfl) ?_ _
   refine NoPanic.normal ?_
   clear hS
   go_wp2_with fail
   have HD : Hid (BoxS b W.heap.size #[.string (txt x.1.name), .string (txt x.1.key), .int .i64 x.1.kind, .int .u64 (x.1.num : Int), .string (txt x.1.text), .slice A x.2.len c] #[.string (txt y.1.name), .string (txt y.1.key), .int .i64 y.1.kind, .int .u64 (y.1.num : Int), .string (txt y.1.text), .slice B y.2.len d] w2.drew ∧ PrgE b S ((W.alloc (.cells #[.string (txt x.1.name), .string (txt x.1.key), .int .i64 x.1.kind, .int .u64 (x.1.num : Int), .string (txt x.1.text), .slice A x.2.len c] 27)).alloc (.cells #[.string (txt y.1.name), .string (txt y.1.key), .int .i64 y.1.kind, .int .u64 (y.1.num : Int), .string (txt y.1.text), .slice B y.2.len d] 27)) v M (.slice Au l.length cu) l [] w2.drew v S) := Lib.hid ⟨Hw2.out.1.below (Below.refl _ _).drew, Hw2.out.2.below (Below.refl _ _).drew⟩
   have HC : Hid (Calls Try.prog 26 #[.slice Au l.length cu, .agg #[.string (txt x.1.name), .string (txt x.1.key), .int .i64 x.1.kind, .int .u64 (x.1.num : Int), .string (txt x.1.text), .slice A x.2.len c]] w2.drew (EditP (delE l x) w2.drew)) := Lib.hid (deleted_any l _ x A c w2.drew (OwnS.way HD.out.2.1.way) (by have := HL.out; omega) (RowS.lie (RowS.keep HRX.out (HROW.out _ _ _ _ HD.out.2) (fun g hg => Nat.lt_of_lt_of_le (Nat.lt_of_lt_of_le hg HBB.out) HD.out.2.2.1.2.2.2.1))) (by have := HL.out; unfold Few9; omega))
   refine wp_region_noPanic ?_
   refine wp_region_held_drew (S := fun _ => True) (by kernel_rfl) trivial (fun hS => ?_)
   refine held_more (S' := fun w' => BoxS b W.heap.size #[.string (txt x.1.name), .string (txt x.1.key), .int .i64 x.1.kind, .int .u64 (x.1.num : Int), .string (txt x.1.text), .slice A x.2.len c] #[.string (txt y.1.name), .string (txt y.1.key), .int .i64 y.1.kind, .int .u64 (y.1.num : Int), .string (txt y.1.text), .slice B y.2.len d] w') (fun _ _ => trivial) _ _ _ _ ?_
   replace hS := HD.out.1
   refine tkH 0 hS ?_ (hy := fun w hSw => by have q0 := (hSw.1.cell 0).trans rfl; (go_simp <;> with_reducible rfl))
   refine tkH 1 hS ?_
   refine tkH 2 hS ?_ (hy := fun w hSw => by have q0 := (hSw.2.1.cell 0).trans rfl; have q1 := (hSw.2.1.cell 1).trans rfl; have q2 := (hSw.2.1.cell 2).trans rfl; have q3 := (hSw.2.1.cell 3).trans rfl; have q4 := (hSw.2.1.cell 4).trans rfl; have q5 := (hSw.2.1.cell 5).trans rfl; (go_simp <;> with_reducible rfl))
   refine wpAnyH_ready (rs := [3]) (by kernel_rfl) (by simp) ?_
   refine (AllReadyH.cons (o := ?or_4) ?ir_4 (fun K hK => ?str_4) AllReadyH.nil)
   case ir_4 => simp only [layG]; rfl
   rw [if_pos (by rfl)]
   go_simp
   refine HC.out.mono ?_
   rintro r w4 ⟨A1, c1, A2, c2, A3, c3, hr, hE, hb⟩
   have hr2 : r = .returned (.agg #[.int .i64 2, .slice A1 l.length c1, .string ⟨#[]⟩, .string ⟨#[]⟩, .int .i64 0, .int .u64 0, .string ⟨#[]⟩, .slice A2 0 c2, .string (txt x.1.name), .string (txt x.1.key), .int .i64 x.1.kind, .int .u64 (x.1.num : Int), .string (txt x.1.text), .slice A3 x.2.len c3]) := hr
   subst hr2
   have HB4 := Lib.hid hb
   have HX4 := Lib.hid (HD.out.1.below hb)
   have HA4 := Lib.hid (addat_any (delE l x) A1 A2 A3 c1 c2 c3 HD.out.2 hE hb (by have := HM.out; simp; omega))
   clear hr hE hb
   go_wp2_with fail
   refine hK.out _ _ ?sr_4 (fun hS => ?_)
   case sr_4 => (exact HX4.out)
   clear hK K
   (try simp only [Act.put, layS])
   refine wpAnyH_ready (rs := [4]) (by kernel_rfl) (by simp) ?_
   refine (AllReadyH.cons (o := ?or_5) ?ir_5 (fun K hK => ?str_5) AllReadyH.nil)
   case ir_5 => simp only [layG]; rfl
   rw [if_pos (by rfl)]
   go_simp
   refine HA4.out.mono ?_
   rintro r w5 ⟨⟨xr, rfl⟩, vn, Sn, hp, ht⟩
   have Hw5 := Lib.hid (And.intro (HBX.out _ _ _ _ _ _ HD.out.2 HB4.out HX4.out ht) hp)
   clear hp ht
   go_wp2_with fail
   refine hK.out _ _ ?sr_5 (fun hS => ?_)
   case sr_5 => (exact Hw5.out.1)
   clear hK K
   (try simp only [Act.put, layS])
   refine wpAnyH_done (by kernel_rfl) ?_ _
   refine NoPanic.normal ?_
   clear hS
   go_wp2_with fail
   have HD : Hid (BoxS b W.heap.size #[.string (txt x.1.name), .string (txt x.1.key), .int .i64 x.1.kind, .int .u64 (x.1.num : Int), .string (txt x.1.text), .slice A x.2.len c] #[.string (txt y.1.name), .string (txt y.1.key), .int .i64 y.1.kind, .int .u64 (y.1.num : Int), .string (txt y.1.text), .slice B y.2.len d] w5.drew ∧ PrgE b S ((W.alloc (.cells #[.string (txt x.1.name), .string (txt x.1.key), .int .i64 x.1.kind, .int .u64 (x.1.num : Int), .string (txt x.1.text), .slice A x.2.len c] 27)).alloc (.cells #[.string (txt y.1.name), .string (txt y.1.key), .int .i64 y.1.kind, .int .u64 (y.1.num : Int), .string (txt y.1.text), .slice B y.2.len d] 27)) v M (.slice Au l.length cu) l ([] ++ [delE l x]) w5.drew vn Sn) := Lib.hid ⟨Hw5.out.1.below (Below.refl _ _).drew, Hw5.out.2.below (Below.refl _ _).drew⟩
   have HC : Hid (Calls Try.prog 27 #[.slice Au l.length cu, .agg #[.string (txt y.1.name), .string (txt y.1.key), .int .i64 y.1.kind, .int .u64 (y.1.num : Int), .string (txt y.1.text), .slice B y.2.len d]] w5.drew (EditP (newE l y) w5.drew)) := Lib.hid (created_any l _ y B d w5.drew (OwnS.way HD.out.2.1.way) (by have := HL.out; omega) (RowS.lie (RowS.keep HRY.out (HROW.out _ _ _ _ HD.out.2) (fun g hg => Nat.lt_of_lt_of_le (Nat.lt_of_lt_of_le hg HBB.out) HD.out.2.2.1.2.2.2.1))) (by have := HL.out; unfold Few9; omega))
   refine wp_region_noPanic ?_
   refine wp_region_held_drew (S := fun _ => True) (by kernel_rfl) trivial (fun hS => ?_)
   refine held_more (S' := fun w' => BoxS b W.heap.size #[.string (txt x.1.name), .string (txt x.1.key), .int .i64 x.1.kind, .int .u64 (x.1.num : Int), .string (txt x.1.text), .slice A x.2.len c] #[.string (txt y.1.name), .string (txt y.1.key), .int .i64 y.1.kind, .int .u64 (y.1.num : Int), .string (txt y.1.text), .slice B y.2.len d] w') (fun _ _ => trivial) _ _ _ _ ?_
   replace hS := HD.out.1
   refine tkH 0 hS ?_ (hy := fun w hSw => by have q0 := (hSw.1.cell 0).trans rfl; (go_simp <;> with_reducible rfl))
   refine tkH 1 hS ?_
   refine tkH 2 hS ?_ (hy := fun w hSw => by have q0 := (hSw.2.2.cell 0).trans rfl; have q1 := (hSw.2.2.cell 1).trans rfl; have q2 := (hSw.2.2.cell 2).trans rfl; have q3 := (hSw.2.2.cell 3).trans rfl; have q4 := (hSw.2.2.cell 4).trans rfl; have q5 := (hSw.2.2.cell 5).trans rfl; (go_simp <;> with_reducible rfl))
   refine wpAnyH_ready (rs := [3]) (by kernel_rfl) (by simp) ?_
   refine (AllReadyH.cons (o := ?or_6) ?ir_6 (fun K hK => ?str_6) AllReadyH.nil)
   case ir_6 => simp only [layG]; rfl
   rw [if_pos (by rfl)]
   go_simp
   refine HC.out.mono ?_
   rintro r w4 ⟨A1, c1, A2, c2, A3, c3, hr, hE, hb⟩
   have hr2 : r = .returned (.agg #[.int .i64 1, .slice A1 l.length c1, .string (txt y.1.name), .string (txt y.1.key), .int .i64 y.1.kind, .int .u64 (y.1.num : Int), .string (txt y.1.text), .slice A2 y.2.len c2, .string ⟨#[]⟩, .string ⟨#[]⟩, .int .i64 0, .int .u64 0, .string ⟨#[]⟩, .slice A3 0 c3]) := hr
   subst hr2
   have HB4 := Lib.hid hb
   have HX4 := Lib.hid (HD.out.1.below hb)
   have HA4 := Lib.hid (addat_any (newE l y) A1 A2 A3 c1 c2 c3 HD.out.2 hE hb (by have := HM.out; simp; omega))
   clear hr hE hb
   go_wp2_with fail
   refine hK.out _ _ ?sr_6 (fun hS => ?_)
   case sr_6 => (exact HX4.out)
   clear hK K
   (try simp only [Act.put, layS])
   refine wpAnyH_ready (rs := [4]) (by kernel_rfl) (by simp) ?_
   refine (AllReadyH.cons (o := ?or_7) ?ir_7 (fun K hK => ?str_7) AllReadyH.nil)
   case ir_7 => simp only [layG]; rfl
   rw [if_pos (by rfl)]
   go_simp
   refine HA4.out.mono ?_
   rintro r w6 ⟨⟨xr, rfl⟩, vnn, Snn, hp, ht⟩
   have Hw6 := Lib.hid (And.intro (HBX.out _ _ _ _ _ _ HD.out.2 HB4.out HX4.out ht) hp)
   clear hp ht
   go_wp2_with fail
   refine hK.out _ _ ?sr_7 (fun hS => ?_)
   case sr_7 => (exact Hw6.out.1)
   clear hK K
   (try simp only [Act.put, layS])
   refine wpAnyH_done (by kernel_rfl) ?_ _
   refine NoPanic.normal ?_
   clear hS
   go_wp2
   go_end0
   rw [HK.out]
   exact (Hw6.out.2.told _).less HBW.out
 ·by_cases hy : y.1.kind = 0
  ·have HK : Hid (edK x y l = [delE l x, newE l y]) := Lib.hid (edK_mixed (fun e => hx (e.2 hy)))
   have CX : Hid (∀ w', Calls Try.prog 25 #[.agg #[.string (txt x.1.name), .string (txt x.1.key), .int .i64 x.1.kind, .int .u64 (x.1.num : Int), .string (txt x.1.text), .slice A x.2.len c]] w' (Ans9 (.bool true) w')) := Lib.hid fun w' => by have h := dleaf_any x.1 (.slice A x.2.len c) w'; rwa [show decide (x.1.kind ≠ 0) = true by simp [hx]] at h
   have CY : Hid (∀ w', Calls Try.prog 25 #[.agg #[.string (txt y.1.name), .string (txt y.1.key), .int .i64 y.1.kind, .int .u64 (y.1.num : Int), .string (txt y.1.text), .slice B y.2.len d]] w' (Ans9 (.bool false) w')) := Lib.hid fun w' => by have h := dleaf_any y.1 (.slice B y.2.len d) w'; rwa [show decide (y.1.kind ≠ 0) = false by simp [hy]] at h
   have HD0 : Hid (BoxS b W.heap.size #[.string (txt x.1.name), .string (txt x.1.key), .int .i64 x.1.kind, .int .u64 (x.1.num : Int), .string (txt x.1.text), .slice A x.2.len c] #[.string (txt y.1.name), .string (txt y.1.key), .int .i64 y.1.kind, .int .u64 (y.1.num : Int), .string (txt y.1.text), .slice B y.2.len d] ((W.alloc (.cells #[.string (txt x.1.name), .string (txt x.1.key), .int .i64 x.1.kind, .int .u64 (x.1.num : Int), .string (txt x.1.text), .slice A x.2.len c] 27)).alloc (.cells #[.string (txt y.1.name), .string (txt y.1.key), .int .i64 y.1.kind, .int .u64 (y.1.num : Int), .string (txt y.1.text), .slice B y.2.len d] 27)).drew ∧ PrgE b S ((W.alloc (.cells #[.string (txt x.1.name), .string (txt x.1.key), .int .i64 x.1.kind, .int .u64 (x.1.num : Int), .string (txt x.1.text), .slice A x.2.len c] 27)).alloc (.cells #[.string (txt y.1.name), .string (txt y.1.key), .int .i64 y.1.kind, .int .u64 (y.1.num : Int), .string (txt y.1.text), .slice B y.2.len d] 27)) v M (.slice Au l.length cu) l [] ((W.alloc (.cells #[.string (txt x.1.name), .string (txt x.1.key), .int .i64 x.1.kind, .int .u64 (x.1.num : Int), .string (txt x.1.text), .slice A x.2.len c] 27)).alloc (.cells #[.string (txt y.1.name), .string (txt y.1.key), .int .i64 y.1.kind, .int .u64 (y.1.num : Int), .string (txt y.1.text), .slice B y.2.len d] 27)).drew v S) := Lib.hid ⟨HX0.out.below (Below.refl _ _).drew, HP0.out.below (Below.refl _ _).drew⟩
   clear hx hy
   go_enter Try.func24, Try.ntmps24
   go_wp2_with fail
   refine wp_region_noPanic ?_
   refine wp_region_held_drew (S := fun _ => True) (by kernel_rfl) trivial (fun hS => ?_)
   refine held_more (S' := fun w' => BoxS b W.heap.size #[.string (txt x.1.name), .string (txt x.1.key), .int .i64 x.1.kind, .int .u64 (x.1.num : Int), .string (txt x.1.text), .slice A x.2.len c] #[.string (txt y.1.name), .string (txt y.1.key), .int .i64 y.1.kind, .int .u64 (y.1.num : Int), .string (txt y.1.text), .slice B y.2.len d] w') (fun _ _ => trivial) _ _ _ _ ?_
   replace hS := HD0.out.1
   refine tkH 0 hS ?_ (hy := fun w hSw => by have q0 := (hSw.2.1.cell 0).trans rfl; have q1 := (hSw.2.1.cell 1).trans rfl; have q2 := (hSw.2.1.cell 2).trans rfl; have q3 := (hSw.2.1.cell 3).trans rfl; have q4 := (hSw.2.1.cell 4).trans rfl; have q5 := (hSw.2.1.cell 5).trans rfl; (go_simp <;> with_reducible rfl))
   refine tkH 2 hS ?_ (hy := fun w hSw => by have q0 := (hSw.2.2.cell 0).trans rfl; have q1 := (hSw.2.2.cell 1).trans rfl; have q2 := (hSw.2.2.cell 2).trans rfl; have q3 := (hSw.2.2.cell 3).trans rfl; have q4 := (hSw.2.2.cell 4).trans rfl; have q5 := (hSw.2.2.cell 5).trans rfl; (go_simp <;> with_reducible rfl))
   refine wpAnyH_ready (rs := [1]) (by kernel_rfl) (by simp) ?_
   refine (AllReadyH.cons (o := ?or_8) ?ir_8 (fun K hK => ?str_8) AllReadyH.nil)
   case ir_8 => simp only [layG]; rfl
   rw [if_pos (by rfl)]
   go_simp
   refine (CX.out _).mono ?_
   rintro r w1 ⟨rfl, hb⟩
   have Hw1 := Lib.hid (And.intro (HD0.out.1.below hb) (HD0.out.2.below hb))
   clear hb
   go_wp2_with fail
   refine hK.out _ _ ?sr_8 (fun hS => ?_)
   case sr_8 => (exact Hw1.out.1)
   clear hK K
   (try simp only [Act.put, layS])
   refine wpAnyH_ready (rs := [3]) (by kernel_rfl) (by simp) ?_
   refine (AllReadyH.cons (o := ?or_9) ?ir_9 (fun K hK => ?str_9) AllReadyH.nil)
   case ir_9 => simp only [layG]; rfl
   rw [if_pos (by rfl)]
   go_simp
   refine (CY.out _).mono ?_
   rintro r w2 ⟨rfl, hb⟩
   have Hw2 := Lib.hid (And.intro (Hw1.out.1.below hb) (Hw1.out.2.below hb))
   clear hb
   go_wp2_with fail
   refine hK.out _ _ ?sr_9 (fun hS => ?_)
   case sr_9 => (exact Hw2.out.1)
   clear hK K
   (try simp only [Act.put, layS])
   refine tkH 4 hS ?_
   refine tkH 5 hS ?_
   refine wpAnyH_done (by kernel_rfl) ?_ _
   refine NoPanic.normal ?_
   clear hS
   go_wp2_with fail
   have HD : Hid (BoxS b W.heap.size #[.string (txt x.1.name), .string (txt x.1.key), .int .i64 x.1.kind, .int .u64 (x.1.num : Int), .string (txt x.1.text), .slice A x.2.len c] #[.string (txt y.1.name), .string (txt y.1.key), .int .i64 y.1.kind, .int .u64 (y.1.num : Int), .string (txt y.1.text), .slice B y.2.len d] w2.drew ∧ PrgE b S ((W.alloc (.cells #[.string (txt x.1.name), .string (txt x.1.key), .int .i64 x.1.kind, .int .u64 (x.1.num : Int), .string (txt x.1.text), .slice A x.2.len c] 27)).alloc (.cells #[.string (txt y.1.name), .string (txt y.1.key), .int .i64 y.1.kind, .int .u64 (y.1.num : Int), .string (txt y.1.text), .slice B y.2.len d] 27)) v M (.slice Au l.length cu) l [] w2.drew v S) := Lib.hid ⟨Hw2.out.1.below (Below.refl _ _).drew, Hw2.out.2.below (Below.refl _ _).drew⟩
   have HC : Hid (Calls Try.prog 26 #[.slice Au l.length cu, .agg #[.string (txt x.1.name), .string (txt x.1.key), .int .i64 x.1.kind, .int .u64 (x.1.num : Int), .string (txt x.1.text), .slice A x.2.len c]] w2.drew (EditP (delE l x) w2.drew)) := Lib.hid (deleted_any l _ x A c w2.drew (OwnS.way HD.out.2.1.way) (by have := HL.out; omega) (RowS.lie (RowS.keep HRX.out (HROW.out _ _ _ _ HD.out.2) (fun g hg => Nat.lt_of_lt_of_le (Nat.lt_of_lt_of_le hg HBB.out) HD.out.2.2.1.2.2.2.1))) (by have := HL.out; unfold Few9; omega))
   refine wp_region_noPanic ?_
   refine wp_region_held_drew (S := fun _ => True) (by kernel_rfl) trivial (fun hS => ?_)
   refine held_more (S' := fun w' => BoxS b W.heap.size #[.string (txt x.1.name), .string (txt x.1.key), .int .i64 x.1.kind, .int .u64 (x.1.num : Int), .string (txt x.1.text), .slice A x.2.len c] #[.string (txt y.1.name), .string (txt y.1.key), .int .i64 y.1.kind, .int .u64 (y.1.num : Int), .string (txt y.1.text), .slice B y.2.len d] w') (fun _ _ => trivial) _ _ _ _ ?_
   replace hS := HD.out.1
   refine tkH 0 hS ?_ (hy := fun w hSw => by have q0 := (hSw.1.cell 0).trans rfl; (go_simp <;> with_reducible rfl))
   refine tkH 1 hS ?_
   refine tkH 2 hS ?_ (hy := fun w hSw => by have q0 := (hSw.2.1.cell 0).trans rfl; have q1 := (hSw.2.1.cell 1).trans rfl; have q2 := (hSw.2.1.cell 2).trans rfl; have q3 := (hSw.2.1.cell 3).trans rfl; have q4 := (hSw.2.1.cell 4).trans rfl; have q5 := (hSw.2.1.cell 5).trans rfl; (go_simp <;> with_reducible rfl))
   refine wpAnyH_ready (rs := [3]) (by kernel_rfl) (by simp) ?_
   refine (AllReadyH.cons (o := ?or_a) ?ir_a (fun K hK => ?str_a) AllReadyH.nil)
   case ir_a => simp only [layG]; rfl
   rw [if_pos (by rfl)]
   go_simp
   refine HC.out.mono ?_
   rintro r w4 ⟨A1, c1, A2, c2, A3, c3, hr, hE, hb⟩
   have hr2 : r = .returned (.agg #[.int .i64 2, .slice A1 l.length c1, .string ⟨#[]⟩, .string ⟨#[]⟩, .int .i64 0, .int .u64 0, .string ⟨#[]⟩, .slice A2 0 c2, .string (txt x.1.name), .string (txt x.1.key), .int .i64 x.1.kind, .int .u64 (x.1.num : Int), .string (txt x.1.text), .slice A3 x.2.len c3]) := hr
   subst hr2
   have HB4 := Lib.hid hb
   have HX4 := Lib.hid (HD.out.1.below hb)
   have HA4 := Lib.hid (addat_any (delE l x) A1 A2 A3 c1 c2 c3 HD.out.2 hE hb (by have := HM.out; simp; omega))
   clear hr hE hb
   go_wp2_with fail
   refine hK.out _ _ ?sr_a (fun hS => ?_)
   case sr_a => (exact HX4.out)
   clear hK K
   (try simp only [Act.put, layS])
   refine wpAnyH_ready (rs := [4]) (by kernel_rfl) (by simp) ?_
   refine (AllReadyH.cons (o := ?or_b) ?ir_b (fun K hK => ?str_b) AllReadyH.nil)
   case ir_b => simp only [layG]; rfl
   rw [if_pos (by rfl)]
   go_simp
   refine HA4.out.mono ?_
   rintro r w5 ⟨⟨xr, rfl⟩, vn, Sn, hp, ht⟩
   have Hw5 := Lib.hid (And.intro (HBX.out _ _ _ _ _ _ HD.out.2 HB4.out HX4.out ht) hp)
   clear hp ht
   go_wp2_with fail
   refine hK.out _ _ ?sr_b (fun hS => ?_)
   case sr_b => (exact Hw5.out.1)
   clear hK K
   (try simp only [Act.put, layS])
   refine wpAnyH_done (by kernel_rfl) ?_ _
   refine NoPanic.normal ?_
   clear hS
   go_wp2_with fail
   have HD : Hid (BoxS b W.heap.size #[.string (txt x.1.name), .string (txt x.1.key), .int .i64 x.1.kind, .int .u64 (x.1.num : Int), .string (txt x.1.text), .slice A x.2.len c] #[.string (txt y.1.name), .string (txt y.1.key), .int .i64 y.1.kind, .int .u64 (y.1.num : Int), .string (txt y.1.text), .slice B y.2.len d] w5.drew ∧ PrgE b S ((W.alloc (.cells #[.string (txt x.1.name), .string (txt x.1.key), .int .i64 x.1.kind, .int .u64 (x.1.num : Int), .string (txt x.1.text), .slice A x.2.len c] 27)).alloc (.cells #[.string (txt y.1.name), .string (txt y.1.key), .int .i64 y.1.kind, .int .u64 (y.1.num : Int), .string (txt y.1.text), .slice B y.2.len d] 27)) v M (.slice Au l.length cu) l ([] ++ [delE l x]) w5.drew vn Sn) := Lib.hid ⟨Hw5.out.1.below (Below.refl _ _).drew, Hw5.out.2.below (Below.refl _ _).drew⟩
   have HC : Hid (Calls Try.prog 27 #[.slice Au l.length cu, .agg #[.string (txt y.1.name), .string (txt y.1.key), .int .i64 y.1.kind, .int .u64 (y.1.num : Int), .string (txt y.1.text), .slice B y.2.len d]] w5.drew (EditP (newE l y) w5.drew)) := Lib.hid (created_any l _ y B d w5.drew (OwnS.way HD.out.2.1.way) (by have := HL.out; omega) (RowS.lie (RowS.keep HRY.out (HROW.out _ _ _ _ HD.out.2) (fun g hg => Nat.lt_of_lt_of_le (Nat.lt_of_lt_of_le hg HBB.out) HD.out.2.2.1.2.2.2.1))) (by have := HL.out; unfold Few9; omega))
   refine wp_region_noPanic ?_
   refine wp_region_held_drew (S := fun _ => True) (by kernel_rfl) trivial (fun hS => ?_)
   refine held_more (S' := fun w' => BoxS b W.heap.size #[.string (txt x.1.name), .string (txt x.1.key), .int .i64 x.1.kind, .int .u64 (x.1.num : Int), .string (txt x.1.text), .slice A x.2.len c] #[.string (txt y.1.name), .string (txt y.1.key), .int .i64 y.1.kind, .int .u64 (y.1.num : Int), .string (txt y.1.text), .slice B y.2.len d] w') (fun _ _ => trivial) _ _ _ _ ?_
   replace hS := HD.out.1
   refine tkH 0 hS ?_ (hy := fun w hSw => by have q0 := (hSw.1.cell 0).trans rfl; (go_simp <;> with_reducible rfl))
   refine tkH 1 hS ?_
   refine tkH 2 hS ?_ (hy := fun w hSw => by have q0 := (hSw.2.2.cell 0).trans rfl; have q1 := (hSw.2.2.cell 1).trans rfl; have q2 := (hSw.2.2.cell 2).trans rfl; have q3 := (hSw.2.2.cell 3).trans rfl; have q4 := (hSw.2.2.cell 4).trans rfl; have q5 := (hSw.2.2.cell 5).trans rfl; (go_simp <;> with_reducible rfl))
   refine wpAnyH_ready (rs := [3]) (by kernel_rfl) (by simp) ?_
   refine (AllReadyH.cons (o := ?or_c) ?ir_c (fun K hK => ?str_c) AllReadyH.nil)
   case ir_c => simp only [layG]; rfl
   rw [if_pos (by rfl)]
   go_simp
   refine HC.out.mono ?_
   rintro r w4 ⟨A1, c1, A2, c2, A3, c3, hr, hE, hb⟩
   have hr2 : r = .returned (.agg #[.int .i64 1, .slice A1 l.length c1, .string (txt y.1.name), .string (txt y.1.key), .int .i64 y.1.kind, .int .u64 (y.1.num : Int), .string (txt y.1.text), .slice A2 y.2.len c2, .string ⟨#[]⟩, .string ⟨#[]⟩, .int .i64 0, .int .u64 0, .string ⟨#[]⟩, .slice A3 0 c3]) := hr
   subst hr2
   have HB4 := Lib.hid hb
   have HX4 := Lib.hid (HD.out.1.below hb)
   have HA4 := Lib.hid (addat_any (newE l y) A1 A2 A3 c1 c2 c3 HD.out.2 hE hb (by have := HM.out; simp; omega))
   clear hr hE hb
   go_wp2_with fail
   refine hK.out _ _ ?sr_c (fun hS => ?_)
   case sr_c => (exact HX4.out)
   clear hK K
   (try simp only [Act.put, layS])
   refine wpAnyH_ready (rs := [4]) (by kernel_rfl) (by simp) ?_
   refine (AllReadyH.cons (o := ?or_d) ?ir_d (fun K hK => ?str_d) AllReadyH.nil)
   case ir_d => simp only [layG]; rfl
   rw [if_pos (by rfl)]
   go_simp
   refine HA4.out.mono ?_
   rintro r w6 ⟨⟨xr, rfl⟩, vnn, Snn, hp, ht⟩
   have Hw6 := Lib.hid (And.intro (HBX.out _ _ _ _ _ _ HD.out.2 HB4.out HX4.out ht) hp)
   clear hp ht
   go_wp2_with fail
   refine hK.out _ _ ?sr_d (fun hS => ?_)
   case sr_d => (exact Hw6.out.1)
   clear hK K
   (try simp only [Act.put, layS])
   refine wpAnyH_done (by kernel_rfl) ?_ _
   refine NoPanic.normal ?_
   clear hS
   go_wp2
   go_end0
   rw [HK.out]
   exact (Hw6.out.2.told _).less HBW.out
  ·have HK : Hid (edK x y l = if x = y then [] else [⟨3, l, y, x⟩]) := Lib.hid (edK_leaf hx hy)
   obtain ⟨bs, hbs⟩ : ∃ z, z = decide (x = y) := ⟨_, rfl⟩
   have CX : Hid (∀ w', Calls Try.prog 25 #[.agg #[.string (txt x.1.name), .string (txt x.1.key), .int .i64 x.1.kind, .int .u64 (x.1.num : Int), .string (txt x.1.text), .slice A x.2.len c]] w' (Ans9 (.bool true) w')) := Lib.hid fun w' => by have h := dleaf_any x.1 (.slice A x.2.len c) w'; rwa [show decide (x.1.kind ≠ 0) = true by simp [hx]] at h
   have CY : Hid (∀ w', Calls Try.prog 25 #[.agg #[.string (txt y.1.name), .string (txt y.1.key), .int .i64 y.1.kind, .int .u64 (y.1.num : Int), .string (txt y.1.text), .slice B y.2.len d]] w' (Ans9 (.bool true) w')) := Lib.hid fun w' => by have h := dleaf_any y.1 (.slice B y.2.len d) w'; rwa [show decide (y.1.kind ≠ 0) = true by simp [hy]] at h
   have CS : Hid (∀ (W1 : World), PrgE b S ((W.alloc (.cells #[.string (txt x.1.name), .string (txt x.1.key), .int .i64 x.1.kind, .int .u64 (x.1.num : Int), .string (txt x.1.text), .slice A x.2.len c] 27)).alloc (.cells #[.string (txt y.1.name), .string (txt y.1.key), .int .i64 y.1.kind, .int .u64 (y.1.num : Int), .string (txt y.1.text), .slice B y.2.len d] 27)) v M (.slice Au l.length cu) l [] W1 v S → Calls Try.prog 28 #[.agg #[.string (txt x.1.name), .string (txt x.1.key), .int .i64 x.1.kind, .int .u64 (x.1.num : Int), .string (txt x.1.text), .slice A x.2.len c], .agg #[.string (txt y.1.name), .string (txt y.1.key), .int .i64 y.1.kind, .int .u64 (y.1.num : Int), .string (txt y.1.text), .slice B y.2.len d]] W1 (Ans9 (.bool bs) W1)) := Lib.hid fun W1 hp => hbs ▸ sameT W1 x y _ _ W1 (RowS.lie (RowS.keep HRX.out (HROW.out _ _ _ _ hp) (fun g hg => Nat.lt_of_lt_of_le (Nat.lt_of_lt_of_le hg HBB.out) hp.2.1.2.2.2.1))) (RowS.lie (RowS.keep HRY.out (HROW.out _ _ _ _ hp) (fun g hg => Nat.lt_of_lt_of_le (Nat.lt_of_lt_of_le hg HBB.out) hp.2.1.2.2.2.1))) (by have := HL.out; unfold Few9; omega) (by have := HL.out; unfold Few9; omega) (Below.refl _ _)
   have HBS := Lib.hid hbs
   clear hbs
   have HD0 : Hid (BoxS b W.heap.size #[.string (txt x.1.name), .string (txt x.1.key), .int .i64 x.1.kind, .int .u64 (x.1.num : Int), .string (txt x.1.text), .slice A x.2.len c] #[.string (txt y.1.name), .string (txt y.1.key), .int .i64 y.1.kind, .int .u64 (y.1.num : Int), .string (txt y.1.text), .slice B y.2.len d] ((W.alloc (.cells #[.string (txt x.1.name), .string (txt x.1.key), .int .i64 x.1.kind, .int .u64 (x.1.num : Int), .string (txt x.1.text), .slice A x.2.len c] 27)).alloc (.cells #[.string (txt y.1.name), .string (txt y.1.key), .int .i64 y.1.kind, .int .u64 (y.1.num : Int), .string (txt y.1.text), .slice B y.2.len d] 27)).drew ∧ PrgE b S ((W.alloc (.cells #[.string (txt x.1.name), .string (txt x.1.key), .int .i64 x.1.kind, .int .u64 (x.1.num : Int), .string (txt x.1.text), .slice A x.2.len c] 27)).alloc (.cells #[.string (txt y.1.name), .string (txt y.1.key), .int .i64 y.1.kind, .int .u64 (y.1.num : Int), .string (txt y.1.text), .slice B y.2.len d] 27)) v M (.slice Au l.length cu) l [] ((W.alloc (.cells #[.string (txt x.1.name), .string (txt x.1.key), .int .i64 x.1.kind, .int .u64 (x.1.num : Int), .string (txt x.1.text), .slice A x.2.len c] 27)).alloc (.cells #[.string (txt y.1.name), .string (txt y.1.key), .int .i64 y.1.kind, .int .u64 (y.1.num : Int), .string (txt y.1.text), .slice B y.2.len d] 27)).drew v S) := Lib.hid ⟨HX0.out.below (Below.refl _ _).drew, HP0.out.below (Below.refl _ _).drew⟩
   clear hx hy
   go_enter Try.func24, Try.ntmps24
   go_wp2_with fail
   refine wp_region_noPanic ?_
   refine wp_region_held_drew (S := fun _ => True) (by kernel_rfl) trivial (fun hS => ?_)
   refine held_more (S' := fun w' => BoxS b W.heap.size #[.string (txt x.1.name), .string (txt x.1.key), .int .i64 x.1.kind, .int .u64 (x.1.num : Int), .string (txt x.1.text), .slice A x.2.len c] #[.string (txt y.1.name), .string (txt y.1.key), .int .i64 y.1.kind, .int .u64 (y.1.num : Int), .string (txt y.1.text), .slice B y.2.len d] w') (fun _ _ => trivial) _ _ _ _ ?_
   replace hS := HD0.out.1
   refine tkH 0 hS ?_ (hy := fun w hSw => by have q0 := (hSw.2.1.cell 0).trans rfl; have q1 := (hSw.2.1.cell 1).trans rfl; have q2 := (hSw.2.1.cell 2).trans rfl; have q3 := (hSw.2.1.cell 3).trans rfl; have q4 := (hSw.2.1.cell 4).trans rfl; have q5 := (hSw.2.1.cell 5).trans rfl; (go_simp <;> with_reducible rfl))
   refine tkH 2 hS ?_ (hy := fun w hSw => by have q0 := (hSw.2.2.cell 0).trans rfl; have q1 := (hSw.2.2.cell 1).trans rfl; have q2 := (hSw.2.2.cell 2).trans rfl; have q3 := (hSw.2.2.cell 3).trans rfl; have q4 := (hSw.2.2.cell 4).trans rfl; have q5 := (hSw.2.2.cell 5).trans rfl; (go_simp <;> with_reducible rfl))
   refine wpAnyH_ready (rs := [1]) (by kernel_rfl) (by simp) ?_
   refine (AllReadyH.cons (o := ?or_e) ?ir_e (fun K hK => ?str_e) AllReadyH.nil)
   case ir_e => simp only [layG]; rfl
   rw [if_pos (by rfl)]
   go_simp
   refine (CX.out _).mono ?_
   rintro r w1 ⟨rfl, hb⟩
   have Hw1 := Lib.hid (And.intro (HD0.out.1.below hb) (HD0.out.2.below hb))
   clear hb
   go_wp2_with fail
   refine hK.out _ _ ?sr_e (fun hS => ?_)
   case sr_e => (exact Hw1.out.1)
   clear hK K
   (try simp only [Act.put, layS])
   refine wpAnyH_ready (rs := [3]) (by kernel_rfl) (by simp) ?_
   refine (AllReadyH.cons (o := ?or_f) ?ir_f (fun K hK => ?str_f) AllReadyH.nil)
   case ir_f => simp only [layG]; rfl
   rw [if_pos (by rfl)]
   go_simp
   refine (CY.out _).mono ?_
   rintro r w2 ⟨rfl, hb⟩
   have Hw2 := Lib.hid (And.intro (Hw1.out.1.below hb) (Hw1.out.2.below hb))
   clear hb
   go_wp2_with fail
   refine hK.out _ _ ?sr_f (fun hS => ?_)
   case sr_f => (exact Hw2.out.1)
   clear hK K
   (try simp only [Act.put, layS])
   refine tkH 4 hS ?_
   refine tkH 5 hS ?_
   refine wpAnyH_done (by kernel_rfl) ?_ _
   refine NoPanic.normal ?_
   clear hS
   have z0 := (Hw2.out.1.2.1.cell 0).trans rfl
   have z1 := (Hw2.out.1.2.1.cell 1).trans rfl
   have z2 := (Hw2.out.1.2.1.cell 2).trans rfl
   have z3 := (Hw2.out.1.2.1.cell 3).trans rfl
   have z4 := (Hw2.out.1.2.1.cell 4).trans rfl
   have z5 := (Hw2.out.1.2.1.cell 5).trans rfl
   go_wp2_with fail
   refine (CX.out _).mono ?_
   rintro r w3 ⟨rfl, hb⟩
   have Hw3 := Lib.hid (And.intro (Hw2.out.1.below hb) (Hw2.out.2.below hb))
   clear hb z0 z1 z2 z3 z4 z5
   have z0 := (Hw3.out.1.2.1.cell 0).trans rfl
   have z1 := (Hw3.out.1.2.1.cell 1).trans rfl
   have z2 := (Hw3.out.1.2.1.cell 2).trans rfl
   have z3 := (Hw3.out.1.2.1.cell 3).trans rfl
   have z4 := (Hw3.out.1.2.1.cell 4).trans rfl
   have z5 := (Hw3.out.1.2.1.cell 5).trans rfl
   have y0 := (Hw3.out.1.2.2.cell 0).trans rfl
   have y1 := (Hw3.out.1.2.2.cell 1).trans rfl
   have y2 := (Hw3.out.1.2.2.cell 2).trans rfl
   have y3 := (Hw3.out.1.2.2.cell 3).trans rfl
   have y4 := (Hw3.out.1.2.2.cell 4).trans rfl
   have y5 := (Hw3.out.1.2.2.cell 5).trans rfl
   go_wp2_with fail
   refine (CS.out _ Hw3.out.2).mono ?_
   rintro r w4 ⟨rfl, hb⟩
   have Hw4 := Lib.hid (And.intro (Hw3.out.1.below hb) (Hw3.out.2.below hb))
   clear hb z0 z1 z2 z3 z4 z5 y0 y1 y2 y3 y4 y5
   cases bs with
   | true =>
    have HF : Hid (edK x y l = []) := Lib.hid (by rw [HK.out, if_pos (of_decide_eq_true HBS.out.symm)])
    go_wp2
    go_end0
    rw [HF.out]
    exact (Hw4.out.2.told _).less HBW.out
   | false =>
    have HF : Hid (edK x y l = [] ++ [⟨3, l, y, x⟩]) := Lib.hid (by rw [HK.out, if_neg (of_decide_eq_false HBS.out.symm)]; rfl)
    go_wp2_with fail
    have HD : Hid (BoxS b W.heap.size #[.string (txt x.1.name), .string (txt x.1.key), .int .i64 x.1.kind, .int .u64 (x.1.num : Int), .string (txt x.1.text), .slice A x.2.len c] #[.string (txt y.1.name), .string (txt y.1.key), .int .i64 y.1.kind, .int .u64 (y.1.num : Int), .string (txt y.1.text), .slice B y.2.len d] w4.drew ∧ PrgE b S ((W.alloc (.cells #[.string (txt x.1.name), .string (txt x.1.key), .int .i64 x.1.kind, .int .u64 (x.1.num : Int), .string (txt x.1.text), .slice A x.2.len c] 27)).alloc (.cells #[.string (txt y.1.name), .string (txt y.1.key), .int .i64 y.1.kind, .int .u64 (y.1.num : Int), .string (txt y.1.text), .slice B y.2.len d] 27)) v M (.slice Au l.length cu) l [] w4.drew v S) := Lib.hid ⟨Hw4.out.1.below (Below.refl _ _).drew, Hw4.out.2.below (Below.refl _ _).drew⟩
    have HC : Hid (Calls Try.prog 29 #[.slice Au l.length cu, .agg #[.string (txt y.1.name), .string (txt y.1.key), .int .i64 y.1.kind, .int .u64 (y.1.num : Int), .string (txt y.1.text), .slice B y.2.len d], .agg #[.string (txt x.1.name), .string (txt x.1.key), .int .i64 x.1.kind, .int .u64 (x.1.num : Int), .string (txt x.1.text), .slice A x.2.len c]] w4.drew (EditP (⟨3, l, y, x⟩) w4.drew)) := Lib.hid (replaced_any l _ y x B A d c w4.drew (OwnS.way HD.out.2.1.way) (by have := HL.out; omega) (RowS.lie (RowS.keep HRY.out (HROW.out _ _ _ _ HD.out.2) (fun g hg => Nat.lt_of_lt_of_le (Nat.lt_of_lt_of_le hg HBB.out) HD.out.2.2.1.2.2.2.1))) (by have := HL.out; unfold Few9; omega) (RowS.lie (RowS.keep HRX.out (HROW.out _ _ _ _ HD.out.2) (fun g hg => Nat.lt_of_lt_of_le (Nat.lt_of_lt_of_le hg HBB.out) HD.out.2.2.1.2.2.2.1))) (by have := HL.out; unfold Few9; omega))
    refine wp_region_noPanic ?_
    refine wp_region_held_drew (S := fun _ => True) (by kernel_rfl) trivial (fun hS => ?_)
    refine held_more (S' := fun w' => BoxS b W.heap.size #[.string (txt x.1.name), .string (txt x.1.key), .int .i64 x.1.kind, .int .u64 (x.1.num : Int), .string (txt x.1.text), .slice A x.2.len c] #[.string (txt y.1.name), .string (txt y.1.key), .int .i64 y.1.kind, .int .u64 (y.1.num : Int), .string (txt y.1.text), .slice B y.2.len d] w') (fun _ _ => trivial) _ _ _ _ ?_
    replace hS := HD.out.1
    refine tkH 0 hS ?_ (hy := fun w hSw => by have q0 := (hSw.1.cell 0).trans rfl; (go_simp <;> with_reducible rfl))
    refine tkH 1 hS ?_
    refine tkH 2 hS ?_ (hy := fun w hSw => by have q0 := (hSw.2.2.cell 0).trans rfl; have q1 := (hSw.2.2.cell 1).trans rfl; have q2 := (hSw.2.2.cell 2).trans rfl; have q3 := (hSw.2.2.cell 3).trans rfl; have q4 := (hSw.2.2.cell 4).trans rfl; have q5 := (hSw.2.2.cell 5).trans rfl; (go_simp <;> with_reducible rfl))
    refine tkH 3 hS ?_ (hy := fun w hSw => by have q0 := (hSw.2.1.cell 0).trans rfl; have q1 := (hSw.2.1.cell 1).trans rfl; have q2 := (hSw.2.1.cell 2).trans rfl; have q3 := (hSw.2.1.cell 3).trans rfl; have q4 := (hSw.2.1.cell 4).trans rfl; have q5 := (hSw.2.1.cell 5).trans rfl; (go_simp <;> with_reducible rfl))
    refine wpAnyH_ready (rs := [4]) (by kernel_rfl) (by simp) ?_
    refine (AllReadyH.cons (o := ?or_g) ?ir_g (fun K hK => ?str_g) AllReadyH.nil)
    case ir_g => simp only [layG]; rfl
    rw [if_pos (by rfl)]
    go_simp
    refine HC.out.mono ?_
    rintro r w4 ⟨A1, c1, A2, c2, A3, c3, hr, hE, hb⟩
    have hr2 : r = .returned (.agg #[.int .i64 3, .slice A1 l.length c1, .string (txt y.1.name), .string (txt y.1.key), .int .i64 y.1.kind, .int .u64 (y.1.num : Int), .string (txt y.1.text), .slice A2 y.2.len c2, .string (txt x.1.name), .string (txt x.1.key), .int .i64 x.1.kind, .int .u64 (x.1.num : Int), .string (txt x.1.text), .slice A3 x.2.len c3]) := hr
    subst hr2
    have HB4 := Lib.hid hb
    have HX4 := Lib.hid (HD.out.1.below hb)
    have HA4 := Lib.hid (addat_any (⟨3, l, y, x⟩) A1 A2 A3 c1 c2 c3 HD.out.2 hE hb (by have := HM.out; simp; omega))
    clear hr hE hb
    go_wp2_with fail
    refine hK.out _ _ ?sr_g (fun hS => ?_)
    case sr_g => (exact HX4.out)
    clear hK K
    (try simp only [Act.put, layS])
    refine wpAnyH_ready (rs := [5]) (by kernel_rfl) (by simp) ?_
    refine (AllReadyH.cons (o := ?or_h) ?ir_h (fun K hK => ?str_h) AllReadyH.nil)
    case ir_h => simp only [layG]; rfl
    rw [if_pos (by rfl)]
    go_simp
    refine HA4.out.mono ?_
    rintro r w6 ⟨⟨xr, rfl⟩, vn, Sn, hp, ht⟩
    have Hw6 := Lib.hid (And.intro (HBX.out _ _ _ _ _ _ HD.out.2 HB4.out HX4.out ht) hp)
    clear hp ht
    go_wp2_with fail
    refine hK.out _ _ ?sr_h (fun hS => ?_)
    case sr_h => (exact Hw6.out.1)
    clear hK K
    (try simp only [Act.put, layS])
    refine wpAnyH_done (by kernel_rfl) ?_ _
    refine NoPanic.normal ?_
    clear hS
    go_wp2
    go_end0
    rw [HF.out]
    exact (Hw6.out.2.told _).less HBW.out
end Go.Proofs.Ythdhchhpjoghlaa
