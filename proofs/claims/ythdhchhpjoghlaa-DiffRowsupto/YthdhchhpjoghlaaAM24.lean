/- DfvJ -/
import Derived.Test.YthdhchhpjoghlaaAM0
import Derived.Test.YthdhchhpjoghlaaAM23
set_option linter.unusedSimpArgs false
set_option linter.unusedVariables false
namespace Go.Proofs.Ythdhchhpjoghlaa
open Go.RowKit
attribute [local go_sem] Oper.semAt_some
theorem run_add {w : World} {base : Nat} {S : Nat → Prop} {v : Value} {M : List EdD} {g : Nat} {ys : List Value} {e : EdD} (hown : OwnE base S w v M) (hblk : Blk w g 42 ys.toArray) (hy : EdS S w ys e) (hlen : M.length ≤ 100000000) (hbase : base ≤ w.heap.size) :
  ∃ v' w', (Builtin.append_ #[31, 31] 31 #[v, .slice (some ⟨g, 0, none⟩) 1 1]).run Try.prog w = .ok v' w' ∧ AppE base S w v (M ++ [e]) v' w' ∧ (v'.ownBlock = v.ownBlock ∨ v'.ownBlock = some w.heap.size) := by
 have hown' := hown
 obtain ⟨hS, xs, h1, h2⟩ := hown'
 obtain ⟨v', w', hr, hap⟩ := run_append_k (P := Try.prog) Try.underlying31 Try.cellsEd ezeroN (by omega) w base v M.length xs h1 g ys hblk hy.len hy.one (by omega) (by omega) hbase
 have hw : OwnE base S w' v' (M ++ [e]) := hown.app h2 (by rw [List.length_append]; exact hap.1) hap.2.1 hap.2.2.1 (rowE.one_ hy)
 exact ⟨v', w', hr, ⟨hw, hap.2.1, hw.shape⟩, hap.2.2.1⟩
theorem add_end {b : Nat} {S N : Nat → Prop} {W W2 w7 : World} {v v' u : Value} {M : List EdD} {l : List Stp} {e : EdD} (h : StE b S W v M u l) (hN : ∀ g, N g → b + 6 ≤ g ∧ g < W.heap.size ∧ some g ≠ v.ownBlock ∧ some g ≠ u.ownBlock) (hb : Below W.heap.size W W2)
  (hap : AppE (b + 6) (fun g => S g ∨ N g) W2 v (M ++ [e]) v' w7) (hro : v'.ownBlock = v.ownBlock ∨ v'.ownBlock = some W2.heap.size) :
  StE b (fun g => S g ∨ N g) (w7.setCell ⟨b + 2, 0, none⟩ v') v' (M ++ [e]) u l ∧ TrK b v u W (w7.setCell ⟨b + 2, 0, none⟩ v') ∧ RowK9 W v v' := by
 obtain ⟨h1, h2, -⟩ := hap
 have hu := h.ult
 have hv := h.vlt
 have hz := h.size
 have hr : RowK9 W v v' := hro.imp id (fun e => ⟨_, e, hb.size⟩)
 have hvn : ∀ k, some k = v.ownBlock → some k ≠ u.ownBlock := fun k e1 e2 => by
  rcases h.ne with h3 | h3
  ·rw [h3] at e1; cases e1
  ·exact h3 (e1.symm.trans e2)
 have h7 : ∀ g, g < W.heap.size → some g ≠ v.ownBlock → w7.heap[g]? = W.heap[g]? := fun g hg hn => (h2.block g (Nat.lt_of_lt_of_le hg hb.size) hn).trans (hb.block g hg)
 have h8 : ∀ g, g < W.heap.size → g ≠ b + 2 → some g ≠ v.ownBlock → (w7.setCell ⟨b + 2, 0, none⟩ v').heap[g]? = W.heap[g]? := fun g hg hn h3 => (Below.heap_setCell _ _ _ _ hn).trans (h7 g hg h3)
 have hlow : ∀ g, g < b + 6 → some g ≠ v.ownBlock := fun g h3 e => by have := (hv g e.symm).1; omega
 have hlo : ∀ g, (S g ∨ N g) → b + 6 ≤ g := fun g hg => hg.elim (h.low g) (fun h3 => (hN g h3).1)
 have hgs : w7.grownBy (w7.setCell ⟨b + 2, 0, none⟩ v') (some (b + 2)) := ⟨rfl, rfl, rfl, by simp [World.setCell], fun k _ hk => Below.heap_setCell _ _ _ _ (fun e => hk (by rw [e]))⟩
 refine ⟨⟨h.env.keep (fun g h3 h4 => h8 g (by omega) (by omega) (hlow g h4)), ?_, ?_, hlo, fun g hg => hg.elim (h.sep g) (fun h3 => (hN g h3).2.2.2), ?_, ?_⟩, ⟨h2.os.trans hb.os, h2.tape.trans hb.tape, h2.output.trans hb.output, Nat.le_trans hb.size (Nat.le_trans h2.size hgs.size), fun g hg h3 h4 _ => h8 g hg h3 h4⟩, hr⟩
 ·have h9 : Blk w7 (b + 2) 31 #[v] := (h7 _ (by omega) (hlow _ (by omega))).trans h.res
  exact h9.set_ 0 v'
 ·refine h1.stays hgs ?_ (fun g hg e => by injection e with e; have := hlo g hg; omega)
  cases e : v'.ownBlock with
  | none => exact .inl rfl
  | some k => exact .inr (fun e2 => by injection e2 with e2; have := (h1.lt k e).1; omega)
 ·refine ⟨h.way.1, ?_⟩
  rcases h.way.2 with h3 | ⟨g, cap, cur, rfl, h4, h5, h6⟩
  ·exact .inl h3
  ·exact .inr ⟨g, cap, cur, rfl, h4, (h8 g (hu g rfl).2 (by omega) (fun e => hvn g e rfl)).trans h5, h6⟩
 ·rcases hr with h3 | ⟨k, h3, hk⟩
  ·rw [h3]; exact h.ne
  ·right
   rw [h3]
   intro e
   have := (hu k e.symm).2
   omega
set_option maxRecDepth 100000 in
set_option maxHeartbeats 8000000 in
theorem add_any (b : Nat) (S N : Nat → Prop) (W : World) (v u : Value) (M : List EdD) (l : List Stp) (e : EdD) (Aw An Ao : Option Addr) (cw cn co : Nat) (h : StE b S W v M u l)
  (hE : EdS N W (edC e.kind (.slice Aw e.way.length cw) e.node.1 (.slice An e.node.2.len cn) e.old.1 (.slice Ao e.old.2.len co)) e) (hN : ∀ g, N g → b + 6 ≤ g ∧ g < W.heap.size ∧ some g ≠ v.ownBlock ∧ some g ≠ u.ownBlock) (hM : M.length ≤ 100000000) :
  Calls Try.prog 23 #[.agg #[.int .i64 e.kind, .slice Aw e.way.length cw, .string (txt e.node.1.name), .string (txt e.node.1.key), .int .i64 e.node.1.kind, .int .u64 (e.node.1.num : Int), .string (txt e.node.1.text), .slice An e.node.2.len cn, .string (txt e.old.1.name), .string (txt e.old.1.key), .int .i64 e.old.1.kind, .int .u64 (e.old.1.num : Int), .string (txt e.old.1.text), .slice Ao e.old.2.len co], .pointer (some ⟨b + 2, 0, none⟩)] W fun r W' => (∃ x, r = .returned x) ∧ ∃ v', StE b (fun g => S g ∨ N g) W' v' (M ++ [e]) u l ∧ TrK b v u W W' ∧ RowK9 W v v' := by
 obtain ⟨Av, cv, rfl⟩ := h.own.shape
 have hb1 : Below W.heap.size W (W.alloc (.cells #[.int .i64 e.kind, .slice Aw e.way.length cw, .string (txt e.node.1.name), .string (txt e.node.1.key), .int .i64 e.node.1.kind, .int .u64 (e.node.1.num : Int), .string (txt e.node.1.text), .slice An e.node.2.len cn, .string (txt e.old.1.name), .string (txt e.old.1.key), .int .i64 e.old.1.kind, .int .u64 (e.old.1.num : Int), .string (txt e.old.1.text), .slice Ao e.old.2.len co] 42)) := (Below.refl _ _).alloc (Nat.le_refl _) _
 have hb2 : Below W.heap.size W ((W.alloc (.cells #[.int .i64 e.kind, .slice Aw e.way.length cw, .string (txt e.node.1.name), .string (txt e.node.1.key), .int .i64 e.node.1.kind, .int .u64 (e.node.1.num : Int), .string (txt e.node.1.text), .slice An e.node.2.len cn, .string (txt e.old.1.name), .string (txt e.old.1.key), .int .i64 e.old.1.kind, .int .u64 (e.old.1.num : Int), .string (txt e.old.1.text), .slice Ao e.old.2.len co] 42)).alloc (.cells #[.int .i64 e.kind, .slice Aw e.way.length cw, .string (txt e.node.1.name), .string (txt e.node.1.key), .int .i64 e.node.1.kind, .int .u64 (e.node.1.num : Int), .string (txt e.node.1.text), .slice An e.node.2.len cn, .string (txt e.old.1.name), .string (txt e.old.1.key), .int .i64 e.old.1.kind, .int .u64 (e.old.1.num : Int), .string (txt e.old.1.text), .slice Ao e.old.2.len co] 42)) := hb1.alloc hb1.size _
 have hown : OwnE (b + 6) (fun g => S g ∨ N g) ((W.alloc (.cells #[.int .i64 e.kind, .slice Aw e.way.length cw, .string (txt e.node.1.name), .string (txt e.node.1.key), .int .i64 e.node.1.kind, .int .u64 (e.node.1.num : Int), .string (txt e.node.1.text), .slice An e.node.2.len cn, .string (txt e.old.1.name), .string (txt e.old.1.key), .int .i64 e.old.1.kind, .int .u64 (e.old.1.num : Int), .string (txt e.old.1.text), .slice Ao e.old.2.len co] 42)).alloc (.cells #[.int .i64 e.kind, .slice Aw e.way.length cw, .string (txt e.node.1.name), .string (txt e.node.1.key), .int .i64 e.node.1.kind, .int .u64 (e.node.1.num : Int), .string (txt e.node.1.text), .slice An e.node.2.len cn, .string (txt e.old.1.name), .string (txt e.old.1.key), .int .i64 e.old.1.kind, .int .u64 (e.old.1.num : Int), .string (txt e.old.1.text), .slice Ao e.old.2.len co] 42)) (.slice Av M.length cv) M := (h.own.below hb2).widen (fun g hg => .inl hg) (fun g hg => by
  rcases hg with hg | hg
  ·exact ⟨Nat.lt_of_lt_of_le (h.own.1 g hg).1 hb2.size, (h.own.1 g hg).2⟩
  ·exact ⟨Nat.lt_of_lt_of_le (hN g hg).2.1 hb2.size, (hN g hg).2.2.1⟩)
 have hblk : Blk ((W.alloc (.cells #[.int .i64 e.kind, .slice Aw e.way.length cw, .string (txt e.node.1.name), .string (txt e.node.1.key), .int .i64 e.node.1.kind, .int .u64 (e.node.1.num : Int), .string (txt e.node.1.text), .slice An e.node.2.len cn, .string (txt e.old.1.name), .string (txt e.old.1.key), .int .i64 e.old.1.kind, .int .u64 (e.old.1.num : Int), .string (txt e.old.1.text), .slice Ao e.old.2.len co] 42)).alloc (.cells #[.int .i64 e.kind, .slice Aw e.way.length cw, .string (txt e.node.1.name), .string (txt e.node.1.key), .int .i64 e.node.1.kind, .int .u64 (e.node.1.num : Int), .string (txt e.node.1.text), .slice An e.node.2.len cn, .string (txt e.old.1.name), .string (txt e.old.1.key), .int .i64 e.old.1.kind, .int .u64 (e.old.1.num : Int), .string (txt e.old.1.text), .slice Ao e.old.2.len co] 42)) (W.heap.size + 1) 42 #[.int .i64 e.kind, .slice Aw e.way.length cw, .string (txt e.node.1.name), .string (txt e.node.1.key), .int .i64 e.node.1.kind, .int .u64 (e.node.1.num : Int), .string (txt e.node.1.text), .slice An e.node.2.len cn, .string (txt e.old.1.name), .string (txt e.old.1.key), .int .i64 e.old.1.kind, .int .u64 (e.old.1.num : Int), .string (txt e.old.1.text), .slice Ao e.old.2.len co] := Blk.newA (by simp) _ _
 have HRUN := Lib.hid (run_add hown (ys := edC e.kind (.slice Aw e.way.length cw) e.node.1 (.slice An e.node.2.len cn) e.old.1 (.slice Ao e.old.2.len co)) hblk (hE.keep (fun g hg => hb2.block g (hN g hg).2.1) (fun _ h => .inr h)) hM (Nat.le_trans h.size hb2.size))
 have q0 : (W.alloc (.cells #[.int .i64 e.kind, .slice Aw e.way.length cw, .string (txt e.node.1.name), .string (txt e.node.1.key), .int .i64 e.node.1.kind, .int .u64 (e.node.1.num : Int), .string (txt e.node.1.text), .slice An e.node.2.len cn, .string (txt e.old.1.name), .string (txt e.old.1.key), .int .i64 e.old.1.kind, .int .u64 (e.old.1.num : Int), .string (txt e.old.1.text), .slice Ao e.old.2.len co] 42)).cell? ⟨b + 2, 0, none⟩ = some (.slice Av M.length cv) := ((h.res.below hb1 h.res.lt).cell 0).trans rfl
 have HST := Lib.hid h
 have HN := Lib.hid hN
 have HB2 := Lib.hid hb2
 have hx1 : Blk (W.alloc (.cells #[.int .i64 e.kind, .slice Aw e.way.length cw, .string (txt e.node.1.name), .string (txt e.node.1.key), .int .i64 e.node.1.kind, .int .u64 (e.node.1.num : Int), .string (txt e.node.1.text), .slice An e.node.2.len cn, .string (txt e.old.1.name), .string (txt e.old.1.key), .int .i64 e.old.1.kind, .int .u64 (e.old.1.num : Int), .string (txt e.old.1.text), .slice Ao e.old.2.len co] 42)) W.heap.size 42 #[.int .i64 e.kind, .slice Aw e.way.length cw, .string (txt e.node.1.name), .string (txt e.node.1.key), .int .i64 e.node.1.kind, .int .u64 (e.node.1.num : Int), .string (txt e.node.1.text), .slice An e.node.2.len cn, .string (txt e.old.1.name), .string (txt e.old.1.key), .int .i64 e.old.1.kind, .int .u64 (e.old.1.num : Int), .string (txt e.old.1.text), .slice Ao e.old.2.len co] := Blk.new _ _ _
 have x0 : (W.alloc (.cells #[.int .i64 e.kind, .slice Aw e.way.length cw, .string (txt e.node.1.name), .string (txt e.node.1.key), .int .i64 e.node.1.kind, .int .u64 (e.node.1.num : Int), .string (txt e.node.1.text), .slice An e.node.2.len cn, .string (txt e.old.1.name), .string (txt e.old.1.key), .int .i64 e.old.1.kind, .int .u64 (e.old.1.num : Int), .string (txt e.old.1.text), .slice Ao e.old.2.len co] 42)).cell? ⟨W.heap.size, 0, none⟩ = _ := (hx1.cell 0).trans rfl
 have x1 : (W.alloc (.cells #[.int .i64 e.kind, .slice Aw e.way.length cw, .string (txt e.node.1.name), .string (txt e.node.1.key), .int .i64 e.node.1.kind, .int .u64 (e.node.1.num : Int), .string (txt e.node.1.text), .slice An e.node.2.len cn, .string (txt e.old.1.name), .string (txt e.old.1.key), .int .i64 e.old.1.kind, .int .u64 (e.old.1.num : Int), .string (txt e.old.1.text), .slice Ao e.old.2.len co] 42)).cell? ⟨W.heap.size, 1, none⟩ = _ := (hx1.cell 1).trans rfl
 have x2 : (W.alloc (.cells #[.int .i64 e.kind, .slice Aw e.way.length cw, .string (txt e.node.1.name), .string (txt e.node.1.key), .int .i64 e.node.1.kind, .int .u64 (e.node.1.num : Int), .string (txt e.node.1.text), .slice An e.node.2.len cn, .string (txt e.old.1.name), .string (txt e.old.1.key), .int .i64 e.old.1.kind, .int .u64 (e.old.1.num : Int), .string (txt e.old.1.text), .slice Ao e.old.2.len co] 42)).cell? ⟨W.heap.size, 2, none⟩ = _ := (hx1.cell 2).trans rfl
 have x3 : (W.alloc (.cells #[.int .i64 e.kind, .slice Aw e.way.length cw, .string (txt e.node.1.name), .string (txt e.node.1.key), .int .i64 e.node.1.kind, .int .u64 (e.node.1.num : Int), .string (txt e.node.1.text), .slice An e.node.2.len cn, .string (txt e.old.1.name), .string (txt e.old.1.key), .int .i64 e.old.1.kind, .int .u64 (e.old.1.num : Int), .string (txt e.old.1.text), .slice Ao e.old.2.len co] 42)).cell? ⟨W.heap.size, 3, none⟩ = _ := (hx1.cell 3).trans rfl
 have x4 : (W.alloc (.cells #[.int .i64 e.kind, .slice Aw e.way.length cw, .string (txt e.node.1.name), .string (txt e.node.1.key), .int .i64 e.node.1.kind, .int .u64 (e.node.1.num : Int), .string (txt e.node.1.text), .slice An e.node.2.len cn, .string (txt e.old.1.name), .string (txt e.old.1.key), .int .i64 e.old.1.kind, .int .u64 (e.old.1.num : Int), .string (txt e.old.1.text), .slice Ao e.old.2.len co] 42)).cell? ⟨W.heap.size, 4, none⟩ = _ := (hx1.cell 4).trans rfl
 have x5 : (W.alloc (.cells #[.int .i64 e.kind, .slice Aw e.way.length cw, .string (txt e.node.1.name), .string (txt e.node.1.key), .int .i64 e.node.1.kind, .int .u64 (e.node.1.num : Int), .string (txt e.node.1.text), .slice An e.node.2.len cn, .string (txt e.old.1.name), .string (txt e.old.1.key), .int .i64 e.old.1.kind, .int .u64 (e.old.1.num : Int), .string (txt e.old.1.text), .slice Ao e.old.2.len co] 42)).cell? ⟨W.heap.size, 5, none⟩ = _ := (hx1.cell 5).trans rfl
 have x6 : (W.alloc (.cells #[.int .i64 e.kind, .slice Aw e.way.length cw, .string (txt e.node.1.name), .string (txt e.node.1.key), .int .i64 e.node.1.kind, .int .u64 (e.node.1.num : Int), .string (txt e.node.1.text), .slice An e.node.2.len cn, .string (txt e.old.1.name), .string (txt e.old.1.key), .int .i64 e.old.1.kind, .int .u64 (e.old.1.num : Int), .string (txt e.old.1.text), .slice Ao e.old.2.len co] 42)).cell? ⟨W.heap.size, 6, none⟩ = _ := (hx1.cell 6).trans rfl
 have x7 : (W.alloc (.cells #[.int .i64 e.kind, .slice Aw e.way.length cw, .string (txt e.node.1.name), .string (txt e.node.1.key), .int .i64 e.node.1.kind, .int .u64 (e.node.1.num : Int), .string (txt e.node.1.text), .slice An e.node.2.len cn, .string (txt e.old.1.name), .string (txt e.old.1.key), .int .i64 e.old.1.kind, .int .u64 (e.old.1.num : Int), .string (txt e.old.1.text), .slice Ao e.old.2.len co] 42)).cell? ⟨W.heap.size, 7, none⟩ = _ := (hx1.cell 7).trans rfl
 have x8 : (W.alloc (.cells #[.int .i64 e.kind, .slice Aw e.way.length cw, .string (txt e.node.1.name), .string (txt e.node.1.key), .int .i64 e.node.1.kind, .int .u64 (e.node.1.num : Int), .string (txt e.node.1.text), .slice An e.node.2.len cn, .string (txt e.old.1.name), .string (txt e.old.1.key), .int .i64 e.old.1.kind, .int .u64 (e.old.1.num : Int), .string (txt e.old.1.text), .slice Ao e.old.2.len co] 42)).cell? ⟨W.heap.size, 8, none⟩ = _ := (hx1.cell 8).trans rfl
 have x9 : (W.alloc (.cells #[.int .i64 e.kind, .slice Aw e.way.length cw, .string (txt e.node.1.name), .string (txt e.node.1.key), .int .i64 e.node.1.kind, .int .u64 (e.node.1.num : Int), .string (txt e.node.1.text), .slice An e.node.2.len cn, .string (txt e.old.1.name), .string (txt e.old.1.key), .int .i64 e.old.1.kind, .int .u64 (e.old.1.num : Int), .string (txt e.old.1.text), .slice Ao e.old.2.len co] 42)).cell? ⟨W.heap.size, 9, none⟩ = _ := (hx1.cell 9).trans rfl
 have x10 : (W.alloc (.cells #[.int .i64 e.kind, .slice Aw e.way.length cw, .string (txt e.node.1.name), .string (txt e.node.1.key), .int .i64 e.node.1.kind, .int .u64 (e.node.1.num : Int), .string (txt e.node.1.text), .slice An e.node.2.len cn, .string (txt e.old.1.name), .string (txt e.old.1.key), .int .i64 e.old.1.kind, .int .u64 (e.old.1.num : Int), .string (txt e.old.1.text), .slice Ao e.old.2.len co] 42)).cell? ⟨W.heap.size, 10, none⟩ = _ := (hx1.cell 10).trans rfl
 have x11 : (W.alloc (.cells #[.int .i64 e.kind, .slice Aw e.way.length cw, .string (txt e.node.1.name), .string (txt e.node.1.key), .int .i64 e.node.1.kind, .int .u64 (e.node.1.num : Int), .string (txt e.node.1.text), .slice An e.node.2.len cn, .string (txt e.old.1.name), .string (txt e.old.1.key), .int .i64 e.old.1.kind, .int .u64 (e.old.1.num : Int), .string (txt e.old.1.text), .slice Ao e.old.2.len co] 42)).cell? ⟨W.heap.size, 11, none⟩ = _ := (hx1.cell 11).trans rfl
 have x12 : (W.alloc (.cells #[.int .i64 e.kind, .slice Aw e.way.length cw, .string (txt e.node.1.name), .string (txt e.node.1.key), .int .i64 e.node.1.kind, .int .u64 (e.node.1.num : Int), .string (txt e.node.1.text), .slice An e.node.2.len cn, .string (txt e.old.1.name), .string (txt e.old.1.key), .int .i64 e.old.1.kind, .int .u64 (e.old.1.num : Int), .string (txt e.old.1.text), .slice Ao e.old.2.len co] 42)).cell? ⟨W.heap.size, 12, none⟩ = _ := (hx1.cell 12).trans rfl
 have x13 : (W.alloc (.cells #[.int .i64 e.kind, .slice Aw e.way.length cw, .string (txt e.node.1.name), .string (txt e.node.1.key), .int .i64 e.node.1.kind, .int .u64 (e.node.1.num : Int), .string (txt e.node.1.text), .slice An e.node.2.len cn, .string (txt e.old.1.name), .string (txt e.old.1.key), .int .i64 e.old.1.kind, .int .u64 (e.old.1.num : Int), .string (txt e.old.1.text), .slice Ao e.old.2.len co] 42)).cell? ⟨W.heap.size, 13, none⟩ = _ := (hx1.cell 13).trans rfl
 clear h hE hN hM hown hblk hb1 hb2 hx1
 obtain ⟨v', w7, hr, hap, hro⟩ := HRUN.out
 have HR := Lib.hid hr
 have HQ := Lib.hid (add_end HST.out HN.out HB2.out hap hro)
 have hR7 : Blk w7 (b + 2) 31 #[.slice Av M.length cv] := (hap.2.1.block _ (Nat.lt_of_lt_of_le HST.out.res.lt HB2.out.size) (fun e => by have := (HST.out.vlt _ e.symm).1; omega)).trans ((HB2.out.block _ HST.out.res.lt).trans HST.out.res)
 have z0 : w7.cell? ⟨b + 2, 0, none⟩ = some (.slice Av M.length cv) := (hR7.cell 0).trans rfl
 have z1 : w7.frozen? ⟨b + 2, 0, none⟩ = false := hR7.frozen 0
 obtain ⟨A7, c7, rfl⟩ : ∃ A c, v' = .slice A (M.length + 1) c := by have h := hap.2.2; simpa using h
 clear hr hap hro HRUN hR7
 go_enter Try.func23, Try.ntmps23
 go_wp2_with (at_builtin; refine Lib.wpList_append_run _ rfl (.tmp 3) (.tmp 5) 31 31 rfl _ _ rfl rfl _ _ HR.out ?_)
 go_wp2
 go_end0
 exact ⟨⟨_, rfl⟩, _, HQ.out⟩
end Go.Proofs.Ythdhchhpjoghlaa
