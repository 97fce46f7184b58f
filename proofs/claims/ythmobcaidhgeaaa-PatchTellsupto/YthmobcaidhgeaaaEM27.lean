/- PpvC -/
import Derived.Test.YthmobcaidhgeaaaEM26
set_option linter.unusedSimpArgs false
set_option linter.unusedVariables false
set_option maxRecDepth 100000
set_option maxHeartbeats 8000000
namespace Go.Proofs.Ythmobcaidhgeaaa
open Go.RowKit
section
attribute [local go_sem] Oper.semAt_some
theorem Blk.new_atP {w : World} {g : Nat} (h : w.heap.size = g) (t : TypeId) (cs : Array Value) : Blk (w.alloc (.cells cs t)) g t cs := by subst h; exact Blk.new w t cs
theorem endsX_no {l : List Stp} {s : Stp} (h : endsX l s = false) : l = [] ∨ l.getLast? ≠ some s := .inr (of_decide_eq_false h)
theorem endsX_yes {l : List Stp} {s : Stp} (h : endsX l s = true) : l ≠ [] ∧ l.getLast? = some s := by
 have h2 : l.getLast? = some s := of_decide_eq_true h
 exact ⟨fun e => (by subst e; cases h2), h2⟩
theorem wpList_load_row_on {P : Program} {ops : Array Oper} {rest : List Oper} {o : Oper} {a : Act} {w : World} {Q : Exit → Act → World → Prop} (hw : Region.wanted o (yielded ops a.tmps) = true) (ty : TypeId) (x : Operand) (ho : o.op = .load ty x)
  (g : Nat) (hx : a.eval x = .pointer (some ⟨g, 0, none⟩)) (t : TypeId) (cs : Array Value) (fr : Nat × Nat) (d : TypeDesc) (hg : w.heap[g]? = some (.cells cs t fr))
  (hu : P.underlying ty = some d) (hd : (match d with | .struct _ | .array _ _ => true | _ => false) = true) (hi : (P.info? ty).map (·.size) = some cs.size)
  (h : wpList P ops Q rest (a.put o.dst (.agg cs)) w) : wpList P ops Q (o :: rest) a w := by
 simp only [wpList, hw, if_true]
 exact .inl (wp_load_row ty x ho g hx t cs fr d hg hu hd hi h)
theorem oldX_ok {n o : Nd} {l : List Stp} (h : oldX n l o = 0) : (GetX n l).2 = true ∧ (GetX n l).1 = o := by
 unfold oldX at h
 split at h
 ·cases h
 ·rename_i h1
  split at h
  ·cases h
  ·rename_i h2
   exact ⟨by simpa using h1, Classical.not_not.1 h2⟩
theorem one_old30 {n : Nd} {e : EdD} (hk : e.kind = 2 ∨ e.kind = 3) (hw : e.way ≠ []) (hn : e.kind ≠ 2 → e.way.getLast? = some (stp e.node.1)) (ho : e.kind ≠ 1 → e.way.getLast? = some (stp e.old.1)) (h : oldX n e.way e.old = 30) : oneX n e = (noN, 30) := by
 have h1 : (GetX n e.way).2 = false := by
  unfold oldX at h
  split at h
  ·assumption
  ·split at h <;> cases h
 have k1 : e.kind ≠ 1 := by rcases hk with h | h <;> omega
 unfold oneX
 rw [if_neg, if_neg (by simp [k1]), if_pos ⟨k1, h1⟩]
 rintro (⟨h2, h3, h4⟩ | h2 | ⟨h2, h3⟩ | ⟨h2, h3⟩)
 ·rcases hk with h | h <;> omega
 ·exact hw h2
 ·exact h3 (hn h2)
 ·exact h3 (ho h2)
theorem one_old23 {n : Nd} {e : EdD} (hk : e.kind = 2 ∨ e.kind = 3) (hw : e.way ≠ []) (hn : e.kind ≠ 2 → e.way.getLast? = some (stp e.node.1)) (ho : e.kind ≠ 1 → e.way.getLast? = some (stp e.old.1)) (h : oldX n e.way e.old = 23) : oneX n e = (noN, 23) := by
 have h1 : (GetX n e.way).2 = true ∧ (GetX n e.way).1 ≠ e.old := by
  unfold oldX at h
  split at h
  ·cases h
  ·rename_i h1
   split at h
   ·rename_i h2; exact ⟨by simpa using h1, h2⟩
   ·cases h
 have k1 : e.kind ≠ 1 := by rcases hk with h | h <;> omega
 unfold oneX
 rw [if_neg, if_neg (by simp [k1]), if_neg (by simp [h1.1]), if_pos (.inl ⟨k1, h1.2⟩)]
 rintro (⟨h2, h3, h4⟩ | h2 | ⟨h2, h3⟩ | ⟨h2, h3⟩)
 ·rcases hk with h | h <;> omega
 ·exact hw h2
 ·exact h3 (hn h2)
 ·exact h3 (ho h2)
theorem pcreate_arg (a p o : NdD) (f pf og : NdF) (A P O B : Option Addr) (c pc oc m : Nat) (l : List Stp) (w : World) (hx : LieN w (ndC a (.slice A f.len c)) (a, f)) (hv : WayV w.heap.size w (.slice B l.length m) l) (hp : LieN w (ndC p (.slice P pf.len pc)) (p, pf)) (ho : LieN w (ndC o (.slice O og.len oc)) (o, og)) (hf : f.size ≤ 1000000) (hpf : pf.size ≤ 1000000) (hog : og.size ≤ 1000000) (hl : l.length ≤ 1000000) (hr : rgtX (a, f) = true) (hn : endsX l (stp p) = false) :
  Calls Try.prog 28 #[.agg #[.string (txt a.name), .string (txt a.key), .int .i64 a.kind, .int .u64 (a.num : Int), .string (txt a.text), .slice A f.len c, .int .i64 1, .slice B l.length m, .string (txt p.name), .string (txt p.key), .int .i64 p.kind, .int .u64 (p.num : Int), .string (txt p.text), .slice P pf.len pc, .string (txt o.name), .string (txt o.key), .int .i64 o.kind, .int .u64 (o.num : Int), .string (txt o.text), .slice O og.len oc]] w (PTreP 0 (oneX (a, f) ⟨1, l, (p, pf), (o, og)⟩).1 (.int .i64 ((oneX (a, f) ⟨1, l, (p, pf), (o, og)⟩).2 : Int)) w) := by
 have hres : oneX (a, f) ⟨1, l, (p, pf), (o, og)⟩ = (noN, 1) := by
  unfold oneX; rw [if_pos (by rcases endsX_no hn with h | h; exact .inr (.inl h); exact .inr (.inr (.inl ⟨by simp, h⟩)))]
 rw [hres]
 clear hres
 have HB0 : Hid (Below w.heap.size w ((w.alloc (.cells #[.string (txt a.name), .string (txt a.key), .int .i64 a.kind, .int .u64 (a.num : Int), .string (txt a.text), .slice A f.len c, .int .i64 1, .slice B l.length m, .string (txt p.name), .string (txt p.key), .int .i64 p.kind, .int .u64 (p.num : Int), .string (txt p.text), .slice P pf.len pc, .string (txt o.name), .string (txt o.key), .int .i64 o.kind, .int .u64 (o.num : Int), .string (txt o.text), .slice O og.len oc] 51)).alloc (.cells #[.string ⟨#[]⟩, .string ⟨#[]⟩, .int .i64 0, .int .u64 0, .string ⟨#[]⟩, .slice none 0 0] 27))) := hHd (bAl.alloc (by simp) _)
 have HX0 : Hid (Blk ((w.alloc (.cells #[.string (txt a.name), .string (txt a.key), .int .i64 a.kind, .int .u64 (a.num : Int), .string (txt a.text), .slice A f.len c, .int .i64 1, .slice B l.length m, .string (txt p.name), .string (txt p.key), .int .i64 p.kind, .int .u64 (p.num : Int), .string (txt p.text), .slice P pf.len pc, .string (txt o.name), .string (txt o.key), .int .i64 o.kind, .int .u64 (o.num : Int), .string (txt o.text), .slice O og.len oc] 51)).alloc (.cells #[.string ⟨#[]⟩, .string ⟨#[]⟩, .int .i64 0, .int .u64 0, .string ⟨#[]⟩, .slice none 0 0] 27)) w.heap.size 51 #[.string (txt a.name), .string (txt a.key), .int .i64 a.kind, .int .u64 (a.num : Int), .string (txt a.text), .slice A f.len c, .int .i64 1, .slice B l.length m, .string (txt p.name), .string (txt p.key), .int .i64 p.kind, .int .u64 (p.num : Int), .string (txt p.text), .slice P pf.len pc, .string (txt o.name), .string (txt o.key), .int .i64 o.kind, .int .u64 (o.num : Int), .string (txt o.text), .slice O og.len oc]) := hHd ((Blk.new _ _ _).alloc _)
 have HZ0 : Hid (Blk ((w.alloc (.cells #[.string (txt a.name), .string (txt a.key), .int .i64 a.kind, .int .u64 (a.num : Int), .string (txt a.text), .slice A f.len c, .int .i64 1, .slice B l.length m, .string (txt p.name), .string (txt p.key), .int .i64 p.kind, .int .u64 (p.num : Int), .string (txt p.text), .slice P pf.len pc, .string (txt o.name), .string (txt o.key), .int .i64 o.kind, .int .u64 (o.num : Int), .string (txt o.text), .slice O og.len oc] 51)).alloc (.cells #[.string ⟨#[]⟩, .string ⟨#[]⟩, .int .i64 0, .int .u64 0, .string ⟨#[]⟩, .slice none 0 0] 27)) (w.heap.size + 1) 27 #[.string ⟨#[]⟩, .string ⟨#[]⟩, .int .i64 0, .int .u64 0, .string ⟨#[]⟩, .slice none 0 0]) := hHd (Blk.new_atP (by simp) _ _)
 have HN : ∀ W, Below w.heap.size w W → Hid (Calls Try.prog 38 #[.agg #[.string (txt a.name), .string (txt a.key), .int .i64 a.kind, .int .u64 (a.num : Int), .string (txt a.text), .slice A f.len c, .int .i64 1, .slice B l.length m, .string (txt p.name), .string (txt p.key), .int .i64 p.kind, .int .u64 (p.num : Int), .string (txt p.text), .slice P pf.len pc, .string (txt o.name), .string (txt o.key), .int .i64 o.kind, .int .u64 (o.num : Int), .string (txt o.text), .slice O og.len oc], .agg (cN p (.slice P pf.len pc))] W (Ans9 (.bool false) W)) := fun W hW => hHd (by have h := pfor_any a p o p f pf og A P O B c pc oc m 1 l (.slice P pf.len pc) W (hv.below hW) hl; rw [hn] at h; exact h)
 clear hx hv hp ho hf hpf hog hl hr hn
 go_enter Try.func28, Try.ntmps28
 have q13 := (HX0.out.cell 13).trans rfl
 have q12 := (HX0.out.cell 12).trans rfl
 have q11 := (HX0.out.cell 11).trans rfl
 have q10 := (HX0.out.cell 10).trans rfl
 have q9 := (HX0.out.cell 9).trans rfl
 have q8 := (HX0.out.cell 8).trans rfl
 go_wp2_with (first | (refine wpList_load_row rfl 51 (.tmp 1) rfl w.heap.size (by rfl) 51 _ (0, 0) _ HX0.out Try.underlying51 rfl (by kernel_rfl) ?_) | (refine wpList_load_row_on (by rfl) 51 (.tmp 1) rfl w.heap.size (by rfl) 51 _ (0, 0) _ HX0.out Try.underlying51 rfl (by kernel_rfl) ?_))
 refine (HN _ HB0.out).out.mono ?_
 rintro r w1 ⟨rfl, hb⟩
 have HX1 := hHd (HX0.out.below hb HX0.out.lt)
 have HZ1 := hHd (HZ0.out.below hb HZ0.out.lt)
 have HB1 := hHd (HB0.out.trans (hb.mono HB0.out.size))
 clear hb
 clear q8 q9 q10 q11 q12 q13
 have fz0 : (w1).frozen? ⟨w.heap.size + 1, 0, none⟩ = false := HZ1.out.frozen 0
 have fq0 := (HZ1.out.cell 0).trans rfl
 have fz1 : (w1).frozen? ⟨w.heap.size + 1, 1, none⟩ = false := HZ1.out.frozen 1
 have fq1 := (HZ1.out.cell 1).trans rfl
 have fz2 : (w1).frozen? ⟨w.heap.size + 1, 2, none⟩ = false := HZ1.out.frozen 2
 have fq2 := (HZ1.out.cell 2).trans rfl
 have fz3 : (w1).frozen? ⟨w.heap.size + 1, 3, none⟩ = false := HZ1.out.frozen 3
 have fq3 := (HZ1.out.cell 3).trans rfl
 have fz4 : (w1).frozen? ⟨w.heap.size + 1, 4, none⟩ = false := HZ1.out.frozen 4
 have fq4 := (HZ1.out.cell 4).trans rfl
 have fz5 : (w1).frozen? ⟨w.heap.size + 1, 5, none⟩ = false := HZ1.out.frozen 5
 have fq5 := (HZ1.out.cell 5).trans rfl
 have RZ : Hid (Blk (set6 w1 (w.heap.size + 1) (.string ⟨#[]⟩) (.string ⟨#[]⟩) (.int .i64 0) (.int .u64 0) (.string ⟨#[]⟩) (.slice none 0 0)) (w.heap.size + 1) 27 #[.string ⟨#[]⟩, .string ⟨#[]⟩, .int .i64 0, .int .u64 0, .string ⟨#[]⟩, .slice none 0 0]) := hHd (HZ1.out.set6 _ _ _ _ _ _)
 have RB : Hid (Below w.heap.size w (set6 w1 (w.heap.size + 1) (.string ⟨#[]⟩) (.string ⟨#[]⟩) (.int .i64 0) (.int .u64 0) (.string ⟨#[]⟩) (.slice none 0 0))) := hHd (HB1.out.trans (set6_below (by omega)))
 go_wp2_with fail
 refine bodyPost_ret (res_ct9 rfl _ _ (w.heap.size + 1) 27 _ (0, 0) _ rfl RZ.out Try.underlying27 rfl (by kernel_rfl)) rfl ?_
 exact ⟨_, rfl, (LieB.zero _ _).p _, RB.out⟩
theorem pcreate_twice (a p o : NdD) (f pf og : NdF) (A P O B : Option Addr) (c pc oc m : Nat) (l : List Stp) (w : World) (hx : LieN w (ndC a (.slice A f.len c)) (a, f)) (hv : WayV w.heap.size w (.slice B l.length m) l) (hp : LieN w (ndC p (.slice P pf.len pc)) (p, pf)) (ho : LieN w (ndC o (.slice O og.len oc)) (o, og)) (hf : f.size ≤ 1000000) (hpf : pf.size ≤ 1000000) (hog : og.size ≤ 1000000) (hl : l.length ≤ 1000000) (hr : rgtX (a, f) = true) (hn : endsX l (stp p) = true) (his : (GetX (a, f) l).2 = true) :
  Calls Try.prog 28 #[.agg #[.string (txt a.name), .string (txt a.key), .int .i64 a.kind, .int .u64 (a.num : Int), .string (txt a.text), .slice A f.len c, .int .i64 1, .slice B l.length m, .string (txt p.name), .string (txt p.key), .int .i64 p.kind, .int .u64 (p.num : Int), .string (txt p.text), .slice P pf.len pc, .string (txt o.name), .string (txt o.key), .int .i64 o.kind, .int .u64 (o.num : Int), .string (txt o.text), .slice O og.len oc]] w (PTreP 0 (oneX (a, f) ⟨1, l, (p, pf), (o, og)⟩).1 (.int .i64 ((oneX (a, f) ⟨1, l, (p, pf), (o, og)⟩).2 : Int)) w) := by
 have hres : oneX (a, f) ⟨1, l, (p, pf), (o, og)⟩ = (noN, 24) := by
  obtain ⟨h1, h2⟩ := endsX_yes hn; unfold oneX; rw [if_neg (by simp [h1, h2]), if_pos ⟨rfl, his⟩]
 rw [hres]
 clear hres
 have HB0 : Hid (Below w.heap.size w ((w.alloc (.cells #[.string (txt a.name), .string (txt a.key), .int .i64 a.kind, .int .u64 (a.num : Int), .string (txt a.text), .slice A f.len c, .int .i64 1, .slice B l.length m, .string (txt p.name), .string (txt p.key), .int .i64 p.kind, .int .u64 (p.num : Int), .string (txt p.text), .slice P pf.len pc, .string (txt o.name), .string (txt o.key), .int .i64 o.kind, .int .u64 (o.num : Int), .string (txt o.text), .slice O og.len oc] 51)).alloc (.cells #[.string ⟨#[]⟩, .string ⟨#[]⟩, .int .i64 0, .int .u64 0, .string ⟨#[]⟩, .slice none 0 0] 27))) := hHd (bAl.alloc (by simp) _)
 have HX0 : Hid (Blk ((w.alloc (.cells #[.string (txt a.name), .string (txt a.key), .int .i64 a.kind, .int .u64 (a.num : Int), .string (txt a.text), .slice A f.len c, .int .i64 1, .slice B l.length m, .string (txt p.name), .string (txt p.key), .int .i64 p.kind, .int .u64 (p.num : Int), .string (txt p.text), .slice P pf.len pc, .string (txt o.name), .string (txt o.key), .int .i64 o.kind, .int .u64 (o.num : Int), .string (txt o.text), .slice O og.len oc] 51)).alloc (.cells #[.string ⟨#[]⟩, .string ⟨#[]⟩, .int .i64 0, .int .u64 0, .string ⟨#[]⟩, .slice none 0 0] 27)) w.heap.size 51 #[.string (txt a.name), .string (txt a.key), .int .i64 a.kind, .int .u64 (a.num : Int), .string (txt a.text), .slice A f.len c, .int .i64 1, .slice B l.length m, .string (txt p.name), .string (txt p.key), .int .i64 p.kind, .int .u64 (p.num : Int), .string (txt p.text), .slice P pf.len pc, .string (txt o.name), .string (txt o.key), .int .i64 o.kind, .int .u64 (o.num : Int), .string (txt o.text), .slice O og.len oc]) := hHd ((Blk.new _ _ _).alloc _)
 have HZ0 : Hid (Blk ((w.alloc (.cells #[.string (txt a.name), .string (txt a.key), .int .i64 a.kind, .int .u64 (a.num : Int), .string (txt a.text), .slice A f.len c, .int .i64 1, .slice B l.length m, .string (txt p.name), .string (txt p.key), .int .i64 p.kind, .int .u64 (p.num : Int), .string (txt p.text), .slice P pf.len pc, .string (txt o.name), .string (txt o.key), .int .i64 o.kind, .int .u64 (o.num : Int), .string (txt o.text), .slice O og.len oc] 51)).alloc (.cells #[.string ⟨#[]⟩, .string ⟨#[]⟩, .int .i64 0, .int .u64 0, .string ⟨#[]⟩, .slice none 0 0] 27)) (w.heap.size + 1) 27 #[.string ⟨#[]⟩, .string ⟨#[]⟩, .int .i64 0, .int .u64 0, .string ⟨#[]⟩, .slice none 0 0]) := hHd (Blk.new_atP (by simp) _ _)
 have HN : ∀ W, Below w.heap.size w W → Hid (Calls Try.prog 38 #[.agg #[.string (txt a.name), .string (txt a.key), .int .i64 a.kind, .int .u64 (a.num : Int), .string (txt a.text), .slice A f.len c, .int .i64 1, .slice B l.length m, .string (txt p.name), .string (txt p.key), .int .i64 p.kind, .int .u64 (p.num : Int), .string (txt p.text), .slice P pf.len pc, .string (txt o.name), .string (txt o.key), .int .i64 o.kind, .int .u64 (o.num : Int), .string (txt o.text), .slice O og.len oc], .agg (cN p (.slice P pf.len pc))] W (Ans9 (.bool true) W)) := fun W hW => hHd (by have h := pfor_any a p o p f pf og A P O B c pc oc m 1 l (.slice P pf.len pc) W (hv.below hW) hl; rw [hn] at h; exact h)
 obtain ⟨⟨ya, yf⟩, hy⟩ : ∃ y, y = (GetX (a, f) l).1 := ⟨_, rfl⟩
 have HG : ∀ W, Below w.heap.size w W → Hid (Calls Try.prog 25 #[.agg (cN a (.slice A f.len c)), .slice B l.length m] W (TreP (ya, yf) (.bool true) W)) := fun W hW => hHd (by have h := getT W (a, f) l _ _ W (hx.below hW) (hv.below hW) hf hl (Below.refl _ _); rw [← hy, his] at h; exact h)
 clear hx hv hp ho hf hpf hog hl hr hn hy his
 go_enter Try.func28, Try.ntmps28
 have q13 := (HX0.out.cell 13).trans rfl
 have q12 := (HX0.out.cell 12).trans rfl
 have q11 := (HX0.out.cell 11).trans rfl
 have q10 := (HX0.out.cell 10).trans rfl
 have q9 := (HX0.out.cell 9).trans rfl
 have q8 := (HX0.out.cell 8).trans rfl
 go_wp2_with (first | (refine wpList_load_row rfl 51 (.tmp 1) rfl w.heap.size (by rfl) 51 _ (0, 0) _ HX0.out Try.underlying51 rfl (by kernel_rfl) ?_) | (refine wpList_load_row_on (by rfl) 51 (.tmp 1) rfl w.heap.size (by rfl) 51 _ (0, 0) _ HX0.out Try.underlying51 rfl (by kernel_rfl) ?_))
 refine (HN _ HB0.out).out.mono ?_
 rintro r w1 ⟨rfl, hb⟩
 have HX1 := hHd (HX0.out.below hb HX0.out.lt)
 have HZ1 := hHd (HZ0.out.below hb HZ0.out.lt)
 have HB1 := hHd (HB0.out.trans (hb.mono HB0.out.size))
 clear hb
 clear q8 q9 q10 q11 q12 q13
 have q7 := (HX1.out.cell 7).trans rfl
 have q5 := (HX1.out.cell 5).trans rfl
 have q4 := (HX1.out.cell 4).trans rfl
 have q3 := (HX1.out.cell 3).trans rfl
 have q2 := (HX1.out.cell 2).trans rfl
 have q1 := (HX1.out.cell 1).trans rfl
 have q0 := (HX1.out.cell 0).trans rfl
 go_wp2_with (first | (refine wpList_load_row rfl 51 (.tmp 1) rfl w.heap.size (by rfl) 51 _ (0, 0) _ HX1.out Try.underlying51 rfl (by kernel_rfl) ?_) | (refine wpList_load_row_on (by rfl) 51 (.tmp 1) rfl w.heap.size (by rfl) 51 _ (0, 0) _ HX1.out Try.underlying51 rfl (by kernel_rfl) ?_))
 refine (HG _ HB1.out).out.mono ?_
 rintro r w2 ⟨cs, rfl, hn, hb⟩
 obtain ⟨A3, c3, rfl, -⟩ := hn.lieP.shape
 replace hb := hb.trans ((show Below w2.heap.size w2 (w2.alloc (.cells (cN ya (.slice A3 yf.len c3)) 27)) from bAl).mono hb.size)
 have HX2 := hHd (HX1.out.below hb HX1.out.lt)
 have HZ2 := hHd (HZ1.out.below hb HZ1.out.lt)
 have HB2 := hHd (HB1.out.trans (hb.mono HB1.out.size))
 clear hb hn
 clear q0 q1 q2 q3 q4 q5 q7
 have fz0 : ((w2.alloc (.cells (cN ya (.slice A3 yf.len c3)) 27))).frozen? ⟨w.heap.size + 1, 0, none⟩ = false := HZ2.out.frozen 0
 have fq0 := (HZ2.out.cell 0).trans rfl
 have fz1 : ((w2.alloc (.cells (cN ya (.slice A3 yf.len c3)) 27))).frozen? ⟨w.heap.size + 1, 1, none⟩ = false := HZ2.out.frozen 1
 have fq1 := (HZ2.out.cell 1).trans rfl
 have fz2 : ((w2.alloc (.cells (cN ya (.slice A3 yf.len c3)) 27))).frozen? ⟨w.heap.size + 1, 2, none⟩ = false := HZ2.out.frozen 2
 have fq2 := (HZ2.out.cell 2).trans rfl
 have fz3 : ((w2.alloc (.cells (cN ya (.slice A3 yf.len c3)) 27))).frozen? ⟨w.heap.size + 1, 3, none⟩ = false := HZ2.out.frozen 3
 have fq3 := (HZ2.out.cell 3).trans rfl
 have fz4 : ((w2.alloc (.cells (cN ya (.slice A3 yf.len c3)) 27))).frozen? ⟨w.heap.size + 1, 4, none⟩ = false := HZ2.out.frozen 4
 have fq4 := (HZ2.out.cell 4).trans rfl
 have fz5 : ((w2.alloc (.cells (cN ya (.slice A3 yf.len c3)) 27))).frozen? ⟨w.heap.size + 1, 5, none⟩ = false := HZ2.out.frozen 5
 have fq5 := (HZ2.out.cell 5).trans rfl
 have RZ : Hid (Blk (set6 (w2.alloc (.cells (cN ya (.slice A3 yf.len c3)) 27)) (w.heap.size + 1) (.string ⟨#[]⟩) (.string ⟨#[]⟩) (.int .i64 0) (.int .u64 0) (.string ⟨#[]⟩) (.slice none 0 0)) (w.heap.size + 1) 27 #[.string ⟨#[]⟩, .string ⟨#[]⟩, .int .i64 0, .int .u64 0, .string ⟨#[]⟩, .slice none 0 0]) := hHd (HZ2.out.set6 _ _ _ _ _ _)
 have RB : Hid (Below w.heap.size w (set6 (w2.alloc (.cells (cN ya (.slice A3 yf.len c3)) 27)) (w.heap.size + 1) (.string ⟨#[]⟩) (.string ⟨#[]⟩) (.int .i64 0) (.int .u64 0) (.string ⟨#[]⟩) (.slice none 0 0))) := hHd (HB2.out.trans (set6_below (by omega)))
 go_wp2_with fail
 refine bodyPost_ret (res_ct9 rfl _ _ (w.heap.size + 1) 27 _ (0, 0) _ rfl RZ.out Try.underlying27 rfl (by kernel_rfl)) rfl ?_
 exact ⟨_, rfl, (LieB.zero _ _).p _, RB.out⟩
theorem pcreate_set (a p o : NdD) (f pf og : NdF) (A P O B : Option Addr) (c pc oc m : Nat) (l : List Stp) (w : World) (hx : LieN w (ndC a (.slice A f.len c)) (a, f)) (hv : WayV w.heap.size w (.slice B l.length m) l) (hp : LieN w (ndC p (.slice P pf.len pc)) (p, pf)) (ho : LieN w (ndC o (.slice O og.len oc)) (o, og)) (hf : f.size ≤ 1000000) (hpf : pf.size ≤ 1000000) (hog : og.size ≤ 1000000) (hl : l.length ≤ 1000000) (hr : rgtX (a, f) = true) (hn : endsX l (stp p) = true) (his : (GetX (a, f) l).2 = false) :
  Calls Try.prog 28 #[.agg #[.string (txt a.name), .string (txt a.key), .int .i64 a.kind, .int .u64 (a.num : Int), .string (txt a.text), .slice A f.len c, .int .i64 1, .slice B l.length m, .string (txt p.name), .string (txt p.key), .int .i64 p.kind, .int .u64 (p.num : Int), .string (txt p.text), .slice P pf.len pc, .string (txt o.name), .string (txt o.key), .int .i64 o.kind, .int .u64 (o.num : Int), .string (txt o.text), .slice O og.len oc]] w (PTreP 0 (oneX (a, f) ⟨1, l, (p, pf), (o, og)⟩).1 (.int .i64 ((oneX (a, f) ⟨1, l, (p, pf), (o, og)⟩).2 : Int)) w) := by
 have hres : oneX (a, f) ⟨1, l, (p, pf), (o, og)⟩ = SetX (a, f) l (p, pf) := by
  obtain ⟨h1, h2⟩ := endsX_yes hn; unfold oneX; rw [if_neg (by simp [h1, h2]), if_neg (by simp [his]), if_neg (by simp), if_neg (by simp), if_neg (by simp)]
 rw [hres]
 clear hres
 have HB0 : Hid (Below w.heap.size w ((w.alloc (.cells #[.string (txt a.name), .string (txt a.key), .int .i64 a.kind, .int .u64 (a.num : Int), .string (txt a.text), .slice A f.len c, .int .i64 1, .slice B l.length m, .string (txt p.name), .string (txt p.key), .int .i64 p.kind, .int .u64 (p.num : Int), .string (txt p.text), .slice P pf.len pc, .string (txt o.name), .string (txt o.key), .int .i64 o.kind, .int .u64 (o.num : Int), .string (txt o.text), .slice O og.len oc] 51)).alloc (.cells #[.string ⟨#[]⟩, .string ⟨#[]⟩, .int .i64 0, .int .u64 0, .string ⟨#[]⟩, .slice none 0 0] 27))) := hHd (bAl.alloc (by simp) _)
 have HX0 : Hid (Blk ((w.alloc (.cells #[.string (txt a.name), .string (txt a.key), .int .i64 a.kind, .int .u64 (a.num : Int), .string (txt a.text), .slice A f.len c, .int .i64 1, .slice B l.length m, .string (txt p.name), .string (txt p.key), .int .i64 p.kind, .int .u64 (p.num : Int), .string (txt p.text), .slice P pf.len pc, .string (txt o.name), .string (txt o.key), .int .i64 o.kind, .int .u64 (o.num : Int), .string (txt o.text), .slice O og.len oc] 51)).alloc (.cells #[.string ⟨#[]⟩, .string ⟨#[]⟩, .int .i64 0, .int .u64 0, .string ⟨#[]⟩, .slice none 0 0] 27)) w.heap.size 51 #[.string (txt a.name), .string (txt a.key), .int .i64 a.kind, .int .u64 (a.num : Int), .string (txt a.text), .slice A f.len c, .int .i64 1, .slice B l.length m, .string (txt p.name), .string (txt p.key), .int .i64 p.kind, .int .u64 (p.num : Int), .string (txt p.text), .slice P pf.len pc, .string (txt o.name), .string (txt o.key), .int .i64 o.kind, .int .u64 (o.num : Int), .string (txt o.text), .slice O og.len oc]) := hHd ((Blk.new _ _ _).alloc _)
 have HZ0 : Hid (Blk ((w.alloc (.cells #[.string (txt a.name), .string (txt a.key), .int .i64 a.kind, .int .u64 (a.num : Int), .string (txt a.text), .slice A f.len c, .int .i64 1, .slice B l.length m, .string (txt p.name), .string (txt p.key), .int .i64 p.kind, .int .u64 (p.num : Int), .string (txt p.text), .slice P pf.len pc, .string (txt o.name), .string (txt o.key), .int .i64 o.kind, .int .u64 (o.num : Int), .string (txt o.text), .slice O og.len oc] 51)).alloc (.cells #[.string ⟨#[]⟩, .string ⟨#[]⟩, .int .i64 0, .int .u64 0, .string ⟨#[]⟩, .slice none 0 0] 27)) (w.heap.size + 1) 27 #[.string ⟨#[]⟩, .string ⟨#[]⟩, .int .i64 0, .int .u64 0, .string ⟨#[]⟩, .slice none 0 0]) := hHd (Blk.new_atP (by simp) _ _)
 have HN : ∀ W, Below w.heap.size w W → Hid (Calls Try.prog 38 #[.agg #[.string (txt a.name), .string (txt a.key), .int .i64 a.kind, .int .u64 (a.num : Int), .string (txt a.text), .slice A f.len c, .int .i64 1, .slice B l.length m, .string (txt p.name), .string (txt p.key), .int .i64 p.kind, .int .u64 (p.num : Int), .string (txt p.text), .slice P pf.len pc, .string (txt o.name), .string (txt o.key), .int .i64 o.kind, .int .u64 (o.num : Int), .string (txt o.text), .slice O og.len oc], .agg (cN p (.slice P pf.len pc))] W (Ans9 (.bool true) W)) := fun W hW => hHd (by have h := pfor_any a p o p f pf og A P O B c pc oc m 1 l (.slice P pf.len pc) W (hv.below hW) hl; rw [hn] at h; exact h)
 obtain ⟨⟨ya, yf⟩, hy⟩ : ∃ y, y = (GetX (a, f) l).1 := ⟨_, rfl⟩
 have HG : ∀ W, Below w.heap.size w W → Hid (Calls Try.prog 25 #[.agg (cN a (.slice A f.len c)), .slice B l.length m] W (TreP (ya, yf) (.bool false) W)) := fun W hW => hHd (by have h := getT W (a, f) l _ _ W (hx.below hW) (hv.below hW) hf hl (Below.refl _ _); rw [← hy, his] at h; exact h)
 obtain ⟨⟨⟨ra, rf⟩, re⟩, hs⟩ : ∃ y, y = SetX (a, f) l (p, pf) := ⟨_, rfl⟩
 have HT : ∀ W, Below w.heap.size w W → Hid (Calls Try.prog 39 #[.agg (cN a (.slice A f.len c)), .slice B l.length m, .agg (cN p (.slice P pf.len pc))] W (TreP (ra, rf) (.int .i64 (re : Int)) W)) := fun W hW => hHd (by have h := setT W (a, f) (p, pf) l _ _ _ W (hx.below hW) (hp.below hW) (hv.below hW) hf hpf hr hl (Below.refl _ _); rw [← hs] at h; exact h)
 rw [← hs]
 clear hs
 clear hx hv hp ho hf hpf hog hl hr hn hy his
 go_enter Try.func28, Try.ntmps28
 have q13 := (HX0.out.cell 13).trans rfl
 have q12 := (HX0.out.cell 12).trans rfl
 have q11 := (HX0.out.cell 11).trans rfl
 have q10 := (HX0.out.cell 10).trans rfl
 have q9 := (HX0.out.cell 9).trans rfl
 have q8 := (HX0.out.cell 8).trans rfl
 go_wp2_with (first | (refine wpList_load_row rfl 51 (.tmp 1) rfl w.heap.size (by rfl) 51 _ (0, 0) _ HX0.out Try.underlying51 rfl (by kernel_rfl) ?_) | (refine wpList_load_row_on (by rfl) 51 (.tmp 1) rfl w.heap.size (by rfl) 51 _ (0, 0) _ HX0.out Try.underlying51 rfl (by kernel_rfl) ?_))
 refine (HN _ HB0.out).out.mono ?_
 rintro r w1 ⟨rfl, hb⟩
 have HX1 := hHd (HX0.out.below hb HX0.out.lt)
 have HZ1 := hHd (HZ0.out.below hb HZ0.out.lt)
 have HB1 := hHd (HB0.out.trans (hb.mono HB0.out.size))
 clear hb
 clear q8 q9 q10 q11 q12 q13
 have q7 := (HX1.out.cell 7).trans rfl
 have q5 := (HX1.out.cell 5).trans rfl
 have q4 := (HX1.out.cell 4).trans rfl
 have q3 := (HX1.out.cell 3).trans rfl
 have q2 := (HX1.out.cell 2).trans rfl
 have q1 := (HX1.out.cell 1).trans rfl
 have q0 := (HX1.out.cell 0).trans rfl
 go_wp2_with (first | (refine wpList_load_row rfl 51 (.tmp 1) rfl w.heap.size (by rfl) 51 _ (0, 0) _ HX1.out Try.underlying51 rfl (by kernel_rfl) ?_) | (refine wpList_load_row_on (by rfl) 51 (.tmp 1) rfl w.heap.size (by rfl) 51 _ (0, 0) _ HX1.out Try.underlying51 rfl (by kernel_rfl) ?_))
 refine (HG _ HB1.out).out.mono ?_
 rintro r w2 ⟨cs, rfl, hn, hb⟩
 obtain ⟨A3, c3, rfl, -⟩ := hn.lieP.shape
 replace hb := hb.trans ((show Below w2.heap.size w2 (w2.alloc (.cells (cN ya (.slice A3 yf.len c3)) 27)) from bAl).mono hb.size)
 have HX2 := hHd (HX1.out.below hb HX1.out.lt)
 have HZ2 := hHd (HZ1.out.below hb HZ1.out.lt)
 have HB2 := hHd (HB1.out.trans (hb.mono HB1.out.size))
 clear hb hn
 clear q0 q1 q2 q3 q4 q5 q7
 have q13 := (HX2.out.cell 13).trans rfl
 have q12 := (HX2.out.cell 12).trans rfl
 have q11 := (HX2.out.cell 11).trans rfl
 have q10 := (HX2.out.cell 10).trans rfl
 have q9 := (HX2.out.cell 9).trans rfl
 have q8 := (HX2.out.cell 8).trans rfl
 have q7 := (HX2.out.cell 7).trans rfl
 have q5 := (HX2.out.cell 5).trans rfl
 have q4 := (HX2.out.cell 4).trans rfl
 have q3 := (HX2.out.cell 3).trans rfl
 have q2 := (HX2.out.cell 2).trans rfl
 have q1 := (HX2.out.cell 1).trans rfl
 have q0 := (HX2.out.cell 0).trans rfl
 go_wp2_with (first | (refine wpList_load_row rfl 51 (.tmp 1) rfl w.heap.size (by rfl) 51 _ (0, 0) _ HX2.out Try.underlying51 rfl (by kernel_rfl) ?_) | (refine wpList_load_row_on (by rfl) 51 (.tmp 1) rfl w.heap.size (by rfl) 51 _ (0, 0) _ HX2.out Try.underlying51 rfl (by kernel_rfl) ?_))
 refine (HT _ HB2.out).out.mono ?_
 rintro r w3 ⟨cs, rfl, hn, hb⟩
 obtain ⟨A9, c9, rfl, -⟩ := hn.lieP.shape
 have HL := hHd hn.lieP
 have HS0 := hHd HZ2.out.lt
 have HX3 := hHd (HX2.out.below hb HX2.out.lt)
 have HZ3 := hHd (HZ2.out.below hb HZ2.out.lt)
 have HB3 := hHd (HB2.out.trans (hb.mono HB2.out.size))
 clear hb hn
 clear q0 q1 q2 q3 q4 q5 q7 q8 q9 q10 q11 q12 q13
 have fz0 : (w3).frozen? ⟨w.heap.size + 1, 0, none⟩ = false := HZ3.out.frozen 0
 have fq0 := (HZ3.out.cell 0).trans rfl
 have fz1 : (w3).frozen? ⟨w.heap.size + 1, 1, none⟩ = false := HZ3.out.frozen 1
 have fq1 := (HZ3.out.cell 1).trans rfl
 have fz2 : (w3).frozen? ⟨w.heap.size + 1, 2, none⟩ = false := HZ3.out.frozen 2
 have fq2 := (HZ3.out.cell 2).trans rfl
 have fz3 : (w3).frozen? ⟨w.heap.size + 1, 3, none⟩ = false := HZ3.out.frozen 3
 have fq3 := (HZ3.out.cell 3).trans rfl
 have fz4 : (w3).frozen? ⟨w.heap.size + 1, 4, none⟩ = false := HZ3.out.frozen 4
 have fq4 := (HZ3.out.cell 4).trans rfl
 have fz5 : (w3).frozen? ⟨w.heap.size + 1, 5, none⟩ = false := HZ3.out.frozen 5
 have fq5 := (HZ3.out.cell 5).trans rfl
 have RZ : Hid (Blk (set6 w3 (w.heap.size + 1) (.string (txt ra.name)) (.string (txt ra.key)) (.int .i64 ra.kind) (.int .u64 (ra.num : Int)) (.string (txt ra.text)) (.slice A9 rf.len c9)) (w.heap.size + 1) 27 (cN ra (.slice A9 rf.len c9))) := hHd (HZ3.out.set6 _ _ _ _ _ _)
 have RB : Hid (Below w.heap.size w (set6 w3 (w.heap.size + 1) (.string (txt ra.name)) (.string (txt ra.key)) (.int .i64 ra.kind) (.int .u64 (ra.num : Int)) (.string (txt ra.text)) (.slice A9 rf.len c9))) := hHd (HB3.out.trans (set6_below (by omega)))
 have RL : Hid (LieP 0 w.heap.size (set6 w3 (w.heap.size + 1) (.string (txt ra.name)) (.string (txt ra.key)) (.int .i64 ra.kind) (.int .u64 (ra.num : Int)) (.string (txt ra.text)) (.slice A9 rf.len c9)) (ndC ra (.slice A9 rf.len c9)) (ra, rf)) := hHd ((HL.out.set6 (Nat.zero_le _) HS0.out _ _ _ _ _ _).after HB2.out.size)
 go_wp2_with fail
 refine bodyPost_ret (res_ct9 rfl _ _ (w.heap.size + 1) 27 _ (0, 0) _ rfl RZ.out Try.underlying27 rfl (by kernel_rfl)) rfl ?_
 exact ⟨_, rfl, RL.out, RB.out⟩
theorem premove_arg (a p o : NdD) (f pf og : NdF) (A P O B : Option Addr) (c pc oc m : Nat) (l : List Stp) (w : World) (hx : LieN w (ndC a (.slice A f.len c)) (a, f)) (hv : WayV w.heap.size w (.slice B l.length m) l) (hp : LieN w (ndC p (.slice P pf.len pc)) (p, pf)) (ho : LieN w (ndC o (.slice O og.len oc)) (o, og)) (hf : f.size ≤ 1000000) (hpf : pf.size ≤ 1000000) (hog : og.size ≤ 1000000) (hl : l.length ≤ 1000000) (hr : rgtX (a, f) = true) (hn : endsX l (stp o) = false) :
  Calls Try.prog 29 #[.agg #[.string (txt a.name), .string (txt a.key), .int .i64 a.kind, .int .u64 (a.num : Int), .string (txt a.text), .slice A f.len c, .int .i64 2, .slice B l.length m, .string (txt p.name), .string (txt p.key), .int .i64 p.kind, .int .u64 (p.num : Int), .string (txt p.text), .slice P pf.len pc, .string (txt o.name), .string (txt o.key), .int .i64 o.kind, .int .u64 (o.num : Int), .string (txt o.text), .slice O og.len oc]] w (PTreP 0 (oneX (a, f) ⟨2, l, (p, pf), (o, og)⟩).1 (.int .i64 ((oneX (a, f) ⟨2, l, (p, pf), (o, og)⟩).2 : Int)) w) := by
 have hres : oneX (a, f) ⟨2, l, (p, pf), (o, og)⟩ = (noN, 1) := by
  unfold oneX; rw [if_pos (by rcases endsX_no hn with h | h; exact .inr (.inl h); exact .inr (.inr (.inr ⟨by simp, h⟩)))]
 rw [hres]
 clear hres
 have HB0 : Hid (Below w.heap.size w ((w.alloc (.cells #[.string (txt a.name), .string (txt a.key), .int .i64 a.kind, .int .u64 (a.num : Int), .string (txt a.text), .slice A f.len c, .int .i64 2, .slice B l.length m, .string (txt p.name), .string (txt p.key), .int .i64 p.kind, .int .u64 (p.num : Int), .string (txt p.text), .slice P pf.len pc, .string (txt o.name), .string (txt o.key), .int .i64 o.kind, .int .u64 (o.num : Int), .string (txt o.text), .slice O og.len oc] 51)).alloc (.cells #[.string ⟨#[]⟩, .string ⟨#[]⟩, .int .i64 0, .int .u64 0, .string ⟨#[]⟩, .slice none 0 0] 27))) := hHd (bAl.alloc (by simp) _)
 have HX0 : Hid (Blk ((w.alloc (.cells #[.string (txt a.name), .string (txt a.key), .int .i64 a.kind, .int .u64 (a.num : Int), .string (txt a.text), .slice A f.len c, .int .i64 2, .slice B l.length m, .string (txt p.name), .string (txt p.key), .int .i64 p.kind, .int .u64 (p.num : Int), .string (txt p.text), .slice P pf.len pc, .string (txt o.name), .string (txt o.key), .int .i64 o.kind, .int .u64 (o.num : Int), .string (txt o.text), .slice O og.len oc] 51)).alloc (.cells #[.string ⟨#[]⟩, .string ⟨#[]⟩, .int .i64 0, .int .u64 0, .string ⟨#[]⟩, .slice none 0 0] 27)) w.heap.size 51 #[.string (txt a.name), .string (txt a.key), .int .i64 a.kind, .int .u64 (a.num : Int), .string (txt a.text), .slice A f.len c, .int .i64 2, .slice B l.length m, .string (txt p.name), .string (txt p.key), .int .i64 p.kind, .int .u64 (p.num : Int), .string (txt p.text), .slice P pf.len pc, .string (txt o.name), .string (txt o.key), .int .i64 o.kind, .int .u64 (o.num : Int), .string (txt o.text), .slice O og.len oc]) := hHd ((Blk.new _ _ _).alloc _)
 have HZ0 : Hid (Blk ((w.alloc (.cells #[.string (txt a.name), .string (txt a.key), .int .i64 a.kind, .int .u64 (a.num : Int), .string (txt a.text), .slice A f.len c, .int .i64 2, .slice B l.length m, .string (txt p.name), .string (txt p.key), .int .i64 p.kind, .int .u64 (p.num : Int), .string (txt p.text), .slice P pf.len pc, .string (txt o.name), .string (txt o.key), .int .i64 o.kind, .int .u64 (o.num : Int), .string (txt o.text), .slice O og.len oc] 51)).alloc (.cells #[.string ⟨#[]⟩, .string ⟨#[]⟩, .int .i64 0, .int .u64 0, .string ⟨#[]⟩, .slice none 0 0] 27)) (w.heap.size + 1) 27 #[.string ⟨#[]⟩, .string ⟨#[]⟩, .int .i64 0, .int .u64 0, .string ⟨#[]⟩, .slice none 0 0]) := hHd (Blk.new_atP (by simp) _ _)
 have HN : ∀ W, Below w.heap.size w W → Hid (Calls Try.prog 38 #[.agg #[.string (txt a.name), .string (txt a.key), .int .i64 a.kind, .int .u64 (a.num : Int), .string (txt a.text), .slice A f.len c, .int .i64 2, .slice B l.length m, .string (txt p.name), .string (txt p.key), .int .i64 p.kind, .int .u64 (p.num : Int), .string (txt p.text), .slice P pf.len pc, .string (txt o.name), .string (txt o.key), .int .i64 o.kind, .int .u64 (o.num : Int), .string (txt o.text), .slice O og.len oc], .agg (cN o (.slice O og.len oc))] W (Ans9 (.bool false) W)) := fun W hW => hHd (by have h := pfor_any a p o o f pf og A P O B c pc oc m 2 l (.slice O og.len oc) W (hv.below hW) hl; rw [hn] at h; exact h)
 clear hx hv hp ho hf hpf hog hl hr hn
 go_enter Try.func29, Try.ntmps29
 have q19 := (HX0.out.cell 19).trans rfl
 have q18 := (HX0.out.cell 18).trans rfl
 have q17 := (HX0.out.cell 17).trans rfl
 have q16 := (HX0.out.cell 16).trans rfl
 have q15 := (HX0.out.cell 15).trans rfl
 have q14 := (HX0.out.cell 14).trans rfl
 go_wp2_with (first | (refine wpList_load_row rfl 51 (.tmp 1) rfl w.heap.size (by rfl) 51 _ (0, 0) _ HX0.out Try.underlying51 rfl (by kernel_rfl) ?_) | (refine wpList_load_row_on (by rfl) 51 (.tmp 1) rfl w.heap.size (by rfl) 51 _ (0, 0) _ HX0.out Try.underlying51 rfl (by kernel_rfl) ?_))
 refine (HN _ HB0.out).out.mono ?_
 rintro r w1 ⟨rfl, hb⟩
 have HX1 := hHd (HX0.out.below hb HX0.out.lt)
 have HZ1 := hHd (HZ0.out.below hb HZ0.out.lt)
 have HB1 := hHd (HB0.out.trans (hb.mono HB0.out.size))
 clear hb
 clear q14 q15 q16 q17 q18 q19
 have fz0 : (w1).frozen? ⟨w.heap.size + 1, 0, none⟩ = false := HZ1.out.frozen 0
 have fq0 := (HZ1.out.cell 0).trans rfl
 have fz1 : (w1).frozen? ⟨w.heap.size + 1, 1, none⟩ = false := HZ1.out.frozen 1
 have fq1 := (HZ1.out.cell 1).trans rfl
 have fz2 : (w1).frozen? ⟨w.heap.size + 1, 2, none⟩ = false := HZ1.out.frozen 2
 have fq2 := (HZ1.out.cell 2).trans rfl
 have fz3 : (w1).frozen? ⟨w.heap.size + 1, 3, none⟩ = false := HZ1.out.frozen 3
 have fq3 := (HZ1.out.cell 3).trans rfl
 have fz4 : (w1).frozen? ⟨w.heap.size + 1, 4, none⟩ = false := HZ1.out.frozen 4
 have fq4 := (HZ1.out.cell 4).trans rfl
 have fz5 : (w1).frozen? ⟨w.heap.size + 1, 5, none⟩ = false := HZ1.out.frozen 5
 have fq5 := (HZ1.out.cell 5).trans rfl
 have RZ : Hid (Blk (set6 w1 (w.heap.size + 1) (.string ⟨#[]⟩) (.string ⟨#[]⟩) (.int .i64 0) (.int .u64 0) (.string ⟨#[]⟩) (.slice none 0 0)) (w.heap.size + 1) 27 #[.string ⟨#[]⟩, .string ⟨#[]⟩, .int .i64 0, .int .u64 0, .string ⟨#[]⟩, .slice none 0 0]) := hHd (HZ1.out.set6 _ _ _ _ _ _)
 have RB : Hid (Below w.heap.size w (set6 w1 (w.heap.size + 1) (.string ⟨#[]⟩) (.string ⟨#[]⟩) (.int .i64 0) (.int .u64 0) (.string ⟨#[]⟩) (.slice none 0 0))) := hHd (HB1.out.trans (set6_below (by omega)))
 go_wp2_with fail
 refine bodyPost_ret (res_ct9 rfl _ _ (w.heap.size + 1) 27 _ (0, 0) _ rfl RZ.out Try.underlying27 rfl (by kernel_rfl)) rfl ?_
 exact ⟨_, rfl, (LieB.zero _ _).p _, RB.out⟩
theorem premove_none (a p o : NdD) (f pf og : NdF) (A P O B : Option Addr) (c pc oc m : Nat) (l : List Stp) (w : World) (hx : LieN w (ndC a (.slice A f.len c)) (a, f)) (hv : WayV w.heap.size w (.slice B l.length m) l) (hp : LieN w (ndC p (.slice P pf.len pc)) (p, pf)) (ho : LieN w (ndC o (.slice O og.len oc)) (o, og)) (hf : f.size ≤ 1000000) (hpf : pf.size ≤ 1000000) (hog : og.size ≤ 1000000) (hl : l.length ≤ 1000000) (hr : rgtX (a, f) = true) (hn : endsX l (stp o) = true) (hold : oldX (a, f) l (o, og) = 30) :
  Calls Try.prog 29 #[.agg #[.string (txt a.name), .string (txt a.key), .int .i64 a.kind, .int .u64 (a.num : Int), .string (txt a.text), .slice A f.len c, .int .i64 2, .slice B l.length m, .string (txt p.name), .string (txt p.key), .int .i64 p.kind, .int .u64 (p.num : Int), .string (txt p.text), .slice P pf.len pc, .string (txt o.name), .string (txt o.key), .int .i64 o.kind, .int .u64 (o.num : Int), .string (txt o.text), .slice O og.len oc]] w (PTreP 0 (oneX (a, f) ⟨2, l, (p, pf), (o, og)⟩).1 (.int .i64 ((oneX (a, f) ⟨2, l, (p, pf), (o, og)⟩).2 : Int)) w) := by
 have hres : oneX (a, f) ⟨2, l, (p, pf), (o, og)⟩ = (noN, 30) := by
  exact one_old30 (by simp) (endsX_yes hn).1 (by simp) (by intro _; exact (endsX_yes hn).2) hold
 rw [hres]
 clear hres
 have HB0 : Hid (Below w.heap.size w ((w.alloc (.cells #[.string (txt a.name), .string (txt a.key), .int .i64 a.kind, .int .u64 (a.num : Int), .string (txt a.text), .slice A f.len c, .int .i64 2, .slice B l.length m, .string (txt p.name), .string (txt p.key), .int .i64 p.kind, .int .u64 (p.num : Int), .string (txt p.text), .slice P pf.len pc, .string (txt o.name), .string (txt o.key), .int .i64 o.kind, .int .u64 (o.num : Int), .string (txt o.text), .slice O og.len oc] 51)).alloc (.cells #[.string ⟨#[]⟩, .string ⟨#[]⟩, .int .i64 0, .int .u64 0, .string ⟨#[]⟩, .slice none 0 0] 27))) := hHd (bAl.alloc (by simp) _)
 have HX0 : Hid (Blk ((w.alloc (.cells #[.string (txt a.name), .string (txt a.key), .int .i64 a.kind, .int .u64 (a.num : Int), .string (txt a.text), .slice A f.len c, .int .i64 2, .slice B l.length m, .string (txt p.name), .string (txt p.key), .int .i64 p.kind, .int .u64 (p.num : Int), .string (txt p.text), .slice P pf.len pc, .string (txt o.name), .string (txt o.key), .int .i64 o.kind, .int .u64 (o.num : Int), .string (txt o.text), .slice O og.len oc] 51)).alloc (.cells #[.string ⟨#[]⟩, .string ⟨#[]⟩, .int .i64 0, .int .u64 0, .string ⟨#[]⟩, .slice none 0 0] 27)) w.heap.size 51 #[.string (txt a.name), .string (txt a.key), .int .i64 a.kind, .int .u64 (a.num : Int), .string (txt a.text), .slice A f.len c, .int .i64 2, .slice B l.length m, .string (txt p.name), .string (txt p.key), .int .i64 p.kind, .int .u64 (p.num : Int), .string (txt p.text), .slice P pf.len pc, .string (txt o.name), .string (txt o.key), .int .i64 o.kind, .int .u64 (o.num : Int), .string (txt o.text), .slice O og.len oc]) := hHd ((Blk.new _ _ _).alloc _)
 have HZ0 : Hid (Blk ((w.alloc (.cells #[.string (txt a.name), .string (txt a.key), .int .i64 a.kind, .int .u64 (a.num : Int), .string (txt a.text), .slice A f.len c, .int .i64 2, .slice B l.length m, .string (txt p.name), .string (txt p.key), .int .i64 p.kind, .int .u64 (p.num : Int), .string (txt p.text), .slice P pf.len pc, .string (txt o.name), .string (txt o.key), .int .i64 o.kind, .int .u64 (o.num : Int), .string (txt o.text), .slice O og.len oc] 51)).alloc (.cells #[.string ⟨#[]⟩, .string ⟨#[]⟩, .int .i64 0, .int .u64 0, .string ⟨#[]⟩, .slice none 0 0] 27)) (w.heap.size + 1) 27 #[.string ⟨#[]⟩, .string ⟨#[]⟩, .int .i64 0, .int .u64 0, .string ⟨#[]⟩, .slice none 0 0]) := hHd (Blk.new_atP (by simp) _ _)
 have HN : ∀ W, Below w.heap.size w W → Hid (Calls Try.prog 38 #[.agg #[.string (txt a.name), .string (txt a.key), .int .i64 a.kind, .int .u64 (a.num : Int), .string (txt a.text), .slice A f.len c, .int .i64 2, .slice B l.length m, .string (txt p.name), .string (txt p.key), .int .i64 p.kind, .int .u64 (p.num : Int), .string (txt p.text), .slice P pf.len pc, .string (txt o.name), .string (txt o.key), .int .i64 o.kind, .int .u64 (o.num : Int), .string (txt o.text), .slice O og.len oc], .agg (cN o (.slice O og.len oc))] W (Ans9 (.bool true) W)) := fun W hW => hHd (by have h := pfor_any a p o o f pf og A P O B c pc oc m 2 l (.slice O og.len oc) W (hv.below hW) hl; rw [hn] at h; exact h)
 have HO : ∀ W, Below w.heap.size w W → Hid (Calls Try.prog 40 #[.agg #[.string (txt a.name), .string (txt a.key), .int .i64 a.kind, .int .u64 (a.num : Int), .string (txt a.text), .slice A f.len c, .int .i64 2, .slice B l.length m, .string (txt p.name), .string (txt p.key), .int .i64 p.kind, .int .u64 (p.num : Int), .string (txt p.text), .slice P pf.len pc, .string (txt o.name), .string (txt o.key), .int .i64 o.kind, .int .u64 (o.num : Int), .string (txt o.text), .slice O og.len oc]] W (Ans9 (.int .i64 (30)) W)) := fun W hW => hHd (by have h := pold_any a p o f pf og A P O B c pc oc m 2 l W (hx.below hW) (hv.below hW) (ho.below hW) hf hog hl; rw [hold] at h; exact h)
 clear hx hv hp ho hf hpf hog hl hr hn hold
 go_enter Try.func29, Try.ntmps29
 have q19 := (HX0.out.cell 19).trans rfl
 have q18 := (HX0.out.cell 18).trans rfl
 have q17 := (HX0.out.cell 17).trans rfl
 have q16 := (HX0.out.cell 16).trans rfl
 have q15 := (HX0.out.cell 15).trans rfl
 have q14 := (HX0.out.cell 14).trans rfl
 go_wp2_with (first | (refine wpList_load_row rfl 51 (.tmp 1) rfl w.heap.size (by rfl) 51 _ (0, 0) _ HX0.out Try.underlying51 rfl (by kernel_rfl) ?_) | (refine wpList_load_row_on (by rfl) 51 (.tmp 1) rfl w.heap.size (by rfl) 51 _ (0, 0) _ HX0.out Try.underlying51 rfl (by kernel_rfl) ?_))
 refine (HN _ HB0.out).out.mono ?_
 rintro r w1 ⟨rfl, hb⟩
 have HX1 := hHd (HX0.out.below hb HX0.out.lt)
 have HZ1 := hHd (HZ0.out.below hb HZ0.out.lt)
 have HB1 := hHd (HB0.out.trans (hb.mono HB0.out.size))
 clear hb
 clear q14 q15 q16 q17 q18 q19
 go_wp2_with (first | (refine wpList_load_row rfl 51 (.tmp 1) rfl w.heap.size (by rfl) 51 _ (0, 0) _ HX1.out Try.underlying51 rfl (by kernel_rfl) ?_) | (refine wpList_load_row_on (by rfl) 51 (.tmp 1) rfl w.heap.size (by rfl) 51 _ (0, 0) _ HX1.out Try.underlying51 rfl (by kernel_rfl) ?_))
 refine (HO _ HB1.out).out.mono ?_
 rintro r w2 ⟨rfl, hb⟩
 have HX2 := hHd (HX1.out.below hb HX1.out.lt)
 have HZ2 := hHd (HZ1.out.below hb HZ1.out.lt)
 have HB2 := hHd (HB1.out.trans (hb.mono HB1.out.size))
 clear hb
 have fz0 : (w2).frozen? ⟨w.heap.size + 1, 0, none⟩ = false := HZ2.out.frozen 0
 have fq0 := (HZ2.out.cell 0).trans rfl
 have fz1 : (w2).frozen? ⟨w.heap.size + 1, 1, none⟩ = false := HZ2.out.frozen 1
 have fq1 := (HZ2.out.cell 1).trans rfl
 have fz2 : (w2).frozen? ⟨w.heap.size + 1, 2, none⟩ = false := HZ2.out.frozen 2
 have fq2 := (HZ2.out.cell 2).trans rfl
 have fz3 : (w2).frozen? ⟨w.heap.size + 1, 3, none⟩ = false := HZ2.out.frozen 3
 have fq3 := (HZ2.out.cell 3).trans rfl
 have fz4 : (w2).frozen? ⟨w.heap.size + 1, 4, none⟩ = false := HZ2.out.frozen 4
 have fq4 := (HZ2.out.cell 4).trans rfl
 have fz5 : (w2).frozen? ⟨w.heap.size + 1, 5, none⟩ = false := HZ2.out.frozen 5
 have fq5 := (HZ2.out.cell 5).trans rfl
 have RZ : Hid (Blk (set6 w2 (w.heap.size + 1) (.string ⟨#[]⟩) (.string ⟨#[]⟩) (.int .i64 0) (.int .u64 0) (.string ⟨#[]⟩) (.slice none 0 0)) (w.heap.size + 1) 27 #[.string ⟨#[]⟩, .string ⟨#[]⟩, .int .i64 0, .int .u64 0, .string ⟨#[]⟩, .slice none 0 0]) := hHd (HZ2.out.set6 _ _ _ _ _ _)
 have RB : Hid (Below w.heap.size w (set6 w2 (w.heap.size + 1) (.string ⟨#[]⟩) (.string ⟨#[]⟩) (.int .i64 0) (.int .u64 0) (.string ⟨#[]⟩) (.slice none 0 0))) := hHd (HB2.out.trans (set6_below (by omega)))
 go_wp2_with fail
 refine bodyPost_ret (res_ct9 rfl _ _ (w.heap.size + 1) 27 _ (0, 0) _ rfl RZ.out Try.underlying27 rfl (by kernel_rfl)) rfl ?_
 exact ⟨_, rfl, (LieB.zero _ _).p _, RB.out⟩
theorem premove_other (a p o : NdD) (f pf og : NdF) (A P O B : Option Addr) (c pc oc m : Nat) (l : List Stp) (w : World) (hx : LieN w (ndC a (.slice A f.len c)) (a, f)) (hv : WayV w.heap.size w (.slice B l.length m) l) (hp : LieN w (ndC p (.slice P pf.len pc)) (p, pf)) (ho : LieN w (ndC o (.slice O og.len oc)) (o, og)) (hf : f.size ≤ 1000000) (hpf : pf.size ≤ 1000000) (hog : og.size ≤ 1000000) (hl : l.length ≤ 1000000) (hr : rgtX (a, f) = true) (hn : endsX l (stp o) = true) (hold : oldX (a, f) l (o, og) = 23) :
  Calls Try.prog 29 #[.agg #[.string (txt a.name), .string (txt a.key), .int .i64 a.kind, .int .u64 (a.num : Int), .string (txt a.text), .slice A f.len c, .int .i64 2, .slice B l.length m, .string (txt p.name), .string (txt p.key), .int .i64 p.kind, .int .u64 (p.num : Int), .string (txt p.text), .slice P pf.len pc, .string (txt o.name), .string (txt o.key), .int .i64 o.kind, .int .u64 (o.num : Int), .string (txt o.text), .slice O og.len oc]] w (PTreP 0 (oneX (a, f) ⟨2, l, (p, pf), (o, og)⟩).1 (.int .i64 ((oneX (a, f) ⟨2, l, (p, pf), (o, og)⟩).2 : Int)) w) := by
 have hres : oneX (a, f) ⟨2, l, (p, pf), (o, og)⟩ = (noN, 23) := by
  exact one_old23 (by simp) (endsX_yes hn).1 (by simp) (by intro _; exact (endsX_yes hn).2) hold
 rw [hres]
 clear hres
 have HB0 : Hid (Below w.heap.size w ((w.alloc (.cells #[.string (txt a.name), .string (txt a.key), .int .i64 a.kind, .int .u64 (a.num : Int), .string (txt a.text), .slice A f.len c, .int .i64 2, .slice B l.length m, .string (txt p.name), .string (txt p.key), .int .i64 p.kind, .int .u64 (p.num : Int), .string (txt p.text), .slice P pf.len pc, .string (txt o.name), .string (txt o.key), .int .i64 o.kind, .int .u64 (o.num : Int), .string (txt o.text), .slice O og.len oc] 51)).alloc (.cells #[.string ⟨#[]⟩, .string ⟨#[]⟩, .int .i64 0, .int .u64 0, .string ⟨#[]⟩, .slice none 0 0] 27))) := hHd (bAl.alloc (by simp) _)
 have HX0 : Hid (Blk ((w.alloc (.cells #[.string (txt a.name), .string (txt a.key), .int .i64 a.kind, .int .u64 (a.num : Int), .string (txt a.text), .slice A f.len c, .int .i64 2, .slice B l.length m, .string (txt p.name), .string (txt p.key), .int .i64 p.kind, .int .u64 (p.num : Int), .string (txt p.text), .slice P pf.len pc, .string (txt o.name), .string (txt o.key), .int .i64 o.kind, .int .u64 (o.num : Int), .string (txt o.text), .slice O og.len oc] 51)).alloc (.cells #[.string ⟨#[]⟩, .string ⟨#[]⟩, .int .i64 0, .int .u64 0, .string ⟨#[]⟩, .slice none 0 0] 27)) w.heap.size 51 #[.string (txt a.name), .string (txt a.key), .int .i64 a.kind, .int .u64 (a.num : Int), .string (txt a.text), .slice A f.len c, .int .i64 2, .slice B l.length m, .string (txt p.name), .string (txt p.key), .int .i64 p.kind, .int .u64 (p.num : Int), .string (txt p.text), .slice P pf.len pc, .string (txt o.name), .string (txt o.key), .int .i64 o.kind, .int .u64 (o.num : Int), .string (txt o.text), .slice O og.len oc]) := hHd ((Blk.new _ _ _).alloc _)
 have HZ0 : Hid (Blk ((w.alloc (.cells #[.string (txt a.name), .string (txt a.key), .int .i64 a.kind, .int .u64 (a.num : Int), .string (txt a.text), .slice A f.len c, .int .i64 2, .slice B l.length m, .string (txt p.name), .string (txt p.key), .int .i64 p.kind, .int .u64 (p.num : Int), .string (txt p.text), .slice P pf.len pc, .string (txt o.name), .string (txt o.key), .int .i64 o.kind, .int .u64 (o.num : Int), .string (txt o.text), .slice O og.len oc] 51)).alloc (.cells #[.string ⟨#[]⟩, .string ⟨#[]⟩, .int .i64 0, .int .u64 0, .string ⟨#[]⟩, .slice none 0 0] 27)) (w.heap.size + 1) 27 #[.string ⟨#[]⟩, .string ⟨#[]⟩, .int .i64 0, .int .u64 0, .string ⟨#[]⟩, .slice none 0 0]) := hHd (Blk.new_atP (by simp) _ _)
 have HN : ∀ W, Below w.heap.size w W → Hid (Calls Try.prog 38 #[.agg #[.string (txt a.name), .string (txt a.key), .int .i64 a.kind, .int .u64 (a.num : Int), .string (txt a.text), .slice A f.len c, .int .i64 2, .slice B l.length m, .string (txt p.name), .string (txt p.key), .int .i64 p.kind, .int .u64 (p.num : Int), .string (txt p.text), .slice P pf.len pc, .string (txt o.name), .string (txt o.key), .int .i64 o.kind, .int .u64 (o.num : Int), .string (txt o.text), .slice O og.len oc], .agg (cN o (.slice O og.len oc))] W (Ans9 (.bool true) W)) := fun W hW => hHd (by have h := pfor_any a p o o f pf og A P O B c pc oc m 2 l (.slice O og.len oc) W (hv.below hW) hl; rw [hn] at h; exact h)
 have HO : ∀ W, Below w.heap.size w W → Hid (Calls Try.prog 40 #[.agg #[.string (txt a.name), .string (txt a.key), .int .i64 a.kind, .int .u64 (a.num : Int), .string (txt a.text), .slice A f.len c, .int .i64 2, .slice B l.length m, .string (txt p.name), .string (txt p.key), .int .i64 p.kind, .int .u64 (p.num : Int), .string (txt p.text), .slice P pf.len pc, .string (txt o.name), .string (txt o.key), .int .i64 o.kind, .int .u64 (o.num : Int), .string (txt o.text), .slice O og.len oc]] W (Ans9 (.int .i64 (23)) W)) := fun W hW => hHd (by have h := pold_any a p o f pf og A P O B c pc oc m 2 l W (hx.below hW) (hv.below hW) (ho.below hW) hf hog hl; rw [hold] at h; exact h)
 clear hx hv hp ho hf hpf hog hl hr hn hold
 go_enter Try.func29, Try.ntmps29
 have q19 := (HX0.out.cell 19).trans rfl
 have q18 := (HX0.out.cell 18).trans rfl
 have q17 := (HX0.out.cell 17).trans rfl
 have q16 := (HX0.out.cell 16).trans rfl
 have q15 := (HX0.out.cell 15).trans rfl
 have q14 := (HX0.out.cell 14).trans rfl
 go_wp2_with (first | (refine wpList_load_row rfl 51 (.tmp 1) rfl w.heap.size (by rfl) 51 _ (0, 0) _ HX0.out Try.underlying51 rfl (by kernel_rfl) ?_) | (refine wpList_load_row_on (by rfl) 51 (.tmp 1) rfl w.heap.size (by rfl) 51 _ (0, 0) _ HX0.out Try.underlying51 rfl (by kernel_rfl) ?_))
 refine (HN _ HB0.out).out.mono ?_
 rintro r w1 ⟨rfl, hb⟩
 have HX1 := hHd (HX0.out.below hb HX0.out.lt)
 have HZ1 := hHd (HZ0.out.below hb HZ0.out.lt)
 have HB1 := hHd (HB0.out.trans (hb.mono HB0.out.size))
 clear hb
 clear q14 q15 q16 q17 q18 q19
 go_wp2_with (first | (refine wpList_load_row rfl 51 (.tmp 1) rfl w.heap.size (by rfl) 51 _ (0, 0) _ HX1.out Try.underlying51 rfl (by kernel_rfl) ?_) | (refine wpList_load_row_on (by rfl) 51 (.tmp 1) rfl w.heap.size (by rfl) 51 _ (0, 0) _ HX1.out Try.underlying51 rfl (by kernel_rfl) ?_))
 refine (HO _ HB1.out).out.mono ?_
 rintro r w2 ⟨rfl, hb⟩
 have HX2 := hHd (HX1.out.below hb HX1.out.lt)
 have HZ2 := hHd (HZ1.out.below hb HZ1.out.lt)
 have HB2 := hHd (HB1.out.trans (hb.mono HB1.out.size))
 clear hb
 have fz0 : (w2).frozen? ⟨w.heap.size + 1, 0, none⟩ = false := HZ2.out.frozen 0
 have fq0 := (HZ2.out.cell 0).trans rfl
 have fz1 : (w2).frozen? ⟨w.heap.size + 1, 1, none⟩ = false := HZ2.out.frozen 1
 have fq1 := (HZ2.out.cell 1).trans rfl
 have fz2 : (w2).frozen? ⟨w.heap.size + 1, 2, none⟩ = false := HZ2.out.frozen 2
 have fq2 := (HZ2.out.cell 2).trans rfl
 have fz3 : (w2).frozen? ⟨w.heap.size + 1, 3, none⟩ = false := HZ2.out.frozen 3
 have fq3 := (HZ2.out.cell 3).trans rfl
 have fz4 : (w2).frozen? ⟨w.heap.size + 1, 4, none⟩ = false := HZ2.out.frozen 4
 have fq4 := (HZ2.out.cell 4).trans rfl
 have fz5 : (w2).frozen? ⟨w.heap.size + 1, 5, none⟩ = false := HZ2.out.frozen 5
 have fq5 := (HZ2.out.cell 5).trans rfl
 have RZ : Hid (Blk (set6 w2 (w.heap.size + 1) (.string ⟨#[]⟩) (.string ⟨#[]⟩) (.int .i64 0) (.int .u64 0) (.string ⟨#[]⟩) (.slice none 0 0)) (w.heap.size + 1) 27 #[.string ⟨#[]⟩, .string ⟨#[]⟩, .int .i64 0, .int .u64 0, .string ⟨#[]⟩, .slice none 0 0]) := hHd (HZ2.out.set6 _ _ _ _ _ _)
 have RB : Hid (Below w.heap.size w (set6 w2 (w.heap.size + 1) (.string ⟨#[]⟩) (.string ⟨#[]⟩) (.int .i64 0) (.int .u64 0) (.string ⟨#[]⟩) (.slice none 0 0))) := hHd (HB2.out.trans (set6_below (by omega)))
 go_wp2_with fail
 refine bodyPost_ret (res_ct9 rfl _ _ (w.heap.size + 1) 27 _ (0, 0) _ rfl RZ.out Try.underlying27 rfl (by kernel_rfl)) rfl ?_
 exact ⟨_, rfl, (LieB.zero _ _).p _, RB.out⟩
theorem premove_cut (a p o : NdD) (f pf og : NdF) (A P O B : Option Addr) (c pc oc m : Nat) (l : List Stp) (w : World) (hx : LieN w (ndC a (.slice A f.len c)) (a, f)) (hv : WayV w.heap.size w (.slice B l.length m) l) (hp : LieN w (ndC p (.slice P pf.len pc)) (p, pf)) (ho : LieN w (ndC o (.slice O og.len oc)) (o, og)) (hf : f.size ≤ 1000000) (hpf : pf.size ≤ 1000000) (hog : og.size ≤ 1000000) (hl : l.length ≤ 1000000) (hr : rgtX (a, f) = true) (hn : endsX l (stp o) = true) (hold : oldX (a, f) l (o, og) = 0) :
  Calls Try.prog 29 #[.agg #[.string (txt a.name), .string (txt a.key), .int .i64 a.kind, .int .u64 (a.num : Int), .string (txt a.text), .slice A f.len c, .int .i64 2, .slice B l.length m, .string (txt p.name), .string (txt p.key), .int .i64 p.kind, .int .u64 (p.num : Int), .string (txt p.text), .slice P pf.len pc, .string (txt o.name), .string (txt o.key), .int .i64 o.kind, .int .u64 (o.num : Int), .string (txt o.text), .slice O og.len oc]] w (PTreP 0 (oneX (a, f) ⟨2, l, (p, pf), (o, og)⟩).1 (.int .i64 ((oneX (a, f) ⟨2, l, (p, pf), (o, og)⟩).2 : Int)) w) := by
 have hres : oneX (a, f) ⟨2, l, (p, pf), (o, og)⟩ = CutX (a, f) l := by
  obtain ⟨h1, h2⟩ := endsX_yes hn; obtain ⟨h3, h4⟩ := oldX_ok hold; unfold oneX; rw [if_neg (by simp [h1, h2]), if_neg (by simp), if_neg (by simp [h3]), if_neg (by simp [h4]), if_pos rfl]
 rw [hres]
 clear hres
 have HB0 : Hid (Below w.heap.size w ((w.alloc (.cells #[.string (txt a.name), .string (txt a.key), .int .i64 a.kind, .int .u64 (a.num : Int), .string (txt a.text), .slice A f.len c, .int .i64 2, .slice B l.length m, .string (txt p.name), .string (txt p.key), .int .i64 p.kind, .int .u64 (p.num : Int), .string (txt p.text), .slice P pf.len pc, .string (txt o.name), .string (txt o.key), .int .i64 o.kind, .int .u64 (o.num : Int), .string (txt o.text), .slice O og.len oc] 51)).alloc (.cells #[.string ⟨#[]⟩, .string ⟨#[]⟩, .int .i64 0, .int .u64 0, .string ⟨#[]⟩, .slice none 0 0] 27))) := hHd (bAl.alloc (by simp) _)
 have HX0 : Hid (Blk ((w.alloc (.cells #[.string (txt a.name), .string (txt a.key), .int .i64 a.kind, .int .u64 (a.num : Int), .string (txt a.text), .slice A f.len c, .int .i64 2, .slice B l.length m, .string (txt p.name), .string (txt p.key), .int .i64 p.kind, .int .u64 (p.num : Int), .string (txt p.text), .slice P pf.len pc, .string (txt o.name), .string (txt o.key), .int .i64 o.kind, .int .u64 (o.num : Int), .string (txt o.text), .slice O og.len oc] 51)).alloc (.cells #[.string ⟨#[]⟩, .string ⟨#[]⟩, .int .i64 0, .int .u64 0, .string ⟨#[]⟩, .slice none 0 0] 27)) w.heap.size 51 #[.string (txt a.name), .string (txt a.key), .int .i64 a.kind, .int .u64 (a.num : Int), .string (txt a.text), .slice A f.len c, .int .i64 2, .slice B l.length m, .string (txt p.name), .string (txt p.key), .int .i64 p.kind, .int .u64 (p.num : Int), .string (txt p.text), .slice P pf.len pc, .string (txt o.name), .string (txt o.key), .int .i64 o.kind, .int .u64 (o.num : Int), .string (txt o.text), .slice O og.len oc]) := hHd ((Blk.new _ _ _).alloc _)
 have HZ0 : Hid (Blk ((w.alloc (.cells #[.string (txt a.name), .string (txt a.key), .int .i64 a.kind, .int .u64 (a.num : Int), .string (txt a.text), .slice A f.len c, .int .i64 2, .slice B l.length m, .string (txt p.name), .string (txt p.key), .int .i64 p.kind, .int .u64 (p.num : Int), .string (txt p.text), .slice P pf.len pc, .string (txt o.name), .string (txt o.key), .int .i64 o.kind, .int .u64 (o.num : Int), .string (txt o.text), .slice O og.len oc] 51)).alloc (.cells #[.string ⟨#[]⟩, .string ⟨#[]⟩, .int .i64 0, .int .u64 0, .string ⟨#[]⟩, .slice none 0 0] 27)) (w.heap.size + 1) 27 #[.string ⟨#[]⟩, .string ⟨#[]⟩, .int .i64 0, .int .u64 0, .string ⟨#[]⟩, .slice none 0 0]) := hHd (Blk.new_atP (by simp) _ _)
 have HN : ∀ W, Below w.heap.size w W → Hid (Calls Try.prog 38 #[.agg #[.string (txt a.name), .string (txt a.key), .int .i64 a.kind, .int .u64 (a.num : Int), .string (txt a.text), .slice A f.len c, .int .i64 2, .slice B l.length m, .string (txt p.name), .string (txt p.key), .int .i64 p.kind, .int .u64 (p.num : Int), .string (txt p.text), .slice P pf.len pc, .string (txt o.name), .string (txt o.key), .int .i64 o.kind, .int .u64 (o.num : Int), .string (txt o.text), .slice O og.len oc], .agg (cN o (.slice O og.len oc))] W (Ans9 (.bool true) W)) := fun W hW => hHd (by have h := pfor_any a p o o f pf og A P O B c pc oc m 2 l (.slice O og.len oc) W (hv.below hW) hl; rw [hn] at h; exact h)
 have HO : ∀ W, Below w.heap.size w W → Hid (Calls Try.prog 40 #[.agg #[.string (txt a.name), .string (txt a.key), .int .i64 a.kind, .int .u64 (a.num : Int), .string (txt a.text), .slice A f.len c, .int .i64 2, .slice B l.length m, .string (txt p.name), .string (txt p.key), .int .i64 p.kind, .int .u64 (p.num : Int), .string (txt p.text), .slice P pf.len pc, .string (txt o.name), .string (txt o.key), .int .i64 o.kind, .int .u64 (o.num : Int), .string (txt o.text), .slice O og.len oc]] W (Ans9 (.int .i64 (0)) W)) := fun W hW => hHd (by have h := pold_any a p o f pf og A P O B c pc oc m 2 l W (hx.below hW) (hv.below hW) (ho.below hW) hf hog hl; rw [hold] at h; exact h)
 obtain ⟨⟨⟨ra, rf⟩, re⟩, hs⟩ : ∃ y, y = CutX (a, f) l := ⟨_, rfl⟩
 have HT : ∀ W, Below w.heap.size w W → Hid (Calls Try.prog 41 #[.agg (cN a (.slice A f.len c)), .slice B l.length m] W (TreP (ra, rf) (.int .i64 (re : Int)) W)) := fun W hW => hHd (by have h := cutT W (a, f) l _ _ W (hx.below hW) (hv.below hW) hf hr hl (Below.refl _ _); rw [← hs] at h; exact h)
 rw [← hs]
 clear hs
 clear hx hv hp ho hf hpf hog hl hr hn hold
 go_enter Try.func29, Try.ntmps29
 have q19 := (HX0.out.cell 19).trans rfl
 have q18 := (HX0.out.cell 18).trans rfl
 have q17 := (HX0.out.cell 17).trans rfl
 have q16 := (HX0.out.cell 16).trans rfl
 have q15 := (HX0.out.cell 15).trans rfl
 have q14 := (HX0.out.cell 14).trans rfl
 go_wp2_with (first | (refine wpList_load_row rfl 51 (.tmp 1) rfl w.heap.size (by rfl) 51 _ (0, 0) _ HX0.out Try.underlying51 rfl (by kernel_rfl) ?_) | (refine wpList_load_row_on (by rfl) 51 (.tmp 1) rfl w.heap.size (by rfl) 51 _ (0, 0) _ HX0.out Try.underlying51 rfl (by kernel_rfl) ?_))
 refine (HN _ HB0.out).out.mono ?_
 rintro r w1 ⟨rfl, hb⟩
 have HX1 := hHd (HX0.out.below hb HX0.out.lt)
 have HZ1 := hHd (HZ0.out.below hb HZ0.out.lt)
 have HB1 := hHd (HB0.out.trans (hb.mono HB0.out.size))
 clear hb
 clear q14 q15 q16 q17 q18 q19
 go_wp2_with (first | (refine wpList_load_row rfl 51 (.tmp 1) rfl w.heap.size (by rfl) 51 _ (0, 0) _ HX1.out Try.underlying51 rfl (by kernel_rfl) ?_) | (refine wpList_load_row_on (by rfl) 51 (.tmp 1) rfl w.heap.size (by rfl) 51 _ (0, 0) _ HX1.out Try.underlying51 rfl (by kernel_rfl) ?_))
 refine (HO _ HB1.out).out.mono ?_
 rintro r w2 ⟨rfl, hb⟩
 have HX2 := hHd (HX1.out.below hb HX1.out.lt)
 have HZ2 := hHd (HZ1.out.below hb HZ1.out.lt)
 have HB2 := hHd (HB1.out.trans (hb.mono HB1.out.size))
 clear hb
 have q7 := (HX2.out.cell 7).trans rfl
 have q5 := (HX2.out.cell 5).trans rfl
 have q4 := (HX2.out.cell 4).trans rfl
 have q3 := (HX2.out.cell 3).trans rfl
 have q2 := (HX2.out.cell 2).trans rfl
 have q1 := (HX2.out.cell 1).trans rfl
 have q0 := (HX2.out.cell 0).trans rfl
 go_wp2_with (first | (refine wpList_load_row rfl 51 (.tmp 1) rfl w.heap.size (by rfl) 51 _ (0, 0) _ HX2.out Try.underlying51 rfl (by kernel_rfl) ?_) | (refine wpList_load_row_on (by rfl) 51 (.tmp 1) rfl w.heap.size (by rfl) 51 _ (0, 0) _ HX2.out Try.underlying51 rfl (by kernel_rfl) ?_))
 refine (HT _ HB2.out).out.mono ?_
 rintro r w3 ⟨cs, rfl, hn, hb⟩
 obtain ⟨A9, c9, rfl, -⟩ := hn.lieP.shape
 have HL := hHd hn.lieP
 have HS0 := hHd HZ2.out.lt
 have HX3 := hHd (HX2.out.below hb HX2.out.lt)
 have HZ3 := hHd (HZ2.out.below hb HZ2.out.lt)
 have HB3 := hHd (HB2.out.trans (hb.mono HB2.out.size))
 clear hb hn
 clear q0 q1 q2 q3 q4 q5 q7
 have fz0 : (w3).frozen? ⟨w.heap.size + 1, 0, none⟩ = false := HZ3.out.frozen 0
 have fq0 := (HZ3.out.cell 0).trans rfl
 have fz1 : (w3).frozen? ⟨w.heap.size + 1, 1, none⟩ = false := HZ3.out.frozen 1
 have fq1 := (HZ3.out.cell 1).trans rfl
 have fz2 : (w3).frozen? ⟨w.heap.size + 1, 2, none⟩ = false := HZ3.out.frozen 2
 have fq2 := (HZ3.out.cell 2).trans rfl
 have fz3 : (w3).frozen? ⟨w.heap.size + 1, 3, none⟩ = false := HZ3.out.frozen 3
 have fq3 := (HZ3.out.cell 3).trans rfl
 have fz4 : (w3).frozen? ⟨w.heap.size + 1, 4, none⟩ = false := HZ3.out.frozen 4
 have fq4 := (HZ3.out.cell 4).trans rfl
 have fz5 : (w3).frozen? ⟨w.heap.size + 1, 5, none⟩ = false := HZ3.out.frozen 5
 have fq5 := (HZ3.out.cell 5).trans rfl
 have RZ : Hid (Blk (set6 w3 (w.heap.size + 1) (.string (txt ra.name)) (.string (txt ra.key)) (.int .i64 ra.kind) (.int .u64 (ra.num : Int)) (.string (txt ra.text)) (.slice A9 rf.len c9)) (w.heap.size + 1) 27 (cN ra (.slice A9 rf.len c9))) := hHd (HZ3.out.set6 _ _ _ _ _ _)
 have RB : Hid (Below w.heap.size w (set6 w3 (w.heap.size + 1) (.string (txt ra.name)) (.string (txt ra.key)) (.int .i64 ra.kind) (.int .u64 (ra.num : Int)) (.string (txt ra.text)) (.slice A9 rf.len c9))) := hHd (HB3.out.trans (set6_below (by omega)))
 have RL : Hid (LieP 0 w.heap.size (set6 w3 (w.heap.size + 1) (.string (txt ra.name)) (.string (txt ra.key)) (.int .i64 ra.kind) (.int .u64 (ra.num : Int)) (.string (txt ra.text)) (.slice A9 rf.len c9)) (ndC ra (.slice A9 rf.len c9)) (ra, rf)) := hHd ((HL.out.set6 (Nat.zero_le _) HS0.out _ _ _ _ _ _).after HB2.out.size)
 go_wp2_with fail
 refine bodyPost_ret (res_ct9 rfl _ _ (w.heap.size + 1) 27 _ (0, 0) _ rfl RZ.out Try.underlying27 rfl (by kernel_rfl)) rfl ?_
 exact ⟨_, rfl, RL.out, RB.out⟩
theorem preplace_argn (a p o : NdD) (f pf og : NdF) (A P O B : Option Addr) (c pc oc m : Nat) (l : List Stp) (w : World) (hx : LieN w (ndC a (.slice A f.len c)) (a, f)) (hv : WayV w.heap.size w (.slice B l.length m) l) (hp : LieN w (ndC p (.slice P pf.len pc)) (p, pf)) (ho : LieN w (ndC o (.slice O og.len oc)) (o, og)) (hf : f.size ≤ 1000000) (hpf : pf.size ≤ 1000000) (hog : og.size ≤ 1000000) (hl : l.length ≤ 1000000) (hr : rgtX (a, f) = true) (hn : endsX l (stp p) = false) :
  Calls Try.prog 30 #[.agg #[.string (txt a.name), .string (txt a.key), .int .i64 a.kind, .int .u64 (a.num : Int), .string (txt a.text), .slice A f.len c, .int .i64 3, .slice B l.length m, .string (txt p.name), .string (txt p.key), .int .i64 p.kind, .int .u64 (p.num : Int), .string (txt p.text), .slice P pf.len pc, .string (txt o.name), .string (txt o.key), .int .i64 o.kind, .int .u64 (o.num : Int), .string (txt o.text), .slice O og.len oc]] w (PTreP 0 (oneX (a, f) ⟨3, l, (p, pf), (o, og)⟩).1 (.int .i64 ((oneX (a, f) ⟨3, l, (p, pf), (o, og)⟩).2 : Int)) w) := by
 have hres : oneX (a, f) ⟨3, l, (p, pf), (o, og)⟩ = (noN, 1) := by
  unfold oneX; rw [if_pos (by rcases endsX_no hn with h | h; exact .inr (.inl h); exact .inr (.inr (.inl ⟨by simp, h⟩)))]
 rw [hres]
 clear hres
 have HB0 : Hid (Below w.heap.size w ((w.alloc (.cells #[.string (txt a.name), .string (txt a.key), .int .i64 a.kind, .int .u64 (a.num : Int), .string (txt a.text), .slice A f.len c, .int .i64 3, .slice B l.length m, .string (txt p.name), .string (txt p.key), .int .i64 p.kind, .int .u64 (p.num : Int), .string (txt p.text), .slice P pf.len pc, .string (txt o.name), .string (txt o.key), .int .i64 o.kind, .int .u64 (o.num : Int), .string (txt o.text), .slice O og.len oc] 51)).alloc (.cells #[.string ⟨#[]⟩, .string ⟨#[]⟩, .int .i64 0, .int .u64 0, .string ⟨#[]⟩, .slice none 0 0] 27))) := hHd (bAl.alloc (by simp) _)
 have HX0 : Hid (Blk ((w.alloc (.cells #[.string (txt a.name), .string (txt a.key), .int .i64 a.kind, .int .u64 (a.num : Int), .string (txt a.text), .slice A f.len c, .int .i64 3, .slice B l.length m, .string (txt p.name), .string (txt p.key), .int .i64 p.kind, .int .u64 (p.num : Int), .string (txt p.text), .slice P pf.len pc, .string (txt o.name), .string (txt o.key), .int .i64 o.kind, .int .u64 (o.num : Int), .string (txt o.text), .slice O og.len oc] 51)).alloc (.cells #[.string ⟨#[]⟩, .string ⟨#[]⟩, .int .i64 0, .int .u64 0, .string ⟨#[]⟩, .slice none 0 0] 27)) w.heap.size 51 #[.string (txt a.name), .string (txt a.key), .int .i64 a.kind, .int .u64 (a.num : Int), .string (txt a.text), .slice A f.len c, .int .i64 3, .slice B l.length m, .string (txt p.name), .string (txt p.key), .int .i64 p.kind, .int .u64 (p.num : Int), .string (txt p.text), .slice P pf.len pc, .string (txt o.name), .string (txt o.key), .int .i64 o.kind, .int .u64 (o.num : Int), .string (txt o.text), .slice O og.len oc]) := hHd ((Blk.new _ _ _).alloc _)
 have HZ0 : Hid (Blk ((w.alloc (.cells #[.string (txt a.name), .string (txt a.key), .int .i64 a.kind, .int .u64 (a.num : Int), .string (txt a.text), .slice A f.len c, .int .i64 3, .slice B l.length m, .string (txt p.name), .string (txt p.key), .int .i64 p.kind, .int .u64 (p.num : Int), .string (txt p.text), .slice P pf.len pc, .string (txt o.name), .string (txt o.key), .int .i64 o.kind, .int .u64 (o.num : Int), .string (txt o.text), .slice O og.len oc] 51)).alloc (.cells #[.string ⟨#[]⟩, .string ⟨#[]⟩, .int .i64 0, .int .u64 0, .string ⟨#[]⟩, .slice none 0 0] 27)) (w.heap.size + 1) 27 #[.string ⟨#[]⟩, .string ⟨#[]⟩, .int .i64 0, .int .u64 0, .string ⟨#[]⟩, .slice none 0 0]) := hHd (Blk.new_atP (by simp) _ _)
 have HN : ∀ W, Below w.heap.size w W → Hid (Calls Try.prog 38 #[.agg #[.string (txt a.name), .string (txt a.key), .int .i64 a.kind, .int .u64 (a.num : Int), .string (txt a.text), .slice A f.len c, .int .i64 3, .slice B l.length m, .string (txt p.name), .string (txt p.key), .int .i64 p.kind, .int .u64 (p.num : Int), .string (txt p.text), .slice P pf.len pc, .string (txt o.name), .string (txt o.key), .int .i64 o.kind, .int .u64 (o.num : Int), .string (txt o.text), .slice O og.len oc], .agg (cN p (.slice P pf.len pc))] W (Ans9 (.bool false) W)) := fun W hW => hHd (by have h := pfor_any a p o p f pf og A P O B c pc oc m 3 l (.slice P pf.len pc) W (hv.below hW) hl; rw [hn] at h; exact h)
 clear hx hv hp ho hf hpf hog hl hr hn
 go_enter Try.func30, Try.ntmps30
 have q13 := (HX0.out.cell 13).trans rfl
 have q12 := (HX0.out.cell 12).trans rfl
 have q11 := (HX0.out.cell 11).trans rfl
 have q10 := (HX0.out.cell 10).trans rfl
 have q9 := (HX0.out.cell 9).trans rfl
 have q8 := (HX0.out.cell 8).trans rfl
 go_wp2_with (first | (refine wpList_load_row rfl 51 (.tmp 1) rfl w.heap.size (by rfl) 51 _ (0, 0) _ HX0.out Try.underlying51 rfl (by kernel_rfl) ?_) | (refine wpList_load_row_on (by rfl) 51 (.tmp 1) rfl w.heap.size (by rfl) 51 _ (0, 0) _ HX0.out Try.underlying51 rfl (by kernel_rfl) ?_))
 refine (HN _ HB0.out).out.mono ?_
 rintro r w1 ⟨rfl, hb⟩
 have HX1 := hHd (HX0.out.below hb HX0.out.lt)
 have HZ1 := hHd (HZ0.out.below hb HZ0.out.lt)
 have HB1 := hHd (HB0.out.trans (hb.mono HB0.out.size))
 clear hb
 clear q8 q9 q10 q11 q12 q13
 have fz0 : (w1).frozen? ⟨w.heap.size + 1, 0, none⟩ = false := HZ1.out.frozen 0
 have fq0 := (HZ1.out.cell 0).trans rfl
 have fz1 : (w1).frozen? ⟨w.heap.size + 1, 1, none⟩ = false := HZ1.out.frozen 1
 have fq1 := (HZ1.out.cell 1).trans rfl
 have fz2 : (w1).frozen? ⟨w.heap.size + 1, 2, none⟩ = false := HZ1.out.frozen 2
 have fq2 := (HZ1.out.cell 2).trans rfl
 have fz3 : (w1).frozen? ⟨w.heap.size + 1, 3, none⟩ = false := HZ1.out.frozen 3
 have fq3 := (HZ1.out.cell 3).trans rfl
 have fz4 : (w1).frozen? ⟨w.heap.size + 1, 4, none⟩ = false := HZ1.out.frozen 4
 have fq4 := (HZ1.out.cell 4).trans rfl
 have fz5 : (w1).frozen? ⟨w.heap.size + 1, 5, none⟩ = false := HZ1.out.frozen 5
 have fq5 := (HZ1.out.cell 5).trans rfl
 have RZ : Hid (Blk (set6 w1 (w.heap.size + 1) (.string ⟨#[]⟩) (.string ⟨#[]⟩) (.int .i64 0) (.int .u64 0) (.string ⟨#[]⟩) (.slice none 0 0)) (w.heap.size + 1) 27 #[.string ⟨#[]⟩, .string ⟨#[]⟩, .int .i64 0, .int .u64 0, .string ⟨#[]⟩, .slice none 0 0]) := hHd (HZ1.out.set6 _ _ _ _ _ _)
 have RB : Hid (Below w.heap.size w (set6 w1 (w.heap.size + 1) (.string ⟨#[]⟩) (.string ⟨#[]⟩) (.int .i64 0) (.int .u64 0) (.string ⟨#[]⟩) (.slice none 0 0))) := hHd (HB1.out.trans (set6_below (by omega)))
 go_wp2_with fail
 refine bodyPost_ret (res_ct9 rfl _ _ (w.heap.size + 1) 27 _ (0, 0) _ rfl RZ.out Try.underlying27 rfl (by kernel_rfl)) rfl ?_
 exact ⟨_, rfl, (LieB.zero _ _).p _, RB.out⟩
theorem preplace_argo (a p o : NdD) (f pf og : NdF) (A P O B : Option Addr) (c pc oc m : Nat) (l : List Stp) (w : World) (hx : LieN w (ndC a (.slice A f.len c)) (a, f)) (hv : WayV w.heap.size w (.slice B l.length m) l) (hp : LieN w (ndC p (.slice P pf.len pc)) (p, pf)) (ho : LieN w (ndC o (.slice O og.len oc)) (o, og)) (hf : f.size ≤ 1000000) (hpf : pf.size ≤ 1000000) (hog : og.size ≤ 1000000) (hl : l.length ≤ 1000000) (hr : rgtX (a, f) = true) (hn : endsX l (stp p) = true) (hno : endsX l (stp o) = false) :
  Calls Try.prog 30 #[.agg #[.string (txt a.name), .string (txt a.key), .int .i64 a.kind, .int .u64 (a.num : Int), .string (txt a.text), .slice A f.len c, .int .i64 3, .slice B l.length m, .string (txt p.name), .string (txt p.key), .int .i64 p.kind, .int .u64 (p.num : Int), .string (txt p.text), .slice P pf.len pc, .string (txt o.name), .string (txt o.key), .int .i64 o.kind, .int .u64 (o.num : Int), .string (txt o.text), .slice O og.len oc]] w (PTreP 0 (oneX (a, f) ⟨3, l, (p, pf), (o, og)⟩).1 (.int .i64 ((oneX (a, f) ⟨3, l, (p, pf), (o, og)⟩).2 : Int)) w) := by
 have hres : oneX (a, f) ⟨3, l, (p, pf), (o, og)⟩ = (noN, 1) := by
  unfold oneX; rw [if_pos (by rcases endsX_no hno with h | h; exact .inr (.inl h); exact .inr (.inr (.inr ⟨by simp, h⟩)))]
 rw [hres]
 clear hres
 have HB0 : Hid (Below w.heap.size w ((w.alloc (.cells #[.string (txt a.name), .string (txt a.key), .int .i64 a.kind, .int .u64 (a.num : Int), .string (txt a.text), .slice A f.len c, .int .i64 3, .slice B l.length m, .string (txt p.name), .string (txt p.key), .int .i64 p.kind, .int .u64 (p.num : Int), .string (txt p.text), .slice P pf.len pc, .string (txt o.name), .string (txt o.key), .int .i64 o.kind, .int .u64 (o.num : Int), .string (txt o.text), .slice O og.len oc] 51)).alloc (.cells #[.string ⟨#[]⟩, .string ⟨#[]⟩, .int .i64 0, .int .u64 0, .string ⟨#[]⟩, .slice none 0 0] 27))) := hHd (bAl.alloc (by simp) _)
 have HX0 : Hid (Blk ((w.alloc (.cells #[.string (txt a.name), .string (txt a.key), .int .i64 a.kind, .int .u64 (a.num : Int), .string (txt a.text), .slice A f.len c, .int .i64 3, .slice B l.length m, .string (txt p.name), .string (txt p.key), .int .i64 p.kind, .int .u64 (p.num : Int), .string (txt p.text), .slice P pf.len pc, .string (txt o.name), .string (txt o.key), .int .i64 o.kind, .int .u64 (o.num : Int), .string (txt o.text), .slice O og.len oc] 51)).alloc (.cells #[.string ⟨#[]⟩, .string ⟨#[]⟩, .int .i64 0, .int .u64 0, .string ⟨#[]⟩, .slice none 0 0] 27)) w.heap.size 51 #[.string (txt a.name), .string (txt a.key), .int .i64 a.kind, .int .u64 (a.num : Int), .string (txt a.text), .slice A f.len c, .int .i64 3, .slice B l.length m, .string (txt p.name), .string (txt p.key), .int .i64 p.kind, .int .u64 (p.num : Int), .string (txt p.text), .slice P pf.len pc, .string (txt o.name), .string (txt o.key), .int .i64 o.kind, .int .u64 (o.num : Int), .string (txt o.text), .slice O og.len oc]) := hHd ((Blk.new _ _ _).alloc _)
 have HZ0 : Hid (Blk ((w.alloc (.cells #[.string (txt a.name), .string (txt a.key), .int .i64 a.kind, .int .u64 (a.num : Int), .string (txt a.text), .slice A f.len c, .int .i64 3, .slice B l.length m, .string (txt p.name), .string (txt p.key), .int .i64 p.kind, .int .u64 (p.num : Int), .string (txt p.text), .slice P pf.len pc, .string (txt o.name), .string (txt o.key), .int .i64 o.kind, .int .u64 (o.num : Int), .string (txt o.text), .slice O og.len oc] 51)).alloc (.cells #[.string ⟨#[]⟩, .string ⟨#[]⟩, .int .i64 0, .int .u64 0, .string ⟨#[]⟩, .slice none 0 0] 27)) (w.heap.size + 1) 27 #[.string ⟨#[]⟩, .string ⟨#[]⟩, .int .i64 0, .int .u64 0, .string ⟨#[]⟩, .slice none 0 0]) := hHd (Blk.new_atP (by simp) _ _)
 have HN : ∀ W, Below w.heap.size w W → Hid (Calls Try.prog 38 #[.agg #[.string (txt a.name), .string (txt a.key), .int .i64 a.kind, .int .u64 (a.num : Int), .string (txt a.text), .slice A f.len c, .int .i64 3, .slice B l.length m, .string (txt p.name), .string (txt p.key), .int .i64 p.kind, .int .u64 (p.num : Int), .string (txt p.text), .slice P pf.len pc, .string (txt o.name), .string (txt o.key), .int .i64 o.kind, .int .u64 (o.num : Int), .string (txt o.text), .slice O og.len oc], .agg (cN p (.slice P pf.len pc))] W (Ans9 (.bool true) W)) := fun W hW => hHd (by have h := pfor_any a p o p f pf og A P O B c pc oc m 3 l (.slice P pf.len pc) W (hv.below hW) hl; rw [hn] at h; exact h)
 have HM : ∀ W, Below w.heap.size w W → Hid (Calls Try.prog 38 #[.agg #[.string (txt a.name), .string (txt a.key), .int .i64 a.kind, .int .u64 (a.num : Int), .string (txt a.text), .slice A f.len c, .int .i64 3, .slice B l.length m, .string (txt p.name), .string (txt p.key), .int .i64 p.kind, .int .u64 (p.num : Int), .string (txt p.text), .slice P pf.len pc, .string (txt o.name), .string (txt o.key), .int .i64 o.kind, .int .u64 (o.num : Int), .string (txt o.text), .slice O og.len oc], .agg (cN o (.slice O og.len oc))] W (Ans9 (.bool false) W)) := fun W hW => hHd (by have h := pfor_any a p o o f pf og A P O B c pc oc m 3 l (.slice O og.len oc) W (hv.below hW) hl; rw [hno] at h; exact h)
 clear hx hv hp ho hf hpf hog hl hr hn hno
 go_enter Try.func30, Try.ntmps30
 have q13 := (HX0.out.cell 13).trans rfl
 have q12 := (HX0.out.cell 12).trans rfl
 have q11 := (HX0.out.cell 11).trans rfl
 have q10 := (HX0.out.cell 10).trans rfl
 have q9 := (HX0.out.cell 9).trans rfl
 have q8 := (HX0.out.cell 8).trans rfl
 go_wp2_with (first | (refine wpList_load_row rfl 51 (.tmp 1) rfl w.heap.size (by rfl) 51 _ (0, 0) _ HX0.out Try.underlying51 rfl (by kernel_rfl) ?_) | (refine wpList_load_row_on (by rfl) 51 (.tmp 1) rfl w.heap.size (by rfl) 51 _ (0, 0) _ HX0.out Try.underlying51 rfl (by kernel_rfl) ?_))
 refine (HN _ HB0.out).out.mono ?_
 rintro r w1 ⟨rfl, hb⟩
 have HX1 := hHd (HX0.out.below hb HX0.out.lt)
 have HZ1 := hHd (HZ0.out.below hb HZ0.out.lt)
 have HB1 := hHd (HB0.out.trans (hb.mono HB0.out.size))
 clear hb
 clear q8 q9 q10 q11 q12 q13
 have q19 := (HX1.out.cell 19).trans rfl
 have q18 := (HX1.out.cell 18).trans rfl
 have q17 := (HX1.out.cell 17).trans rfl
 have q16 := (HX1.out.cell 16).trans rfl
 have q15 := (HX1.out.cell 15).trans rfl
 have q14 := (HX1.out.cell 14).trans rfl
 go_wp2_with (first | (refine wpList_load_row rfl 51 (.tmp 1) rfl w.heap.size (by rfl) 51 _ (0, 0) _ HX1.out Try.underlying51 rfl (by kernel_rfl) ?_) | (refine wpList_load_row_on (by rfl) 51 (.tmp 1) rfl w.heap.size (by rfl) 51 _ (0, 0) _ HX1.out Try.underlying51 rfl (by kernel_rfl) ?_))
 refine (HM _ HB1.out).out.mono ?_
 rintro r w2 ⟨rfl, hb⟩
 have HX2 := hHd (HX1.out.below hb HX1.out.lt)
 have HZ2 := hHd (HZ1.out.below hb HZ1.out.lt)
 have HB2 := hHd (HB1.out.trans (hb.mono HB1.out.size))
 clear hb
 clear q14 q15 q16 q17 q18 q19
 have fz0 : (w2).frozen? ⟨w.heap.size + 1, 0, none⟩ = false := HZ2.out.frozen 0
 have fq0 := (HZ2.out.cell 0).trans rfl
 have fz1 : (w2).frozen? ⟨w.heap.size + 1, 1, none⟩ = false := HZ2.out.frozen 1
 have fq1 := (HZ2.out.cell 1).trans rfl
 have fz2 : (w2).frozen? ⟨w.heap.size + 1, 2, none⟩ = false := HZ2.out.frozen 2
 have fq2 := (HZ2.out.cell 2).trans rfl
 have fz3 : (w2).frozen? ⟨w.heap.size + 1, 3, none⟩ = false := HZ2.out.frozen 3
 have fq3 := (HZ2.out.cell 3).trans rfl
 have fz4 : (w2).frozen? ⟨w.heap.size + 1, 4, none⟩ = false := HZ2.out.frozen 4
 have fq4 := (HZ2.out.cell 4).trans rfl
 have fz5 : (w2).frozen? ⟨w.heap.size + 1, 5, none⟩ = false := HZ2.out.frozen 5
 have fq5 := (HZ2.out.cell 5).trans rfl
 have RZ : Hid (Blk (set6 w2 (w.heap.size + 1) (.string ⟨#[]⟩) (.string ⟨#[]⟩) (.int .i64 0) (.int .u64 0) (.string ⟨#[]⟩) (.slice none 0 0)) (w.heap.size + 1) 27 #[.string ⟨#[]⟩, .string ⟨#[]⟩, .int .i64 0, .int .u64 0, .string ⟨#[]⟩, .slice none 0 0]) := hHd (HZ2.out.set6 _ _ _ _ _ _)
 have RB : Hid (Below w.heap.size w (set6 w2 (w.heap.size + 1) (.string ⟨#[]⟩) (.string ⟨#[]⟩) (.int .i64 0) (.int .u64 0) (.string ⟨#[]⟩) (.slice none 0 0))) := hHd (HB2.out.trans (set6_below (by omega)))
 go_wp2_with fail
 refine bodyPost_ret (res_ct9 rfl _ _ (w.heap.size + 1) 27 _ (0, 0) _ rfl RZ.out Try.underlying27 rfl (by kernel_rfl)) rfl ?_
 exact ⟨_, rfl, (LieB.zero _ _).p _, RB.out⟩
theorem preplace_none (a p o : NdD) (f pf og : NdF) (A P O B : Option Addr) (c pc oc m : Nat) (l : List Stp) (w : World) (hx : LieN w (ndC a (.slice A f.len c)) (a, f)) (hv : WayV w.heap.size w (.slice B l.length m) l) (hp : LieN w (ndC p (.slice P pf.len pc)) (p, pf)) (ho : LieN w (ndC o (.slice O og.len oc)) (o, og)) (hf : f.size ≤ 1000000) (hpf : pf.size ≤ 1000000) (hog : og.size ≤ 1000000) (hl : l.length ≤ 1000000) (hr : rgtX (a, f) = true) (hn : endsX l (stp p) = true) (hno : endsX l (stp o) = true) (hold : oldX (a, f) l (o, og) = 30) :
  Calls Try.prog 30 #[.agg #[.string (txt a.name), .string (txt a.key), .int .i64 a.kind, .int .u64 (a.num : Int), .string (txt a.text), .slice A f.len c, .int .i64 3, .slice B l.length m, .string (txt p.name), .string (txt p.key), .int .i64 p.kind, .int .u64 (p.num : Int), .string (txt p.text), .slice P pf.len pc, .string (txt o.name), .string (txt o.key), .int .i64 o.kind, .int .u64 (o.num : Int), .string (txt o.text), .slice O og.len oc]] w (PTreP 0 (oneX (a, f) ⟨3, l, (p, pf), (o, og)⟩).1 (.int .i64 ((oneX (a, f) ⟨3, l, (p, pf), (o, og)⟩).2 : Int)) w) := by
 have hres : oneX (a, f) ⟨3, l, (p, pf), (o, og)⟩ = (noN, 30) := by
  exact one_old30 (by simp) (endsX_yes hn).1 (by intro _; exact (endsX_yes hn).2) (by intro _; exact (endsX_yes hno).2) hold
 rw [hres]
 clear hres
 have HB0 : Hid (Below w.heap.size w ((w.alloc (.cells #[.string (txt a.name), .string (txt a.key), .int .i64 a.kind, .int .u64 (a.num : Int), .string (txt a.text), .slice A f.len c, .int .i64 3, .slice B l.length m, .string (txt p.name), .string (txt p.key), .int .i64 p.kind, .int .u64 (p.num : Int), .string (txt p.text), .slice P pf.len pc, .string (txt o.name), .string (txt o.key), .int .i64 o.kind, .int .u64 (o.num : Int), .string (txt o.text), .slice O og.len oc] 51)).alloc (.cells #[.string ⟨#[]⟩, .string ⟨#[]⟩, .int .i64 0, .int .u64 0, .string ⟨#[]⟩, .slice none 0 0] 27))) := hHd (bAl.alloc (by simp) _)
 have HX0 : Hid (Blk ((w.alloc (.cells #[.string (txt a.name), .string (txt a.key), .int .i64 a.kind, .int .u64 (a.num : Int), .string (txt a.text), .slice A f.len c, .int .i64 3, .slice B l.length m, .string (txt p.name), .string (txt p.key), .int .i64 p.kind, .int .u64 (p.num : Int), .string (txt p.text), .slice P pf.len pc, .string (txt o.name), .string (txt o.key), .int .i64 o.kind, .int .u64 (o.num : Int), .string (txt o.text), .slice O og.len oc] 51)).alloc (.cells #[.string ⟨#[]⟩, .string ⟨#[]⟩, .int .i64 0, .int .u64 0, .string ⟨#[]⟩, .slice none 0 0] 27)) w.heap.size 51 #[.string (txt a.name), .string (txt a.key), .int .i64 a.kind, .int .u64 (a.num : Int), .string (txt a.text), .slice A f.len c, .int .i64 3, .slice B l.length m, .string (txt p.name), .string (txt p.key), .int .i64 p.kind, .int .u64 (p.num : Int), .string (txt p.text), .slice P pf.len pc, .string (txt o.name), .string (txt o.key), .int .i64 o.kind, .int .u64 (o.num : Int), .string (txt o.text), .slice O og.len oc]) := hHd ((Blk.new _ _ _).alloc _)
 have HZ0 : Hid (Blk ((w.alloc (.cells #[.string (txt a.name), .string (txt a.key), .int .i64 a.kind, .int .u64 (a.num : Int), .string (txt a.text), .slice A f.len c, .int .i64 3, .slice B l.length m, .string (txt p.name), .string (txt p.key), .int .i64 p.kind, .int .u64 (p.num : Int), .string (txt p.text), .slice P pf.len pc, .string (txt o.name), .string (txt o.key), .int .i64 o.kind, .int .u64 (o.num : Int), .string (txt o.text), .slice O og.len oc] 51)).alloc (.cells #[.string ⟨#[]⟩, .string ⟨#[]⟩, .int .i64 0, .int .u64 0, .string ⟨#[]⟩, .slice none 0 0] 27)) (w.heap.size + 1) 27 #[.string ⟨#[]⟩, .string ⟨#[]⟩, .int .i64 0, .int .u64 0, .string ⟨#[]⟩, .slice none 0 0]) := hHd (Blk.new_atP (by simp) _ _)
 have HN : ∀ W, Below w.heap.size w W → Hid (Calls Try.prog 38 #[.agg #[.string (txt a.name), .string (txt a.key), .int .i64 a.kind, .int .u64 (a.num : Int), .string (txt a.text), .slice A f.len c, .int .i64 3, .slice B l.length m, .string (txt p.name), .string (txt p.key), .int .i64 p.kind, .int .u64 (p.num : Int), .string (txt p.text), .slice P pf.len pc, .string (txt o.name), .string (txt o.key), .int .i64 o.kind, .int .u64 (o.num : Int), .string (txt o.text), .slice O og.len oc], .agg (cN p (.slice P pf.len pc))] W (Ans9 (.bool true) W)) := fun W hW => hHd (by have h := pfor_any a p o p f pf og A P O B c pc oc m 3 l (.slice P pf.len pc) W (hv.below hW) hl; rw [hn] at h; exact h)
 have HM : ∀ W, Below w.heap.size w W → Hid (Calls Try.prog 38 #[.agg #[.string (txt a.name), .string (txt a.key), .int .i64 a.kind, .int .u64 (a.num : Int), .string (txt a.text), .slice A f.len c, .int .i64 3, .slice B l.length m, .string (txt p.name), .string (txt p.key), .int .i64 p.kind, .int .u64 (p.num : Int), .string (txt p.text), .slice P pf.len pc, .string (txt o.name), .string (txt o.key), .int .i64 o.kind, .int .u64 (o.num : Int), .string (txt o.text), .slice O og.len oc], .agg (cN o (.slice O og.len oc))] W (Ans9 (.bool true) W)) := fun W hW => hHd (by have h := pfor_any a p o o f pf og A P O B c pc oc m 3 l (.slice O og.len oc) W (hv.below hW) hl; rw [hno] at h; exact h)
 have HO : ∀ W, Below w.heap.size w W → Hid (Calls Try.prog 40 #[.agg #[.string (txt a.name), .string (txt a.key), .int .i64 a.kind, .int .u64 (a.num : Int), .string (txt a.text), .slice A f.len c, .int .i64 3, .slice B l.length m, .string (txt p.name), .string (txt p.key), .int .i64 p.kind, .int .u64 (p.num : Int), .string (txt p.text), .slice P pf.len pc, .string (txt o.name), .string (txt o.key), .int .i64 o.kind, .int .u64 (o.num : Int), .string (txt o.text), .slice O og.len oc]] W (Ans9 (.int .i64 (30)) W)) := fun W hW => hHd (by have h := pold_any a p o f pf og A P O B c pc oc m 3 l W (hx.below hW) (hv.below hW) (ho.below hW) hf hog hl; rw [hold] at h; exact h)
 clear hx hv hp ho hf hpf hog hl hr hn hno hold
 go_enter Try.func30, Try.ntmps30
 have q13 := (HX0.out.cell 13).trans rfl
 have q12 := (HX0.out.cell 12).trans rfl
 have q11 := (HX0.out.cell 11).trans rfl
 have q10 := (HX0.out.cell 10).trans rfl
 have q9 := (HX0.out.cell 9).trans rfl
 have q8 := (HX0.out.cell 8).trans rfl
 go_wp2_with (first | (refine wpList_load_row rfl 51 (.tmp 1) rfl w.heap.size (by rfl) 51 _ (0, 0) _ HX0.out Try.underlying51 rfl (by kernel_rfl) ?_) | (refine wpList_load_row_on (by rfl) 51 (.tmp 1) rfl w.heap.size (by rfl) 51 _ (0, 0) _ HX0.out Try.underlying51 rfl (by kernel_rfl) ?_))
 refine (HN _ HB0.out).out.mono ?_
 rintro r w1 ⟨rfl, hb⟩
 have HX1 := hHd (HX0.out.below hb HX0.out.lt)
 have HZ1 := hHd (HZ0.out.below hb HZ0.out.lt)
 have HB1 := hHd (HB0.out.trans (hb.mono HB0.out.size))
 clear hb
 clear q8 q9 q10 q11 q12 q13
 have q19 := (HX1.out.cell 19).trans rfl
 have q18 := (HX1.out.cell 18).trans rfl
 have q17 := (HX1.out.cell 17).trans rfl
 have q16 := (HX1.out.cell 16).trans rfl
 have q15 := (HX1.out.cell 15).trans rfl
 have q14 := (HX1.out.cell 14).trans rfl
 go_wp2_with (first | (refine wpList_load_row rfl 51 (.tmp 1) rfl w.heap.size (by rfl) 51 _ (0, 0) _ HX1.out Try.underlying51 rfl (by kernel_rfl) ?_) | (refine wpList_load_row_on (by rfl) 51 (.tmp 1) rfl w.heap.size (by rfl) 51 _ (0, 0) _ HX1.out Try.underlying51 rfl (by kernel_rfl) ?_))
 refine (HM _ HB1.out).out.mono ?_
 rintro r w2 ⟨rfl, hb⟩
 have HX2 := hHd (HX1.out.below hb HX1.out.lt)
 have HZ2 := hHd (HZ1.out.below hb HZ1.out.lt)
 have HB2 := hHd (HB1.out.trans (hb.mono HB1.out.size))
 clear hb
 clear q14 q15 q16 q17 q18 q19
 go_wp2_with (first | (refine wpList_load_row rfl 51 (.tmp 1) rfl w.heap.size (by rfl) 51 _ (0, 0) _ HX2.out Try.underlying51 rfl (by kernel_rfl) ?_) | (refine wpList_load_row_on (by rfl) 51 (.tmp 1) rfl w.heap.size (by rfl) 51 _ (0, 0) _ HX2.out Try.underlying51 rfl (by kernel_rfl) ?_))
 refine (HO _ HB2.out).out.mono ?_
 rintro r w3 ⟨rfl, hb⟩
 have HX3 := hHd (HX2.out.below hb HX2.out.lt)
 have HZ3 := hHd (HZ2.out.below hb HZ2.out.lt)
 have HB3 := hHd (HB2.out.trans (hb.mono HB2.out.size))
 clear hb
 have fz0 : (w3).frozen? ⟨w.heap.size + 1, 0, none⟩ = false := HZ3.out.frozen 0
 have fq0 := (HZ3.out.cell 0).trans rfl
 have fz1 : (w3).frozen? ⟨w.heap.size + 1, 1, none⟩ = false := HZ3.out.frozen 1
 have fq1 := (HZ3.out.cell 1).trans rfl
 have fz2 : (w3).frozen? ⟨w.heap.size + 1, 2, none⟩ = false := HZ3.out.frozen 2
 have fq2 := (HZ3.out.cell 2).trans rfl
 have fz3 : (w3).frozen? ⟨w.heap.size + 1, 3, none⟩ = false := HZ3.out.frozen 3
 have fq3 := (HZ3.out.cell 3).trans rfl
 have fz4 : (w3).frozen? ⟨w.heap.size + 1, 4, none⟩ = false := HZ3.out.frozen 4
 have fq4 := (HZ3.out.cell 4).trans rfl
 have fz5 : (w3).frozen? ⟨w.heap.size + 1, 5, none⟩ = false := HZ3.out.frozen 5
 have fq5 := (HZ3.out.cell 5).trans rfl
 have RZ : Hid (Blk (set6 w3 (w.heap.size + 1) (.string ⟨#[]⟩) (.string ⟨#[]⟩) (.int .i64 0) (.int .u64 0) (.string ⟨#[]⟩) (.slice none 0 0)) (w.heap.size + 1) 27 #[.string ⟨#[]⟩, .string ⟨#[]⟩, .int .i64 0, .int .u64 0, .string ⟨#[]⟩, .slice none 0 0]) := hHd (HZ3.out.set6 _ _ _ _ _ _)
 have RB : Hid (Below w.heap.size w (set6 w3 (w.heap.size + 1) (.string ⟨#[]⟩) (.string ⟨#[]⟩) (.int .i64 0) (.int .u64 0) (.string ⟨#[]⟩) (.slice none 0 0))) := hHd (HB3.out.trans (set6_below (by omega)))
 go_wp2_with fail
 refine bodyPost_ret (res_ct9 rfl _ _ (w.heap.size + 1) 27 _ (0, 0) _ rfl RZ.out Try.underlying27 rfl (by kernel_rfl)) rfl ?_
 exact ⟨_, rfl, (LieB.zero _ _).p _, RB.out⟩
theorem preplace_other (a p o : NdD) (f pf og : NdF) (A P O B : Option Addr) (c pc oc m : Nat) (l : List Stp) (w : World) (hx : LieN w (ndC a (.slice A f.len c)) (a, f)) (hv : WayV w.heap.size w (.slice B l.length m) l) (hp : LieN w (ndC p (.slice P pf.len pc)) (p, pf)) (ho : LieN w (ndC o (.slice O og.len oc)) (o, og)) (hf : f.size ≤ 1000000) (hpf : pf.size ≤ 1000000) (hog : og.size ≤ 1000000) (hl : l.length ≤ 1000000) (hr : rgtX (a, f) = true) (hn : endsX l (stp p) = true) (hno : endsX l (stp o) = true) (hold : oldX (a, f) l (o, og) = 23) :
  Calls Try.prog 30 #[.agg #[.string (txt a.name), .string (txt a.key), .int .i64 a.kind, .int .u64 (a.num : Int), .string (txt a.text), .slice A f.len c, .int .i64 3, .slice B l.length m, .string (txt p.name), .string (txt p.key), .int .i64 p.kind, .int .u64 (p.num : Int), .string (txt p.text), .slice P pf.len pc, .string (txt o.name), .string (txt o.key), .int .i64 o.kind, .int .u64 (o.num : Int), .string (txt o.text), .slice O og.len oc]] w (PTreP 0 (oneX (a, f) ⟨3, l, (p, pf), (o, og)⟩).1 (.int .i64 ((oneX (a, f) ⟨3, l, (p, pf), (o, og)⟩).2 : Int)) w) := by
 have hres : oneX (a, f) ⟨3, l, (p, pf), (o, og)⟩ = (noN, 23) := by
  exact one_old23 (by simp) (endsX_yes hn).1 (by intro _; exact (endsX_yes hn).2) (by intro _; exact (endsX_yes hno).2) hold
 rw [hres]
 clear hres
 have HB0 : Hid (Below w.heap.size w ((w.alloc (.cells #[.string (txt a.name), .string (txt a.key), .int .i64 a.kind, .int .u64 (a.num : Int), .string (txt a.text), .slice A f.len c, .int .i64 3, .slice B l.length m, .string (txt p.name), .string (txt p.key), .int .i64 p.kind, .int .u64 (p.num : Int), .string (txt p.text), .slice P pf.len pc, .string (txt o.name), .string (txt o.key), .int .i64 o.kind, .int .u64 (o.num : Int), .string (txt o.text), .slice O og.len oc] 51)).alloc (.cells #[.string ⟨#[]⟩, .string ⟨#[]⟩, .int .i64 0, .int .u64 0, .string ⟨#[]⟩, .slice none 0 0] 27))) := hHd (bAl.alloc (by simp) _)
 have HX0 : Hid (Blk ((w.alloc (.cells #[.string (txt a.name), .string (txt a.key), .int .i64 a.kind, .int .u64 (a.num : Int), .string (txt a.text), .slice A f.len c, .int .i64 3, .slice B l.length m, .string (txt p.name), .string (txt p.key), .int .i64 p.kind, .int .u64 (p.num : Int), .string (txt p.text), .slice P pf.len pc, .string (txt o.name), .string (txt o.key), .int .i64 o.kind, .int .u64 (o.num : Int), .string (txt o.text), .slice O og.len oc] 51)).alloc (.cells #[.string ⟨#[]⟩, .string ⟨#[]⟩, .int .i64 0, .int .u64 0, .string ⟨#[]⟩, .slice none 0 0] 27)) w.heap.size 51 #[.string (txt a.name), .string (txt a.key), .int .i64 a.kind, .int .u64 (a.num : Int), .string (txt a.text), .slice A f.len c, .int .i64 3, .slice B l.length m, .string (txt p.name), .string (txt p.key), .int .i64 p.kind, .int .u64 (p.num : Int), .string (txt p.text), .slice P pf.len pc, .string (txt o.name), .string (txt o.key), .int .i64 o.kind, .int .u64 (o.num : Int), .string (txt o.text), .slice O og.len oc]) := hHd ((Blk.new _ _ _).alloc _)
 have HZ0 : Hid (Blk ((w.alloc (.cells #[.string (txt a.name), .string (txt a.key), .int .i64 a.kind, .int .u64 (a.num : Int), .string (txt a.text), .slice A f.len c, .int .i64 3, .slice B l.length m, .string (txt p.name), .string (txt p.key), .int .i64 p.kind, .int .u64 (p.num : Int), .string (txt p.text), .slice P pf.len pc, .string (txt o.name), .string (txt o.key), .int .i64 o.kind, .int .u64 (o.num : Int), .string (txt o.text), .slice O og.len oc] 51)).alloc (.cells #[.string ⟨#[]⟩, .string ⟨#[]⟩, .int .i64 0, .int .u64 0, .string ⟨#[]⟩, .slice none 0 0] 27)) (w.heap.size + 1) 27 #[.string ⟨#[]⟩, .string ⟨#[]⟩, .int .i64 0, .int .u64 0, .string ⟨#[]⟩, .slice none 0 0]) := hHd (Blk.new_atP (by simp) _ _)
 have HN : ∀ W, Below w.heap.size w W → Hid (Calls Try.prog 38 #[.agg #[.string (txt a.name), .string (txt a.key), .int .i64 a.kind, .int .u64 (a.num : Int), .string (txt a.text), .slice A f.len c, .int .i64 3, .slice B l.length m, .string (txt p.name), .string (txt p.key), .int .i64 p.kind, .int .u64 (p.num : Int), .string (txt p.text), .slice P pf.len pc, .string (txt o.name), .string (txt o.key), .int .i64 o.kind, .int .u64 (o.num : Int), .string (txt o.text), .slice O og.len oc], .agg (cN p (.slice P pf.len pc))] W (Ans9 (.bool true) W)) := fun W hW => hHd (by have h := pfor_any a p o p f pf og A P O B c pc oc m 3 l (.slice P pf.len pc) W (hv.below hW) hl; rw [hn] at h; exact h)
 have HM : ∀ W, Below w.heap.size w W → Hid (Calls Try.prog 38 #[.agg #[.string (txt a.name), .string (txt a.key), .int .i64 a.kind, .int .u64 (a.num : Int), .string (txt a.text), .slice A f.len c, .int .i64 3, .slice B l.length m, .string (txt p.name), .string (txt p.key), .int .i64 p.kind, .int .u64 (p.num : Int), .string (txt p.text), .slice P pf.len pc, .string (txt o.name), .string (txt o.key), .int .i64 o.kind, .int .u64 (o.num : Int), .string (txt o.text), .slice O og.len oc], .agg (cN o (.slice O og.len oc))] W (Ans9 (.bool true) W)) := fun W hW => hHd (by have h := pfor_any a p o o f pf og A P O B c pc oc m 3 l (.slice O og.len oc) W (hv.below hW) hl; rw [hno] at h; exact h)
 have HO : ∀ W, Below w.heap.size w W → Hid (Calls Try.prog 40 #[.agg #[.string (txt a.name), .string (txt a.key), .int .i64 a.kind, .int .u64 (a.num : Int), .string (txt a.text), .slice A f.len c, .int .i64 3, .slice B l.length m, .string (txt p.name), .string (txt p.key), .int .i64 p.kind, .int .u64 (p.num : Int), .string (txt p.text), .slice P pf.len pc, .string (txt o.name), .string (txt o.key), .int .i64 o.kind, .int .u64 (o.num : Int), .string (txt o.text), .slice O og.len oc]] W (Ans9 (.int .i64 (23)) W)) := fun W hW => hHd (by have h := pold_any a p o f pf og A P O B c pc oc m 3 l W (hx.below hW) (hv.below hW) (ho.below hW) hf hog hl; rw [hold] at h; exact h)
 clear hx hv hp ho hf hpf hog hl hr hn hno hold
 go_enter Try.func30, Try.ntmps30
 have q13 := (HX0.out.cell 13).trans rfl
 have q12 := (HX0.out.cell 12).trans rfl
 have q11 := (HX0.out.cell 11).trans rfl
 have q10 := (HX0.out.cell 10).trans rfl
 have q9 := (HX0.out.cell 9).trans rfl
 have q8 := (HX0.out.cell 8).trans rfl
 go_wp2_with (first | (refine wpList_load_row rfl 51 (.tmp 1) rfl w.heap.size (by rfl) 51 _ (0, 0) _ HX0.out Try.underlying51 rfl (by kernel_rfl) ?_) | (refine wpList_load_row_on (by rfl) 51 (.tmp 1) rfl w.heap.size (by rfl) 51 _ (0, 0) _ HX0.out Try.underlying51 rfl (by kernel_rfl) ?_))
 refine (HN _ HB0.out).out.mono ?_
 rintro r w1 ⟨rfl, hb⟩
 have HX1 := hHd (HX0.out.below hb HX0.out.lt)
 have HZ1 := hHd (HZ0.out.below hb HZ0.out.lt)
 have HB1 := hHd (HB0.out.trans (hb.mono HB0.out.size))
 clear hb
 clear q8 q9 q10 q11 q12 q13
 have q19 := (HX1.out.cell 19).trans rfl
 have q18 := (HX1.out.cell 18).trans rfl
 have q17 := (HX1.out.cell 17).trans rfl
 have q16 := (HX1.out.cell 16).trans rfl
 have q15 := (HX1.out.cell 15).trans rfl
 have q14 := (HX1.out.cell 14).trans rfl
 go_wp2_with (first | (refine wpList_load_row rfl 51 (.tmp 1) rfl w.heap.size (by rfl) 51 _ (0, 0) _ HX1.out Try.underlying51 rfl (by kernel_rfl) ?_) | (refine wpList_load_row_on (by rfl) 51 (.tmp 1) rfl w.heap.size (by rfl) 51 _ (0, 0) _ HX1.out Try.underlying51 rfl (by kernel_rfl) ?_))
 refine (HM _ HB1.out).out.mono ?_
 rintro r w2 ⟨rfl, hb⟩
 have HX2 := hHd (HX1.out.below hb HX1.out.lt)
 have HZ2 := hHd (HZ1.out.below hb HZ1.out.lt)
 have HB2 := hHd (HB1.out.trans (hb.mono HB1.out.size))
 clear hb
 clear q14 q15 q16 q17 q18 q19
 go_wp2_with (first | (refine wpList_load_row rfl 51 (.tmp 1) rfl w.heap.size (by rfl) 51 _ (0, 0) _ HX2.out Try.underlying51 rfl (by kernel_rfl) ?_) | (refine wpList_load_row_on (by rfl) 51 (.tmp 1) rfl w.heap.size (by rfl) 51 _ (0, 0) _ HX2.out Try.underlying51 rfl (by kernel_rfl) ?_))
 refine (HO _ HB2.out).out.mono ?_
 rintro r w3 ⟨rfl, hb⟩
 have HX3 := hHd (HX2.out.below hb HX2.out.lt)
 have HZ3 := hHd (HZ2.out.below hb HZ2.out.lt)
 have HB3 := hHd (HB2.out.trans (hb.mono HB2.out.size))
 clear hb
 have fz0 : (w3).frozen? ⟨w.heap.size + 1, 0, none⟩ = false := HZ3.out.frozen 0
 have fq0 := (HZ3.out.cell 0).trans rfl
 have fz1 : (w3).frozen? ⟨w.heap.size + 1, 1, none⟩ = false := HZ3.out.frozen 1
 have fq1 := (HZ3.out.cell 1).trans rfl
 have fz2 : (w3).frozen? ⟨w.heap.size + 1, 2, none⟩ = false := HZ3.out.frozen 2
 have fq2 := (HZ3.out.cell 2).trans rfl
 have fz3 : (w3).frozen? ⟨w.heap.size + 1, 3, none⟩ = false := HZ3.out.frozen 3
 have fq3 := (HZ3.out.cell 3).trans rfl
 have fz4 : (w3).frozen? ⟨w.heap.size + 1, 4, none⟩ = false := HZ3.out.frozen 4
 have fq4 := (HZ3.out.cell 4).trans rfl
 have fz5 : (w3).frozen? ⟨w.heap.size + 1, 5, none⟩ = false := HZ3.out.frozen 5
 have fq5 := (HZ3.out.cell 5).trans rfl
 have RZ : Hid (Blk (set6 w3 (w.heap.size + 1) (.string ⟨#[]⟩) (.string ⟨#[]⟩) (.int .i64 0) (.int .u64 0) (.string ⟨#[]⟩) (.slice none 0 0)) (w.heap.size + 1) 27 #[.string ⟨#[]⟩, .string ⟨#[]⟩, .int .i64 0, .int .u64 0, .string ⟨#[]⟩, .slice none 0 0]) := hHd (HZ3.out.set6 _ _ _ _ _ _)
 have RB : Hid (Below w.heap.size w (set6 w3 (w.heap.size + 1) (.string ⟨#[]⟩) (.string ⟨#[]⟩) (.int .i64 0) (.int .u64 0) (.string ⟨#[]⟩) (.slice none 0 0))) := hHd (HB3.out.trans (set6_below (by omega)))
 go_wp2_with fail
 refine bodyPost_ret (res_ct9 rfl _ _ (w.heap.size + 1) 27 _ (0, 0) _ rfl RZ.out Try.underlying27 rfl (by kernel_rfl)) rfl ?_
 exact ⟨_, rfl, (LieB.zero _ _).p _, RB.out⟩
theorem preplace_leafn (a p o : NdD) (f pf og : NdF) (A P O B : Option Addr) (c pc oc m : Nat) (l : List Stp) (w : World) (hx : LieN w (ndC a (.slice A f.len c)) (a, f)) (hv : WayV w.heap.size w (.slice B l.length m) l) (hp : LieN w (ndC p (.slice P pf.len pc)) (p, pf)) (ho : LieN w (ndC o (.slice O og.len oc)) (o, og)) (hf : f.size ≤ 1000000) (hpf : pf.size ≤ 1000000) (hog : og.size ≤ 1000000) (hl : l.length ≤ 1000000) (hr : rgtX (a, f) = true) (hn : endsX l (stp p) = true) (hno : endsX l (stp o) = true) (hold : oldX (a, f) l (o, og) = 0) (hpk : p.kind = 0) :
  Calls Try.prog 30 #[.agg #[.string (txt a.name), .string (txt a.key), .int .i64 a.kind, .int .u64 (a.num : Int), .string (txt a.text), .slice A f.len c, .int .i64 3, .slice B l.length m, .string (txt p.name), .string (txt p.key), .int .i64 p.kind, .int .u64 (p.num : Int), .string (txt p.text), .slice P pf.len pc, .string (txt o.name), .string (txt o.key), .int .i64 o.kind, .int .u64 (o.num : Int), .string (txt o.text), .slice O og.len oc]] w (PTreP 0 (oneX (a, f) ⟨3, l, (p, pf), (o, og)⟩).1 (.int .i64 ((oneX (a, f) ⟨3, l, (p, pf), (o, og)⟩).2 : Int)) w) := by
 have hres : oneX (a, f) ⟨3, l, (p, pf), (o, og)⟩ = (noN, 23) := by
  obtain ⟨h1, h2⟩ := endsX_yes hn; obtain ⟨_, h2o⟩ := endsX_yes hno; obtain ⟨h3, h4⟩ := oldX_ok hold; unfold oneX; rw [if_neg (by rintro (⟨_, _, h⟩ | h | ⟨_, h⟩ | ⟨_, h⟩); exact h rfl; exact h1 h; exact h h2; exact h h2o), if_neg (by simp), if_neg (by simp [h3]), if_pos (.inr ⟨rfl, .inl hpk⟩)]
 rw [hres]
 clear hres
 have HB0 : Hid (Below w.heap.size w ((w.alloc (.cells #[.string (txt a.name), .string (txt a.key), .int .i64 a.kind, .int .u64 (a.num : Int), .string (txt a.text), .slice A f.len c, .int .i64 3, .slice B l.length m, .string (txt p.name), .string (txt p.key), .int .i64 p.kind, .int .u64 (p.num : Int), .string (txt p.text), .slice P pf.len pc, .string (txt o.name), .string (txt o.key), .int .i64 o.kind, .int .u64 (o.num : Int), .string (txt o.text), .slice O og.len oc] 51)).alloc (.cells #[.string ⟨#[]⟩, .string ⟨#[]⟩, .int .i64 0, .int .u64 0, .string ⟨#[]⟩, .slice none 0 0] 27))) := hHd (bAl.alloc (by simp) _)
 have HX0 : Hid (Blk ((w.alloc (.cells #[.string (txt a.name), .string (txt a.key), .int .i64 a.kind, .int .u64 (a.num : Int), .string (txt a.text), .slice A f.len c, .int .i64 3, .slice B l.length m, .string (txt p.name), .string (txt p.key), .int .i64 p.kind, .int .u64 (p.num : Int), .string (txt p.text), .slice P pf.len pc, .string (txt o.name), .string (txt o.key), .int .i64 o.kind, .int .u64 (o.num : Int), .string (txt o.text), .slice O og.len oc] 51)).alloc (.cells #[.string ⟨#[]⟩, .string ⟨#[]⟩, .int .i64 0, .int .u64 0, .string ⟨#[]⟩, .slice none 0 0] 27)) w.heap.size 51 #[.string (txt a.name), .string (txt a.key), .int .i64 a.kind, .int .u64 (a.num : Int), .string (txt a.text), .slice A f.len c, .int .i64 3, .slice B l.length m, .string (txt p.name), .string (txt p.key), .int .i64 p.kind, .int .u64 (p.num : Int), .string (txt p.text), .slice P pf.len pc, .string (txt o.name), .string (txt o.key), .int .i64 o.kind, .int .u64 (o.num : Int), .string (txt o.text), .slice O og.len oc]) := hHd ((Blk.new _ _ _).alloc _)
 have HZ0 : Hid (Blk ((w.alloc (.cells #[.string (txt a.name), .string (txt a.key), .int .i64 a.kind, .int .u64 (a.num : Int), .string (txt a.text), .slice A f.len c, .int .i64 3, .slice B l.length m, .string (txt p.name), .string (txt p.key), .int .i64 p.kind, .int .u64 (p.num : Int), .string (txt p.text), .slice P pf.len pc, .string (txt o.name), .string (txt o.key), .int .i64 o.kind, .int .u64 (o.num : Int), .string (txt o.text), .slice O og.len oc] 51)).alloc (.cells #[.string ⟨#[]⟩, .string ⟨#[]⟩, .int .i64 0, .int .u64 0, .string ⟨#[]⟩, .slice none 0 0] 27)) (w.heap.size + 1) 27 #[.string ⟨#[]⟩, .string ⟨#[]⟩, .int .i64 0, .int .u64 0, .string ⟨#[]⟩, .slice none 0 0]) := hHd (Blk.new_atP (by simp) _ _)
 have HN : ∀ W, Below w.heap.size w W → Hid (Calls Try.prog 38 #[.agg #[.string (txt a.name), .string (txt a.key), .int .i64 a.kind, .int .u64 (a.num : Int), .string (txt a.text), .slice A f.len c, .int .i64 3, .slice B l.length m, .string (txt p.name), .string (txt p.key), .int .i64 p.kind, .int .u64 (p.num : Int), .string (txt p.text), .slice P pf.len pc, .string (txt o.name), .string (txt o.key), .int .i64 o.kind, .int .u64 (o.num : Int), .string (txt o.text), .slice O og.len oc], .agg (cN p (.slice P pf.len pc))] W (Ans9 (.bool true) W)) := fun W hW => hHd (by have h := pfor_any a p o p f pf og A P O B c pc oc m 3 l (.slice P pf.len pc) W (hv.below hW) hl; rw [hn] at h; exact h)
 have HM : ∀ W, Below w.heap.size w W → Hid (Calls Try.prog 38 #[.agg #[.string (txt a.name), .string (txt a.key), .int .i64 a.kind, .int .u64 (a.num : Int), .string (txt a.text), .slice A f.len c, .int .i64 3, .slice B l.length m, .string (txt p.name), .string (txt p.key), .int .i64 p.kind, .int .u64 (p.num : Int), .string (txt p.text), .slice P pf.len pc, .string (txt o.name), .string (txt o.key), .int .i64 o.kind, .int .u64 (o.num : Int), .string (txt o.text), .slice O og.len oc], .agg (cN o (.slice O og.len oc))] W (Ans9 (.bool true) W)) := fun W hW => hHd (by have h := pfor_any a p o o f pf og A P O B c pc oc m 3 l (.slice O og.len oc) W (hv.below hW) hl; rw [hno] at h; exact h)
 have HO : ∀ W, Below w.heap.size w W → Hid (Calls Try.prog 40 #[.agg #[.string (txt a.name), .string (txt a.key), .int .i64 a.kind, .int .u64 (a.num : Int), .string (txt a.text), .slice A f.len c, .int .i64 3, .slice B l.length m, .string (txt p.name), .string (txt p.key), .int .i64 p.kind, .int .u64 (p.num : Int), .string (txt p.text), .slice P pf.len pc, .string (txt o.name), .string (txt o.key), .int .i64 o.kind, .int .u64 (o.num : Int), .string (txt o.text), .slice O og.len oc]] W (Ans9 (.int .i64 (0)) W)) := fun W hW => hHd (by have h := pold_any a p o f pf og A P O B c pc oc m 3 l W (hx.below hW) (hv.below hW) (ho.below hW) hf hog hl; rw [hold] at h; exact h)
 have HP : ∀ W, Below w.heap.size w W → Hid (Calls Try.prog 42 #[.agg (cN p (.slice P pf.len pc))] W (Ans9 (.bool false) W)) := fun W _ => hHd (by have h := pleaf_any p (.slice P pf.len pc) W; rw [show decide (p.kind ≠ 0) = false by simp [hpk]] at h; exact h)
 clear hx hv hp ho hf hpf hog hl hr hn hno hold hpk
 go_enter Try.func30, Try.ntmps30
 have q13 := (HX0.out.cell 13).trans rfl
 have q12 := (HX0.out.cell 12).trans rfl
 have q11 := (HX0.out.cell 11).trans rfl
 have q10 := (HX0.out.cell 10).trans rfl
 have q9 := (HX0.out.cell 9).trans rfl
 have q8 := (HX0.out.cell 8).trans rfl
 go_wp2_with (first | (refine wpList_load_row rfl 51 (.tmp 1) rfl w.heap.size (by rfl) 51 _ (0, 0) _ HX0.out Try.underlying51 rfl (by kernel_rfl) ?_) | (refine wpList_load_row_on (by rfl) 51 (.tmp 1) rfl w.heap.size (by rfl) 51 _ (0, 0) _ HX0.out Try.underlying51 rfl (by kernel_rfl) ?_))
 refine (HN _ HB0.out).out.mono ?_
 rintro r w1 ⟨rfl, hb⟩
 have HX1 := hHd (HX0.out.below hb HX0.out.lt)
 have HZ1 := hHd (HZ0.out.below hb HZ0.out.lt)
 have HB1 := hHd (HB0.out.trans (hb.mono HB0.out.size))
 clear hb
 clear q8 q9 q10 q11 q12 q13
 have q19 := (HX1.out.cell 19).trans rfl
 have q18 := (HX1.out.cell 18).trans rfl
 have q17 := (HX1.out.cell 17).trans rfl
 have q16 := (HX1.out.cell 16).trans rfl
 have q15 := (HX1.out.cell 15).trans rfl
 have q14 := (HX1.out.cell 14).trans rfl
 go_wp2_with (first | (refine wpList_load_row rfl 51 (.tmp 1) rfl w.heap.size (by rfl) 51 _ (0, 0) _ HX1.out Try.underlying51 rfl (by kernel_rfl) ?_) | (refine wpList_load_row_on (by rfl) 51 (.tmp 1) rfl w.heap.size (by rfl) 51 _ (0, 0) _ HX1.out Try.underlying51 rfl (by kernel_rfl) ?_))
 refine (HM _ HB1.out).out.mono ?_
 rintro r w2 ⟨rfl, hb⟩
 have HX2 := hHd (HX1.out.below hb HX1.out.lt)
 have HZ2 := hHd (HZ1.out.below hb HZ1.out.lt)
 have HB2 := hHd (HB1.out.trans (hb.mono HB1.out.size))
 clear hb
 clear q14 q15 q16 q17 q18 q19
 go_wp2_with (first | (refine wpList_load_row rfl 51 (.tmp 1) rfl w.heap.size (by rfl) 51 _ (0, 0) _ HX2.out Try.underlying51 rfl (by kernel_rfl) ?_) | (refine wpList_load_row_on (by rfl) 51 (.tmp 1) rfl w.heap.size (by rfl) 51 _ (0, 0) _ HX2.out Try.underlying51 rfl (by kernel_rfl) ?_))
 refine (HO _ HB2.out).out.mono ?_
 rintro r w3 ⟨rfl, hb⟩
 have HX3 := hHd (HX2.out.below hb HX2.out.lt)
 have HZ3 := hHd (HZ2.out.below hb HZ2.out.lt)
 have HB3 := hHd (HB2.out.trans (hb.mono HB2.out.size))
 clear hb
 have q13 := (HX3.out.cell 13).trans rfl
 have q12 := (HX3.out.cell 12).trans rfl
 have q11 := (HX3.out.cell 11).trans rfl
 have q10 := (HX3.out.cell 10).trans rfl
 have q9 := (HX3.out.cell 9).trans rfl
 have q8 := (HX3.out.cell 8).trans rfl
 go_wp2_with (first | (refine wpList_load_row rfl 51 (.tmp 1) rfl w.heap.size (by rfl) 51 _ (0, 0) _ HX3.out Try.underlying51 rfl (by kernel_rfl) ?_) | (refine wpList_load_row_on (by rfl) 51 (.tmp 1) rfl w.heap.size (by rfl) 51 _ (0, 0) _ HX3.out Try.underlying51 rfl (by kernel_rfl) ?_))
 refine (HP _ HB3.out).out.mono ?_
 rintro r w4 ⟨rfl, hb⟩
 have HX4 := hHd (HX3.out.below hb HX3.out.lt)
 have HZ4 := hHd (HZ3.out.below hb HZ3.out.lt)
 have HB4 := hHd (HB3.out.trans (hb.mono HB3.out.size))
 clear hb
 clear q8 q9 q10 q11 q12 q13
 have fz0 : (w4).frozen? ⟨w.heap.size + 1, 0, none⟩ = false := HZ4.out.frozen 0
 have fq0 := (HZ4.out.cell 0).trans rfl
 have fz1 : (w4).frozen? ⟨w.heap.size + 1, 1, none⟩ = false := HZ4.out.frozen 1
 have fq1 := (HZ4.out.cell 1).trans rfl
 have fz2 : (w4).frozen? ⟨w.heap.size + 1, 2, none⟩ = false := HZ4.out.frozen 2
 have fq2 := (HZ4.out.cell 2).trans rfl
 have fz3 : (w4).frozen? ⟨w.heap.size + 1, 3, none⟩ = false := HZ4.out.frozen 3
 have fq3 := (HZ4.out.cell 3).trans rfl
 have fz4 : (w4).frozen? ⟨w.heap.size + 1, 4, none⟩ = false := HZ4.out.frozen 4
 have fq4 := (HZ4.out.cell 4).trans rfl
 have fz5 : (w4).frozen? ⟨w.heap.size + 1, 5, none⟩ = false := HZ4.out.frozen 5
 have fq5 := (HZ4.out.cell 5).trans rfl
 have RZ : Hid (Blk (set6 w4 (w.heap.size + 1) (.string ⟨#[]⟩) (.string ⟨#[]⟩) (.int .i64 0) (.int .u64 0) (.string ⟨#[]⟩) (.slice none 0 0)) (w.heap.size + 1) 27 #[.string ⟨#[]⟩, .string ⟨#[]⟩, .int .i64 0, .int .u64 0, .string ⟨#[]⟩, .slice none 0 0]) := hHd (HZ4.out.set6 _ _ _ _ _ _)
 have RB : Hid (Below w.heap.size w (set6 w4 (w.heap.size + 1) (.string ⟨#[]⟩) (.string ⟨#[]⟩) (.int .i64 0) (.int .u64 0) (.string ⟨#[]⟩) (.slice none 0 0))) := hHd (HB4.out.trans (set6_below (by omega)))
 go_wp2_with fail
 refine bodyPost_ret (res_ct9 rfl _ _ (w.heap.size + 1) 27 _ (0, 0) _ rfl RZ.out Try.underlying27 rfl (by kernel_rfl)) rfl ?_
 exact ⟨_, rfl, (LieB.zero _ _).p _, RB.out⟩
theorem preplace_leafo (a p o : NdD) (f pf og : NdF) (A P O B : Option Addr) (c pc oc m : Nat) (l : List Stp) (w : World) (hx : LieN w (ndC a (.slice A f.len c)) (a, f)) (hv : WayV w.heap.size w (.slice B l.length m) l) (hp : LieN w (ndC p (.slice P pf.len pc)) (p, pf)) (ho : LieN w (ndC o (.slice O og.len oc)) (o, og)) (hf : f.size ≤ 1000000) (hpf : pf.size ≤ 1000000) (hog : og.size ≤ 1000000) (hl : l.length ≤ 1000000) (hr : rgtX (a, f) = true) (hn : endsX l (stp p) = true) (hno : endsX l (stp o) = true) (hold : oldX (a, f) l (o, og) = 0) (hpk : p.kind ≠ 0) (hok : o.kind = 0) :
  Calls Try.prog 30 #[.agg #[.string (txt a.name), .string (txt a.key), .int .i64 a.kind, .int .u64 (a.num : Int), .string (txt a.text), .slice A f.len c, .int .i64 3, .slice B l.length m, .string (txt p.name), .string (txt p.key), .int .i64 p.kind, .int .u64 (p.num : Int), .string (txt p.text), .slice P pf.len pc, .string (txt o.name), .string (txt o.key), .int .i64 o.kind, .int .u64 (o.num : Int), .string (txt o.text), .slice O og.len oc]] w (PTreP 0 (oneX (a, f) ⟨3, l, (p, pf), (o, og)⟩).1 (.int .i64 ((oneX (a, f) ⟨3, l, (p, pf), (o, og)⟩).2 : Int)) w) := by
 have hres : oneX (a, f) ⟨3, l, (p, pf), (o, og)⟩ = (noN, 23) := by
  obtain ⟨h1, h2⟩ := endsX_yes hn; obtain ⟨_, h2o⟩ := endsX_yes hno; obtain ⟨h3, h4⟩ := oldX_ok hold; unfold oneX; rw [if_neg (by rintro (⟨_, _, h⟩ | h | ⟨_, h⟩ | ⟨_, h⟩); exact h rfl; exact h1 h; exact h h2; exact h h2o), if_neg (by simp), if_neg (by simp [h3]), if_pos (.inr ⟨rfl, .inr hok⟩)]
 rw [hres]
 clear hres
 have HB0 : Hid (Below w.heap.size w ((w.alloc (.cells #[.string (txt a.name), .string (txt a.key), .int .i64 a.kind, .int .u64 (a.num : Int), .string (txt a.text), .slice A f.len c, .int .i64 3, .slice B l.length m, .string (txt p.name), .string (txt p.key), .int .i64 p.kind, .int .u64 (p.num : Int), .string (txt p.text), .slice P pf.len pc, .string (txt o.name), .string (txt o.key), .int .i64 o.kind, .int .u64 (o.num : Int), .string (txt o.text), .slice O og.len oc] 51)).alloc (.cells #[.string ⟨#[]⟩, .string ⟨#[]⟩, .int .i64 0, .int .u64 0, .string ⟨#[]⟩, .slice none 0 0] 27))) := hHd (bAl.alloc (by simp) _)
 have HX0 : Hid (Blk ((w.alloc (.cells #[.string (txt a.name), .string (txt a.key), .int .i64 a.kind, .int .u64 (a.num : Int), .string (txt a.text), .slice A f.len c, .int .i64 3, .slice B l.length m, .string (txt p.name), .string (txt p.key), .int .i64 p.kind, .int .u64 (p.num : Int), .string (txt p.text), .slice P pf.len pc, .string (txt o.name), .string (txt o.key), .int .i64 o.kind, .int .u64 (o.num : Int), .string (txt o.text), .slice O og.len oc] 51)).alloc (.cells #[.string ⟨#[]⟩, .string ⟨#[]⟩, .int .i64 0, .int .u64 0, .string ⟨#[]⟩, .slice none 0 0] 27)) w.heap.size 51 #[.string (txt a.name), .string (txt a.key), .int .i64 a.kind, .int .u64 (a.num : Int), .string (txt a.text), .slice A f.len c, .int .i64 3, .slice B l.length m, .string (txt p.name), .string (txt p.key), .int .i64 p.kind, .int .u64 (p.num : Int), .string (txt p.text), .slice P pf.len pc, .string (txt o.name), .string (txt o.key), .int .i64 o.kind, .int .u64 (o.num : Int), .string (txt o.text), .slice O og.len oc]) := hHd ((Blk.new _ _ _).alloc _)
 have HZ0 : Hid (Blk ((w.alloc (.cells #[.string (txt a.name), .string (txt a.key), .int .i64 a.kind, .int .u64 (a.num : Int), .string (txt a.text), .slice A f.len c, .int .i64 3, .slice B l.length m, .string (txt p.name), .string (txt p.key), .int .i64 p.kind, .int .u64 (p.num : Int), .string (txt p.text), .slice P pf.len pc, .string (txt o.name), .string (txt o.key), .int .i64 o.kind, .int .u64 (o.num : Int), .string (txt o.text), .slice O og.len oc] 51)).alloc (.cells #[.string ⟨#[]⟩, .string ⟨#[]⟩, .int .i64 0, .int .u64 0, .string ⟨#[]⟩, .slice none 0 0] 27)) (w.heap.size + 1) 27 #[.string ⟨#[]⟩, .string ⟨#[]⟩, .int .i64 0, .int .u64 0, .string ⟨#[]⟩, .slice none 0 0]) := hHd (Blk.new_atP (by simp) _ _)
 have HN : ∀ W, Below w.heap.size w W → Hid (Calls Try.prog 38 #[.agg #[.string (txt a.name), .string (txt a.key), .int .i64 a.kind, .int .u64 (a.num : Int), .string (txt a.text), .slice A f.len c, .int .i64 3, .slice B l.length m, .string (txt p.name), .string (txt p.key), .int .i64 p.kind, .int .u64 (p.num : Int), .string (txt p.text), .slice P pf.len pc, .string (txt o.name), .string (txt o.key), .int .i64 o.kind, .int .u64 (o.num : Int), .string (txt o.text), .slice O og.len oc], .agg (cN p (.slice P pf.len pc))] W (Ans9 (.bool true) W)) := fun W hW => hHd (by have h := pfor_any a p o p f pf og A P O B c pc oc m 3 l (.slice P pf.len pc) W (hv.below hW) hl; rw [hn] at h; exact h)
 have HM : ∀ W, Below w.heap.size w W → Hid (Calls Try.prog 38 #[.agg #[.string (txt a.name), .string (txt a.key), .int .i64 a.kind, .int .u64 (a.num : Int), .string (txt a.text), .slice A f.len c, .int .i64 3, .slice B l.length m, .string (txt p.name), .string (txt p.key), .int .i64 p.kind, .int .u64 (p.num : Int), .string (txt p.text), .slice P pf.len pc, .string (txt o.name), .string (txt o.key), .int .i64 o.kind, .int .u64 (o.num : Int), .string (txt o.text), .slice O og.len oc], .agg (cN o (.slice O og.len oc))] W (Ans9 (.bool true) W)) := fun W hW => hHd (by have h := pfor_any a p o o f pf og A P O B c pc oc m 3 l (.slice O og.len oc) W (hv.below hW) hl; rw [hno] at h; exact h)
 have HO : ∀ W, Below w.heap.size w W → Hid (Calls Try.prog 40 #[.agg #[.string (txt a.name), .string (txt a.key), .int .i64 a.kind, .int .u64 (a.num : Int), .string (txt a.text), .slice A f.len c, .int .i64 3, .slice B l.length m, .string (txt p.name), .string (txt p.key), .int .i64 p.kind, .int .u64 (p.num : Int), .string (txt p.text), .slice P pf.len pc, .string (txt o.name), .string (txt o.key), .int .i64 o.kind, .int .u64 (o.num : Int), .string (txt o.text), .slice O og.len oc]] W (Ans9 (.int .i64 (0)) W)) := fun W hW => hHd (by have h := pold_any a p o f pf og A P O B c pc oc m 3 l W (hx.below hW) (hv.below hW) (ho.below hW) hf hog hl; rw [hold] at h; exact h)
 have HP : ∀ W, Below w.heap.size w W → Hid (Calls Try.prog 42 #[.agg (cN p (.slice P pf.len pc))] W (Ans9 (.bool true) W)) := fun W _ => hHd (by have h := pleaf_any p (.slice P pf.len pc) W; rw [show decide (p.kind ≠ 0) = true by simp [hpk]] at h; exact h)
 have HQ : ∀ W, Below w.heap.size w W → Hid (Calls Try.prog 42 #[.agg (cN o (.slice O og.len oc))] W (Ans9 (.bool false) W)) := fun W _ => hHd (by have h := pleaf_any o (.slice O og.len oc) W; rw [show decide (o.kind ≠ 0) = false by simp [hok]] at h; exact h)
 clear hx hv hp ho hf hpf hog hl hr hn hno hold hpk hok
 go_enter Try.func30, Try.ntmps30
 have q13 := (HX0.out.cell 13).trans rfl
 have q12 := (HX0.out.cell 12).trans rfl
 have q11 := (HX0.out.cell 11).trans rfl
 have q10 := (HX0.out.cell 10).trans rfl
 have q9 := (HX0.out.cell 9).trans rfl
 have q8 := (HX0.out.cell 8).trans rfl
 go_wp2_with (first | (refine wpList_load_row rfl 51 (.tmp 1) rfl w.heap.size (by rfl) 51 _ (0, 0) _ HX0.out Try.underlying51 rfl (by kernel_rfl) ?_) | (refine wpList_load_row_on (by rfl) 51 (.tmp 1) rfl w.heap.size (by rfl) 51 _ (0, 0) _ HX0.out Try.underlying51 rfl (by kernel_rfl) ?_))
 refine (HN _ HB0.out).out.mono ?_
 rintro r w1 ⟨rfl, hb⟩
 have HX1 := hHd (HX0.out.below hb HX0.out.lt)
 have HZ1 := hHd (HZ0.out.below hb HZ0.out.lt)
 have HB1 := hHd (HB0.out.trans (hb.mono HB0.out.size))
 clear hb
 clear q8 q9 q10 q11 q12 q13
 have q19 := (HX1.out.cell 19).trans rfl
 have q18 := (HX1.out.cell 18).trans rfl
 have q17 := (HX1.out.cell 17).trans rfl
 have q16 := (HX1.out.cell 16).trans rfl
 have q15 := (HX1.out.cell 15).trans rfl
 have q14 := (HX1.out.cell 14).trans rfl
 go_wp2_with (first | (refine wpList_load_row rfl 51 (.tmp 1) rfl w.heap.size (by rfl) 51 _ (0, 0) _ HX1.out Try.underlying51 rfl (by kernel_rfl) ?_) | (refine wpList_load_row_on (by rfl) 51 (.tmp 1) rfl w.heap.size (by rfl) 51 _ (0, 0) _ HX1.out Try.underlying51 rfl (by kernel_rfl) ?_))
 refine (HM _ HB1.out).out.mono ?_
 rintro r w2 ⟨rfl, hb⟩
 have HX2 := hHd (HX1.out.below hb HX1.out.lt)
 have HZ2 := hHd (HZ1.out.below hb HZ1.out.lt)
 have HB2 := hHd (HB1.out.trans (hb.mono HB1.out.size))
 clear hb
 clear q14 q15 q16 q17 q18 q19
 go_wp2_with (first | (refine wpList_load_row rfl 51 (.tmp 1) rfl w.heap.size (by rfl) 51 _ (0, 0) _ HX2.out Try.underlying51 rfl (by kernel_rfl) ?_) | (refine wpList_load_row_on (by rfl) 51 (.tmp 1) rfl w.heap.size (by rfl) 51 _ (0, 0) _ HX2.out Try.underlying51 rfl (by kernel_rfl) ?_))
 refine (HO _ HB2.out).out.mono ?_
 rintro r w3 ⟨rfl, hb⟩
 have HX3 := hHd (HX2.out.below hb HX2.out.lt)
 have HZ3 := hHd (HZ2.out.below hb HZ2.out.lt)
 have HB3 := hHd (HB2.out.trans (hb.mono HB2.out.size))
 clear hb
 have q13 := (HX3.out.cell 13).trans rfl
 have q12 := (HX3.out.cell 12).trans rfl
 have q11 := (HX3.out.cell 11).trans rfl
 have q10 := (HX3.out.cell 10).trans rfl
 have q9 := (HX3.out.cell 9).trans rfl
 have q8 := (HX3.out.cell 8).trans rfl
 go_wp2_with (first | (refine wpList_load_row rfl 51 (.tmp 1) rfl w.heap.size (by rfl) 51 _ (0, 0) _ HX3.out Try.underlying51 rfl (by kernel_rfl) ?_) | (refine wpList_load_row_on (by rfl) 51 (.tmp 1) rfl w.heap.size (by rfl) 51 _ (0, 0) _ HX3.out Try.underlying51 rfl (by kernel_rfl) ?_))
 refine (HP _ HB3.out).out.mono ?_
 rintro r w4 ⟨rfl, hb⟩
 have HX4 := hHd (HX3.out.below hb HX3.out.lt)
 have HZ4 := hHd (HZ3.out.below hb HZ3.out.lt)
 have HB4 := hHd (HB3.out.trans (hb.mono HB3.out.size))
 clear hb
 clear q8 q9 q10 q11 q12 q13
 have q19 := (HX4.out.cell 19).trans rfl
 have q18 := (HX4.out.cell 18).trans rfl
 have q17 := (HX4.out.cell 17).trans rfl
 have q16 := (HX4.out.cell 16).trans rfl
 have q15 := (HX4.out.cell 15).trans rfl
 have q14 := (HX4.out.cell 14).trans rfl
 go_wp2_with (first | (refine wpList_load_row rfl 51 (.tmp 1) rfl w.heap.size (by rfl) 51 _ (0, 0) _ HX4.out Try.underlying51 rfl (by kernel_rfl) ?_) | (refine wpList_load_row_on (by rfl) 51 (.tmp 1) rfl w.heap.size (by rfl) 51 _ (0, 0) _ HX4.out Try.underlying51 rfl (by kernel_rfl) ?_))
 refine (HQ _ HB4.out).out.mono ?_
 rintro r w5 ⟨rfl, hb⟩
 have HX5 := hHd (HX4.out.below hb HX4.out.lt)
 have HZ5 := hHd (HZ4.out.below hb HZ4.out.lt)
 have HB5 := hHd (HB4.out.trans (hb.mono HB4.out.size))
 clear hb
 clear q14 q15 q16 q17 q18 q19
 have fz0 : (w5).frozen? ⟨w.heap.size + 1, 0, none⟩ = false := HZ5.out.frozen 0
 have fq0 := (HZ5.out.cell 0).trans rfl
 have fz1 : (w5).frozen? ⟨w.heap.size + 1, 1, none⟩ = false := HZ5.out.frozen 1
 have fq1 := (HZ5.out.cell 1).trans rfl
 have fz2 : (w5).frozen? ⟨w.heap.size + 1, 2, none⟩ = false := HZ5.out.frozen 2
 have fq2 := (HZ5.out.cell 2).trans rfl
 have fz3 : (w5).frozen? ⟨w.heap.size + 1, 3, none⟩ = false := HZ5.out.frozen 3
 have fq3 := (HZ5.out.cell 3).trans rfl
 have fz4 : (w5).frozen? ⟨w.heap.size + 1, 4, none⟩ = false := HZ5.out.frozen 4
 have fq4 := (HZ5.out.cell 4).trans rfl
 have fz5 : (w5).frozen? ⟨w.heap.size + 1, 5, none⟩ = false := HZ5.out.frozen 5
 have fq5 := (HZ5.out.cell 5).trans rfl
 have RZ : Hid (Blk (set6 w5 (w.heap.size + 1) (.string ⟨#[]⟩) (.string ⟨#[]⟩) (.int .i64 0) (.int .u64 0) (.string ⟨#[]⟩) (.slice none 0 0)) (w.heap.size + 1) 27 #[.string ⟨#[]⟩, .string ⟨#[]⟩, .int .i64 0, .int .u64 0, .string ⟨#[]⟩, .slice none 0 0]) := hHd (HZ5.out.set6 _ _ _ _ _ _)
 have RB : Hid (Below w.heap.size w (set6 w5 (w.heap.size + 1) (.string ⟨#[]⟩) (.string ⟨#[]⟩) (.int .i64 0) (.int .u64 0) (.string ⟨#[]⟩) (.slice none 0 0))) := hHd (HB5.out.trans (set6_below (by omega)))
 go_wp2_with fail
 refine bodyPost_ret (res_ct9 rfl _ _ (w.heap.size + 1) 27 _ (0, 0) _ rfl RZ.out Try.underlying27 rfl (by kernel_rfl)) rfl ?_
 exact ⟨_, rfl, (LieB.zero _ _).p _, RB.out⟩
theorem preplace_set (a p o : NdD) (f pf og : NdF) (A P O B : Option Addr) (c pc oc m : Nat) (l : List Stp) (w : World) (hx : LieN w (ndC a (.slice A f.len c)) (a, f)) (hv : WayV w.heap.size w (.slice B l.length m) l) (hp : LieN w (ndC p (.slice P pf.len pc)) (p, pf)) (ho : LieN w (ndC o (.slice O og.len oc)) (o, og)) (hf : f.size ≤ 1000000) (hpf : pf.size ≤ 1000000) (hog : og.size ≤ 1000000) (hl : l.length ≤ 1000000) (hr : rgtX (a, f) = true) (hn : endsX l (stp p) = true) (hno : endsX l (stp o) = true) (hold : oldX (a, f) l (o, og) = 0) (hpk : p.kind ≠ 0) (hok : o.kind ≠ 0) :
  Calls Try.prog 30 #[.agg #[.string (txt a.name), .string (txt a.key), .int .i64 a.kind, .int .u64 (a.num : Int), .string (txt a.text), .slice A f.len c, .int .i64 3, .slice B l.length m, .string (txt p.name), .string (txt p.key), .int .i64 p.kind, .int .u64 (p.num : Int), .string (txt p.text), .slice P pf.len pc, .string (txt o.name), .string (txt o.key), .int .i64 o.kind, .int .u64 (o.num : Int), .string (txt o.text), .slice O og.len oc]] w (PTreP 0 (oneX (a, f) ⟨3, l, (p, pf), (o, og)⟩).1 (.int .i64 ((oneX (a, f) ⟨3, l, (p, pf), (o, og)⟩).2 : Int)) w) := by
 have hres : oneX (a, f) ⟨3, l, (p, pf), (o, og)⟩ = SetX (a, f) l (p, pf) := by
  obtain ⟨h1, h2⟩ := endsX_yes hn; obtain ⟨_, h2o⟩ := endsX_yes hno; obtain ⟨h3, h4⟩ := oldX_ok hold; unfold oneX; rw [if_neg (by rintro (⟨_, _, h⟩ | h | ⟨_, h⟩ | ⟨_, h⟩); exact h rfl; exact h1 h; exact h h2; exact h h2o), if_neg (by simp), if_neg (by simp [h3]), if_neg (by simp [h4, hpk, hok]), if_neg (by simp)]
 rw [hres]
 clear hres
 have HB0 : Hid (Below w.heap.size w ((w.alloc (.cells #[.string (txt a.name), .string (txt a.key), .int .i64 a.kind, .int .u64 (a.num : Int), .string (txt a.text), .slice A f.len c, .int .i64 3, .slice B l.length m, .string (txt p.name), .string (txt p.key), .int .i64 p.kind, .int .u64 (p.num : Int), .string (txt p.text), .slice P pf.len pc, .string (txt o.name), .string (txt o.key), .int .i64 o.kind, .int .u64 (o.num : Int), .string (txt o.text), .slice O og.len oc] 51)).alloc (.cells #[.string ⟨#[]⟩, .string ⟨#[]⟩, .int .i64 0, .int .u64 0, .string ⟨#[]⟩, .slice none 0 0] 27))) := hHd (bAl.alloc (by simp) _)
 have HX0 : Hid (Blk ((w.alloc (.cells #[.string (txt a.name), .string (txt a.key), .int .i64 a.kind, .int .u64 (a.num : Int), .string (txt a.text), .slice A f.len c, .int .i64 3, .slice B l.length m, .string (txt p.name), .string (txt p.key), .int .i64 p.kind, .int .u64 (p.num : Int), .string (txt p.text), .slice P pf.len pc, .string (txt o.name), .string (txt o.key), .int .i64 o.kind, .int .u64 (o.num : Int), .string (txt o.text), .slice O og.len oc] 51)).alloc (.cells #[.string ⟨#[]⟩, .string ⟨#[]⟩, .int .i64 0, .int .u64 0, .string ⟨#[]⟩, .slice none 0 0] 27)) w.heap.size 51 #[.string (txt a.name), .string (txt a.key), .int .i64 a.kind, .int .u64 (a.num : Int), .string (txt a.text), .slice A f.len c, .int .i64 3, .slice B l.length m, .string (txt p.name), .string (txt p.key), .int .i64 p.kind, .int .u64 (p.num : Int), .string (txt p.text), .slice P pf.len pc, .string (txt o.name), .string (txt o.key), .int .i64 o.kind, .int .u64 (o.num : Int), .string (txt o.text), .slice O og.len oc]) := hHd ((Blk.new _ _ _).alloc _)
 have HZ0 : Hid (Blk ((w.alloc (.cells #[.string (txt a.name), .string (txt a.key), .int .i64 a.kind, .int .u64 (a.num : Int), .string (txt a.text), .slice A f.len c, .int .i64 3, .slice B l.length m, .string (txt p.name), .string (txt p.key), .int .i64 p.kind, .int .u64 (p.num : Int), .string (txt p.text), .slice P pf.len pc, .string (txt o.name), .string (txt o.key), .int .i64 o.kind, .int .u64 (o.num : Int), .string (txt o.text), .slice O og.len oc] 51)).alloc (.cells #[.string ⟨#[]⟩, .string ⟨#[]⟩, .int .i64 0, .int .u64 0, .string ⟨#[]⟩, .slice none 0 0] 27)) (w.heap.size + 1) 27 #[.string ⟨#[]⟩, .string ⟨#[]⟩, .int .i64 0, .int .u64 0, .string ⟨#[]⟩, .slice none 0 0]) := hHd (Blk.new_atP (by simp) _ _)
 have HN : ∀ W, Below w.heap.size w W → Hid (Calls Try.prog 38 #[.agg #[.string (txt a.name), .string (txt a.key), .int .i64 a.kind, .int .u64 (a.num : Int), .string (txt a.text), .slice A f.len c, .int .i64 3, .slice B l.length m, .string (txt p.name), .string (txt p.key), .int .i64 p.kind, .int .u64 (p.num : Int), .string (txt p.text), .slice P pf.len pc, .string (txt o.name), .string (txt o.key), .int .i64 o.kind, .int .u64 (o.num : Int), .string (txt o.text), .slice O og.len oc], .agg (cN p (.slice P pf.len pc))] W (Ans9 (.bool true) W)) := fun W hW => hHd (by have h := pfor_any a p o p f pf og A P O B c pc oc m 3 l (.slice P pf.len pc) W (hv.below hW) hl; rw [hn] at h; exact h)
 have HM : ∀ W, Below w.heap.size w W → Hid (Calls Try.prog 38 #[.agg #[.string (txt a.name), .string (txt a.key), .int .i64 a.kind, .int .u64 (a.num : Int), .string (txt a.text), .slice A f.len c, .int .i64 3, .slice B l.length m, .string (txt p.name), .string (txt p.key), .int .i64 p.kind, .int .u64 (p.num : Int), .string (txt p.text), .slice P pf.len pc, .string (txt o.name), .string (txt o.key), .int .i64 o.kind, .int .u64 (o.num : Int), .string (txt o.text), .slice O og.len oc], .agg (cN o (.slice O og.len oc))] W (Ans9 (.bool true) W)) := fun W hW => hHd (by have h := pfor_any a p o o f pf og A P O B c pc oc m 3 l (.slice O og.len oc) W (hv.below hW) hl; rw [hno] at h; exact h)
 have HO : ∀ W, Below w.heap.size w W → Hid (Calls Try.prog 40 #[.agg #[.string (txt a.name), .string (txt a.key), .int .i64 a.kind, .int .u64 (a.num : Int), .string (txt a.text), .slice A f.len c, .int .i64 3, .slice B l.length m, .string (txt p.name), .string (txt p.key), .int .i64 p.kind, .int .u64 (p.num : Int), .string (txt p.text), .slice P pf.len pc, .string (txt o.name), .string (txt o.key), .int .i64 o.kind, .int .u64 (o.num : Int), .string (txt o.text), .slice O og.len oc]] W (Ans9 (.int .i64 (0)) W)) := fun W hW => hHd (by have h := pold_any a p o f pf og A P O B c pc oc m 3 l W (hx.below hW) (hv.below hW) (ho.below hW) hf hog hl; rw [hold] at h; exact h)
 have HP : ∀ W, Below w.heap.size w W → Hid (Calls Try.prog 42 #[.agg (cN p (.slice P pf.len pc))] W (Ans9 (.bool true) W)) := fun W _ => hHd (by have h := pleaf_any p (.slice P pf.len pc) W; rw [show decide (p.kind ≠ 0) = true by simp [hpk]] at h; exact h)
 have HQ : ∀ W, Below w.heap.size w W → Hid (Calls Try.prog 42 #[.agg (cN o (.slice O og.len oc))] W (Ans9 (.bool true) W)) := fun W _ => hHd (by have h := pleaf_any o (.slice O og.len oc) W; rw [show decide (o.kind ≠ 0) = true by simp [hok]] at h; exact h)
 obtain ⟨⟨⟨ra, rf⟩, re⟩, hs⟩ : ∃ y, y = SetX (a, f) l (p, pf) := ⟨_, rfl⟩
 have HT : ∀ W, Below w.heap.size w W → Hid (Calls Try.prog 39 #[.agg (cN a (.slice A f.len c)), .slice B l.length m, .agg (cN p (.slice P pf.len pc))] W (TreP (ra, rf) (.int .i64 (re : Int)) W)) := fun W hW => hHd (by have h := setT W (a, f) (p, pf) l _ _ _ W (hx.below hW) (hp.below hW) (hv.below hW) hf hpf hr hl (Below.refl _ _); rw [← hs] at h; exact h)
 rw [← hs]
 clear hs
 clear hx hv hp ho hf hpf hog hl hr hn hno hold hpk hok
 go_enter Try.func30, Try.ntmps30
 have q13 := (HX0.out.cell 13).trans rfl
 have q12 := (HX0.out.cell 12).trans rfl
 have q11 := (HX0.out.cell 11).trans rfl
 have q10 := (HX0.out.cell 10).trans rfl
 have q9 := (HX0.out.cell 9).trans rfl
 have q8 := (HX0.out.cell 8).trans rfl
 go_wp2_with (first | (refine wpList_load_row rfl 51 (.tmp 1) rfl w.heap.size (by rfl) 51 _ (0, 0) _ HX0.out Try.underlying51 rfl (by kernel_rfl) ?_) | (refine wpList_load_row_on (by rfl) 51 (.tmp 1) rfl w.heap.size (by rfl) 51 _ (0, 0) _ HX0.out Try.underlying51 rfl (by kernel_rfl) ?_))
 refine (HN _ HB0.out).out.mono ?_
 rintro r w1 ⟨rfl, hb⟩
 have HX1 := hHd (HX0.out.below hb HX0.out.lt)
 have HZ1 := hHd (HZ0.out.below hb HZ0.out.lt)
 have HB1 := hHd (HB0.out.trans (hb.mono HB0.out.size))
 clear hb
 clear q8 q9 q10 q11 q12 q13
 have q19 := (HX1.out.cell 19).trans rfl
 have q18 := (HX1.out.cell 18).trans rfl
 have q17 := (HX1.out.cell 17).trans rfl
 have q16 := (HX1.out.cell 16).trans rfl
 have q15 := (HX1.out.cell 15).trans rfl
 have q14 := (HX1.out.cell 14).trans rfl
 go_wp2_with (first | (refine wpList_load_row rfl 51 (.tmp 1) rfl w.heap.size (by rfl) 51 _ (0, 0) _ HX1.out Try.underlying51 rfl (by kernel_rfl) ?_) | (refine wpList_load_row_on (by rfl) 51 (.tmp 1) rfl w.heap.size (by rfl) 51 _ (0, 0) _ HX1.out Try.underlying51 rfl (by kernel_rfl) ?_))
 refine (HM _ HB1.out).out.mono ?_
 rintro r w2 ⟨rfl, hb⟩
 have HX2 := hHd (HX1.out.below hb HX1.out.lt)
 have HZ2 := hHd (HZ1.out.below hb HZ1.out.lt)
 have HB2 := hHd (HB1.out.trans (hb.mono HB1.out.size))
 clear hb
 clear q14 q15 q16 q17 q18 q19
 go_wp2_with (first | (refine wpList_load_row rfl 51 (.tmp 1) rfl w.heap.size (by rfl) 51 _ (0, 0) _ HX2.out Try.underlying51 rfl (by kernel_rfl) ?_) | (refine wpList_load_row_on (by rfl) 51 (.tmp 1) rfl w.heap.size (by rfl) 51 _ (0, 0) _ HX2.out Try.underlying51 rfl (by kernel_rfl) ?_))
 refine (HO _ HB2.out).out.mono ?_
 rintro r w3 ⟨rfl, hb⟩
 have HX3 := hHd (HX2.out.below hb HX2.out.lt)
 have HZ3 := hHd (HZ2.out.below hb HZ2.out.lt)
 have HB3 := hHd (HB2.out.trans (hb.mono HB2.out.size))
 clear hb
 have q13 := (HX3.out.cell 13).trans rfl
 have q12 := (HX3.out.cell 12).trans rfl
 have q11 := (HX3.out.cell 11).trans rfl
 have q10 := (HX3.out.cell 10).trans rfl
 have q9 := (HX3.out.cell 9).trans rfl
 have q8 := (HX3.out.cell 8).trans rfl
 go_wp2_with (first | (refine wpList_load_row rfl 51 (.tmp 1) rfl w.heap.size (by rfl) 51 _ (0, 0) _ HX3.out Try.underlying51 rfl (by kernel_rfl) ?_) | (refine wpList_load_row_on (by rfl) 51 (.tmp 1) rfl w.heap.size (by rfl) 51 _ (0, 0) _ HX3.out Try.underlying51 rfl (by kernel_rfl) ?_))
 refine (HP _ HB3.out).out.mono ?_
 rintro r w4 ⟨rfl, hb⟩
 have HX4 := hHd (HX3.out.below hb HX3.out.lt)
 have HZ4 := hHd (HZ3.out.below hb HZ3.out.lt)
 have HB4 := hHd (HB3.out.trans (hb.mono HB3.out.size))
 clear hb
 clear q8 q9 q10 q11 q12 q13
 have q19 := (HX4.out.cell 19).trans rfl
 have q18 := (HX4.out.cell 18).trans rfl
 have q17 := (HX4.out.cell 17).trans rfl
 have q16 := (HX4.out.cell 16).trans rfl
 have q15 := (HX4.out.cell 15).trans rfl
 have q14 := (HX4.out.cell 14).trans rfl
 go_wp2_with (first | (refine wpList_load_row rfl 51 (.tmp 1) rfl w.heap.size (by rfl) 51 _ (0, 0) _ HX4.out Try.underlying51 rfl (by kernel_rfl) ?_) | (refine wpList_load_row_on (by rfl) 51 (.tmp 1) rfl w.heap.size (by rfl) 51 _ (0, 0) _ HX4.out Try.underlying51 rfl (by kernel_rfl) ?_))
 refine (HQ _ HB4.out).out.mono ?_
 rintro r w5 ⟨rfl, hb⟩
 have HX5 := hHd (HX4.out.below hb HX4.out.lt)
 have HZ5 := hHd (HZ4.out.below hb HZ4.out.lt)
 have HB5 := hHd (HB4.out.trans (hb.mono HB4.out.size))
 clear hb
 clear q14 q15 q16 q17 q18 q19
 have q13 := (HX5.out.cell 13).trans rfl
 have q12 := (HX5.out.cell 12).trans rfl
 have q11 := (HX5.out.cell 11).trans rfl
 have q10 := (HX5.out.cell 10).trans rfl
 have q9 := (HX5.out.cell 9).trans rfl
 have q8 := (HX5.out.cell 8).trans rfl
 have q7 := (HX5.out.cell 7).trans rfl
 have q5 := (HX5.out.cell 5).trans rfl
 have q4 := (HX5.out.cell 4).trans rfl
 have q3 := (HX5.out.cell 3).trans rfl
 have q2 := (HX5.out.cell 2).trans rfl
 have q1 := (HX5.out.cell 1).trans rfl
 have q0 := (HX5.out.cell 0).trans rfl
 go_wp2_with (first | (refine wpList_load_row rfl 51 (.tmp 1) rfl w.heap.size (by rfl) 51 _ (0, 0) _ HX5.out Try.underlying51 rfl (by kernel_rfl) ?_) | (refine wpList_load_row_on (by rfl) 51 (.tmp 1) rfl w.heap.size (by rfl) 51 _ (0, 0) _ HX5.out Try.underlying51 rfl (by kernel_rfl) ?_))
 refine (HT _ HB5.out).out.mono ?_
 rintro r w6 ⟨cs, rfl, hn, hb⟩
 obtain ⟨A9, c9, rfl, -⟩ := hn.lieP.shape
 have HL := hHd hn.lieP
 have HS0 := hHd HZ5.out.lt
 have HX6 := hHd (HX5.out.below hb HX5.out.lt)
 have HZ6 := hHd (HZ5.out.below hb HZ5.out.lt)
 have HB6 := hHd (HB5.out.trans (hb.mono HB5.out.size))
 clear hb hn
 clear q0 q1 q2 q3 q4 q5 q7 q8 q9 q10 q11 q12 q13
 have fz0 : (w6).frozen? ⟨w.heap.size + 1, 0, none⟩ = false := HZ6.out.frozen 0
 have fq0 := (HZ6.out.cell 0).trans rfl
 have fz1 : (w6).frozen? ⟨w.heap.size + 1, 1, none⟩ = false := HZ6.out.frozen 1
 have fq1 := (HZ6.out.cell 1).trans rfl
 have fz2 : (w6).frozen? ⟨w.heap.size + 1, 2, none⟩ = false := HZ6.out.frozen 2
 have fq2 := (HZ6.out.cell 2).trans rfl
 have fz3 : (w6).frozen? ⟨w.heap.size + 1, 3, none⟩ = false := HZ6.out.frozen 3
 have fq3 := (HZ6.out.cell 3).trans rfl
 have fz4 : (w6).frozen? ⟨w.heap.size + 1, 4, none⟩ = false := HZ6.out.frozen 4
 have fq4 := (HZ6.out.cell 4).trans rfl
 have fz5 : (w6).frozen? ⟨w.heap.size + 1, 5, none⟩ = false := HZ6.out.frozen 5
 have fq5 := (HZ6.out.cell 5).trans rfl
 have RZ : Hid (Blk (set6 w6 (w.heap.size + 1) (.string (txt ra.name)) (.string (txt ra.key)) (.int .i64 ra.kind) (.int .u64 (ra.num : Int)) (.string (txt ra.text)) (.slice A9 rf.len c9)) (w.heap.size + 1) 27 (cN ra (.slice A9 rf.len c9))) := hHd (HZ6.out.set6 _ _ _ _ _ _)
 have RB : Hid (Below w.heap.size w (set6 w6 (w.heap.size + 1) (.string (txt ra.name)) (.string (txt ra.key)) (.int .i64 ra.kind) (.int .u64 (ra.num : Int)) (.string (txt ra.text)) (.slice A9 rf.len c9))) := hHd (HB6.out.trans (set6_below (by omega)))
 have RL : Hid (LieP 0 w.heap.size (set6 w6 (w.heap.size + 1) (.string (txt ra.name)) (.string (txt ra.key)) (.int .i64 ra.kind) (.int .u64 (ra.num : Int)) (.string (txt ra.text)) (.slice A9 rf.len c9)) (ndC ra (.slice A9 rf.len c9)) (ra, rf)) := hHd ((HL.out.set6 (Nat.zero_le _) HS0.out _ _ _ _ _ _).after HB5.out.size)
 go_wp2_with fail
 refine bodyPost_ret (res_ct9 rfl _ _ (w.heap.size + 1) 27 _ (0, 0) _ rfl RZ.out Try.underlying27 rfl (by kernel_rfl)) rfl ?_
 exact ⟨_, rfl, RL.out, RB.out⟩
end
end Go.Proofs.Ythmobcaidhgeaaa
