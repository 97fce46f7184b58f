/- PpvD -/
import Derived.Test.YthmobcaidhgeaaaAM25
set_option linter.unusedSimpArgs false
set_option linter.unusedVariables false
set_option maxRecDepth 100000
set_option maxHeartbeats 8000000
namespace Go.Proofs.Ythmobcaidhgeaaa
open Go.RowKit
section
attribute [local go_sem] Oper.semAt_some
theorem oldX_ways (n : Nd) (l : List Stp) (o : Nd) : oldX n l o = 30 ∨ oldX n l o = 23 ∨ oldX n l o = 0 := by
 unfold oldX
 split
 ·exact .inl rfl
 ·split
  ·exact .inr (.inl rfl)
  ·exact .inr (.inr rfl)
theorem pcreate_any (a p o : NdD) (f pf og : NdF) (A P O B : Option Addr) (c pc oc m : Nat) (l : List Stp) (w : World) (hx : LieN w (ndC a (.slice A f.len c)) (a, f)) (hv : WayV w.heap.size w (.slice B l.length m) l) (hp : LieN w (ndC p (.slice P pf.len pc)) (p, pf)) (ho : LieN w (ndC o (.slice O og.len oc)) (o, og)) (hf : f.size ≤ 1000000) (hpf : pf.size ≤ 1000000) (hog : og.size ≤ 1000000) (hl : l.length ≤ 1000000) (hr : rgtX (a, f) = true) : Calls Try.prog 28 #[.agg #[.string (txt a.name), .string (txt a.key), .int .i64 a.kind, .int .u64 (a.num : Int), .string (txt a.text), .slice A f.len c, .int .i64 1, .slice B l.length m, .string (txt p.name), .string (txt p.key), .int .i64 p.kind, .int .u64 (p.num : Int), .string (txt p.text), .slice P pf.len pc, .string (txt o.name), .string (txt o.key), .int .i64 o.kind, .int .u64 (o.num : Int), .string (txt o.text), .slice O og.len oc]] w (PTreP 0 (oneX (a, f) ⟨1, l, (p, pf), (o, og)⟩).1 (.int .i64 ((oneX (a, f) ⟨1, l, (p, pf), (o, og)⟩).2 : Int)) w) := by
 cases hn : endsX l (stp p) with
 | false => exact pcreate_arg a p o f pf og A P O B c pc oc m l w hx hv hp ho hf hpf hog hl hr hn
 | true =>
  cases his : (GetX (a, f) l).2 with
  | true => exact pcreate_twice a p o f pf og A P O B c pc oc m l w hx hv hp ho hf hpf hog hl hr hn his
  | false => exact pcreate_set a p o f pf og A P O B c pc oc m l w hx hv hp ho hf hpf hog hl hr hn his
theorem premove_any (a p o : NdD) (f pf og : NdF) (A P O B : Option Addr) (c pc oc m : Nat) (l : List Stp) (w : World) (hx : LieN w (ndC a (.slice A f.len c)) (a, f)) (hv : WayV w.heap.size w (.slice B l.length m) l) (hp : LieN w (ndC p (.slice P pf.len pc)) (p, pf)) (ho : LieN w (ndC o (.slice O og.len oc)) (o, og)) (hf : f.size ≤ 1000000) (hpf : pf.size ≤ 1000000) (hog : og.size ≤ 1000000) (hl : l.length ≤ 1000000) (hr : rgtX (a, f) = true) : Calls Try.prog 29 #[.agg #[.string (txt a.name), .string (txt a.key), .int .i64 a.kind, .int .u64 (a.num : Int), .string (txt a.text), .slice A f.len c, .int .i64 2, .slice B l.length m, .string (txt p.name), .string (txt p.key), .int .i64 p.kind, .int .u64 (p.num : Int), .string (txt p.text), .slice P pf.len pc, .string (txt o.name), .string (txt o.key), .int .i64 o.kind, .int .u64 (o.num : Int), .string (txt o.text), .slice O og.len oc]] w (PTreP 0 (oneX (a, f) ⟨2, l, (p, pf), (o, og)⟩).1 (.int .i64 ((oneX (a, f) ⟨2, l, (p, pf), (o, og)⟩).2 : Int)) w) := by
 cases hn : endsX l (stp o) with
 | false => exact premove_arg a p o f pf og A P O B c pc oc m l w hx hv hp ho hf hpf hog hl hr hn
 | true =>
  rcases oldX_ways (a, f) l (o, og) with h | h | h
  ·exact premove_none a p o f pf og A P O B c pc oc m l w hx hv hp ho hf hpf hog hl hr hn h
  ·exact premove_other a p o f pf og A P O B c pc oc m l w hx hv hp ho hf hpf hog hl hr hn h
  ·exact premove_cut a p o f pf og A P O B c pc oc m l w hx hv hp ho hf hpf hog hl hr hn h
theorem preplace_any (a p o : NdD) (f pf og : NdF) (A P O B : Option Addr) (c pc oc m : Nat) (l : List Stp) (w : World) (hx : LieN w (ndC a (.slice A f.len c)) (a, f)) (hv : WayV w.heap.size w (.slice B l.length m) l) (hp : LieN w (ndC p (.slice P pf.len pc)) (p, pf)) (ho : LieN w (ndC o (.slice O og.len oc)) (o, og)) (hf : f.size ≤ 1000000) (hpf : pf.size ≤ 1000000) (hog : og.size ≤ 1000000) (hl : l.length ≤ 1000000) (hr : rgtX (a, f) = true) : Calls Try.prog 30 #[.agg #[.string (txt a.name), .string (txt a.key), .int .i64 a.kind, .int .u64 (a.num : Int), .string (txt a.text), .slice A f.len c, .int .i64 3, .slice B l.length m, .string (txt p.name), .string (txt p.key), .int .i64 p.kind, .int .u64 (p.num : Int), .string (txt p.text), .slice P pf.len pc, .string (txt o.name), .string (txt o.key), .int .i64 o.kind, .int .u64 (o.num : Int), .string (txt o.text), .slice O og.len oc]] w (PTreP 0 (oneX (a, f) ⟨3, l, (p, pf), (o, og)⟩).1 (.int .i64 ((oneX (a, f) ⟨3, l, (p, pf), (o, og)⟩).2 : Int)) w) := by
 cases hn : endsX l (stp p) with
 | false => exact preplace_argn a p o f pf og A P O B c pc oc m l w hx hv hp ho hf hpf hog hl hr hn
 | true =>
  cases hno : endsX l (stp o) with
  | false => exact preplace_argo a p o f pf og A P O B c pc oc m l w hx hv hp ho hf hpf hog hl hr hn hno
  | true =>
   rcases oldX_ways (a, f) l (o, og) with h | h | h
   ·exact preplace_none a p o f pf og A P O B c pc oc m l w hx hv hp ho hf hpf hog hl hr hn hno h
   ·exact preplace_other a p o f pf og A P O B c pc oc m l w hx hv hp ho hf hpf hog hl hr hn hno h
   ·by_cases hpk : p.kind = 0
    ·exact preplace_leafn a p o f pf og A P O B c pc oc m l w hx hv hp ho hf hpf hog hl hr hn hno h hpk
    ·by_cases hok : o.kind = 0
     ·exact preplace_leafo a p o f pf og A P O B c pc oc m l w hx hv hp ho hf hpf hog hl hr hn hno h hpk hok
     ·exact preplace_set a p o f pf og A P O B c pc oc m l w hx hv hp ho hf hpf hog hl hr hn hno h hpk hok
theorem pkind_one (a p o : NdD) (f pf og : NdF) (A P O B : Option Addr) (c pc oc m : Nat) (l : List Stp) (w : World)  :
  Calls Try.prog 20 #[.agg #[.string (txt a.name), .string (txt a.key), .int .i64 a.kind, .int .u64 (a.num : Int), .string (txt a.text), .slice A f.len c, .int .i64 1, .slice B l.length m, .string (txt p.name), .string (txt p.key), .int .i64 p.kind, .int .u64 (p.num : Int), .string (txt p.text), .slice P pf.len pc, .string (txt o.name), .string (txt o.key), .int .i64 o.kind, .int .u64 (o.num : Int), .string (txt o.text), .slice O og.len oc]] w (Ans9 (.func (.func 28) #[.agg #[.string (txt a.name), .string (txt a.key), .int .i64 a.kind, .int .u64 (a.num : Int), .string (txt a.text), .slice A f.len c, .int .i64 1, .slice B l.length m, .string (txt p.name), .string (txt p.key), .int .i64 p.kind, .int .u64 (p.num : Int), .string (txt p.text), .slice P pf.len pc, .string (txt o.name), .string (txt o.key), .int .i64 o.kind, .int .u64 (o.num : Int), .string (txt o.text), .slice O og.len oc]] #[]) w) := by
 have HB : Hid (Below w.heap.size w (w.alloc (.cells #[.string (txt a.name), .string (txt a.key), .int .i64 a.kind, .int .u64 (a.num : Int), .string (txt a.text), .slice A f.len c, .int .i64 1, .slice B l.length m, .string (txt p.name), .string (txt p.key), .int .i64 p.kind, .int .u64 (p.num : Int), .string (txt p.text), .slice P pf.len pc, .string (txt o.name), .string (txt o.key), .int .i64 o.kind, .int .u64 (o.num : Int), .string (txt o.text), .slice O og.len oc] 51))) := hHd bAl
 have HX : Hid (Blk (w.alloc (.cells #[.string (txt a.name), .string (txt a.key), .int .i64 a.kind, .int .u64 (a.num : Int), .string (txt a.text), .slice A f.len c, .int .i64 1, .slice B l.length m, .string (txt p.name), .string (txt p.key), .int .i64 p.kind, .int .u64 (p.num : Int), .string (txt p.text), .slice P pf.len pc, .string (txt o.name), .string (txt o.key), .int .i64 o.kind, .int .u64 (o.num : Int), .string (txt o.text), .slice O og.len oc] 51)) w.heap.size 51 #[.string (txt a.name), .string (txt a.key), .int .i64 a.kind, .int .u64 (a.num : Int), .string (txt a.text), .slice A f.len c, .int .i64 1, .slice B l.length m, .string (txt p.name), .string (txt p.key), .int .i64 p.kind, .int .u64 (p.num : Int), .string (txt p.text), .slice P pf.len pc, .string (txt o.name), .string (txt o.key), .int .i64 o.kind, .int .u64 (o.num : Int), .string (txt o.text), .slice O og.len oc]) := hHd (Blk.new _ _ _)
 have hmf : ∀ (fn : Fn) (first cap : Array Value) (w : World), (Instr.makeFunc fn first cap).run Try.prog w = .ok (.func fn first cap) w := fun _ _ _ _ => rfl
 have q6 := (HX.out.cell 6).trans rfl
 go_enter Try.func20, Try.ntmps20
 go_wp2_with (refine wpList_load_row rfl 51 (.tmp 1) rfl w.heap.size (by rfl) 51 _ (0, 0) _ HX.out Try.underlying51 rfl (by kernel_rfl) ?_)
 go_ret
 exact ⟨rfl, HB.out⟩
theorem pkind_two (a p o : NdD) (f pf og : NdF) (A P O B : Option Addr) (c pc oc m : Nat) (l : List Stp) (w : World)  :
  Calls Try.prog 20 #[.agg #[.string (txt a.name), .string (txt a.key), .int .i64 a.kind, .int .u64 (a.num : Int), .string (txt a.text), .slice A f.len c, .int .i64 2, .slice B l.length m, .string (txt p.name), .string (txt p.key), .int .i64 p.kind, .int .u64 (p.num : Int), .string (txt p.text), .slice P pf.len pc, .string (txt o.name), .string (txt o.key), .int .i64 o.kind, .int .u64 (o.num : Int), .string (txt o.text), .slice O og.len oc]] w (Ans9 (.func (.func 29) #[.agg #[.string (txt a.name), .string (txt a.key), .int .i64 a.kind, .int .u64 (a.num : Int), .string (txt a.text), .slice A f.len c, .int .i64 2, .slice B l.length m, .string (txt p.name), .string (txt p.key), .int .i64 p.kind, .int .u64 (p.num : Int), .string (txt p.text), .slice P pf.len pc, .string (txt o.name), .string (txt o.key), .int .i64 o.kind, .int .u64 (o.num : Int), .string (txt o.text), .slice O og.len oc]] #[]) w) := by
 have HB : Hid (Below w.heap.size w (w.alloc (.cells #[.string (txt a.name), .string (txt a.key), .int .i64 a.kind, .int .u64 (a.num : Int), .string (txt a.text), .slice A f.len c, .int .i64 2, .slice B l.length m, .string (txt p.name), .string (txt p.key), .int .i64 p.kind, .int .u64 (p.num : Int), .string (txt p.text), .slice P pf.len pc, .string (txt o.name), .string (txt o.key), .int .i64 o.kind, .int .u64 (o.num : Int), .string (txt o.text), .slice O og.len oc] 51))) := hHd bAl
 have HX : Hid (Blk (w.alloc (.cells #[.string (txt a.name), .string (txt a.key), .int .i64 a.kind, .int .u64 (a.num : Int), .string (txt a.text), .slice A f.len c, .int .i64 2, .slice B l.length m, .string (txt p.name), .string (txt p.key), .int .i64 p.kind, .int .u64 (p.num : Int), .string (txt p.text), .slice P pf.len pc, .string (txt o.name), .string (txt o.key), .int .i64 o.kind, .int .u64 (o.num : Int), .string (txt o.text), .slice O og.len oc] 51)) w.heap.size 51 #[.string (txt a.name), .string (txt a.key), .int .i64 a.kind, .int .u64 (a.num : Int), .string (txt a.text), .slice A f.len c, .int .i64 2, .slice B l.length m, .string (txt p.name), .string (txt p.key), .int .i64 p.kind, .int .u64 (p.num : Int), .string (txt p.text), .slice P pf.len pc, .string (txt o.name), .string (txt o.key), .int .i64 o.kind, .int .u64 (o.num : Int), .string (txt o.text), .slice O og.len oc]) := hHd (Blk.new _ _ _)
 have hmf : ∀ (fn : Fn) (first cap : Array Value) (w : World), (Instr.makeFunc fn first cap).run Try.prog w = .ok (.func fn first cap) w := fun _ _ _ _ => rfl
 have q6 := (HX.out.cell 6).trans rfl
 go_enter Try.func20, Try.ntmps20
 go_wp2_with (refine wpList_load_row rfl 51 (.tmp 1) rfl w.heap.size (by rfl) 51 _ (0, 0) _ HX.out Try.underlying51 rfl (by kernel_rfl) ?_)
 go_ret
 exact ⟨rfl, HB.out⟩
theorem pkind_three (a p o : NdD) (f pf og : NdF) (A P O B : Option Addr) (c pc oc m : Nat) (l : List Stp) (w : World)  :
  Calls Try.prog 20 #[.agg #[.string (txt a.name), .string (txt a.key), .int .i64 a.kind, .int .u64 (a.num : Int), .string (txt a.text), .slice A f.len c, .int .i64 3, .slice B l.length m, .string (txt p.name), .string (txt p.key), .int .i64 p.kind, .int .u64 (p.num : Int), .string (txt p.text), .slice P pf.len pc, .string (txt o.name), .string (txt o.key), .int .i64 o.kind, .int .u64 (o.num : Int), .string (txt o.text), .slice O og.len oc]] w (Ans9 (.func (.func 30) #[.agg #[.string (txt a.name), .string (txt a.key), .int .i64 a.kind, .int .u64 (a.num : Int), .string (txt a.text), .slice A f.len c, .int .i64 3, .slice B l.length m, .string (txt p.name), .string (txt p.key), .int .i64 p.kind, .int .u64 (p.num : Int), .string (txt p.text), .slice P pf.len pc, .string (txt o.name), .string (txt o.key), .int .i64 o.kind, .int .u64 (o.num : Int), .string (txt o.text), .slice O og.len oc]] #[]) w) := by
 have HB : Hid (Below w.heap.size w (w.alloc (.cells #[.string (txt a.name), .string (txt a.key), .int .i64 a.kind, .int .u64 (a.num : Int), .string (txt a.text), .slice A f.len c, .int .i64 3, .slice B l.length m, .string (txt p.name), .string (txt p.key), .int .i64 p.kind, .int .u64 (p.num : Int), .string (txt p.text), .slice P pf.len pc, .string (txt o.name), .string (txt o.key), .int .i64 o.kind, .int .u64 (o.num : Int), .string (txt o.text), .slice O og.len oc] 51))) := hHd bAl
 have HX : Hid (Blk (w.alloc (.cells #[.string (txt a.name), .string (txt a.key), .int .i64 a.kind, .int .u64 (a.num : Int), .string (txt a.text), .slice A f.len c, .int .i64 3, .slice B l.length m, .string (txt p.name), .string (txt p.key), .int .i64 p.kind, .int .u64 (p.num : Int), .string (txt p.text), .slice P pf.len pc, .string (txt o.name), .string (txt o.key), .int .i64 o.kind, .int .u64 (o.num : Int), .string (txt o.text), .slice O og.len oc] 51)) w.heap.size 51 #[.string (txt a.name), .string (txt a.key), .int .i64 a.kind, .int .u64 (a.num : Int), .string (txt a.text), .slice A f.len c, .int .i64 3, .slice B l.length m, .string (txt p.name), .string (txt p.key), .int .i64 p.kind, .int .u64 (p.num : Int), .string (txt p.text), .slice P pf.len pc, .string (txt o.name), .string (txt o.key), .int .i64 o.kind, .int .u64 (o.num : Int), .string (txt o.text), .slice O og.len oc]) := hHd (Blk.new _ _ _)
 have hmf : ∀ (fn : Fn) (first cap : Array Value) (w : World), (Instr.makeFunc fn first cap).run Try.prog w = .ok (.func fn first cap) w := fun _ _ _ _ => rfl
 have q6 := (HX.out.cell 6).trans rfl
 go_enter Try.func20, Try.ntmps20
 go_wp2_with (refine wpList_load_row rfl 51 (.tmp 1) rfl w.heap.size (by rfl) 51 _ (0, 0) _ HX.out Try.underlying51 rfl (by kernel_rfl) ?_)
 go_ret
 exact ⟨rfl, HB.out⟩
theorem pkind_none (a p o : NdD) (f pf og : NdF) (A P O B : Option Addr) (c pc oc m : Nat) (l : List Stp) (w : World) (k : Int) (h1 : k ≠ 1) (h2 : k ≠ 2) (h3 : k ≠ 3) :
  Calls Try.prog 20 #[.agg #[.string (txt a.name), .string (txt a.key), .int .i64 a.kind, .int .u64 (a.num : Int), .string (txt a.text), .slice A f.len c, .int .i64 k, .slice B l.length m, .string (txt p.name), .string (txt p.key), .int .i64 p.kind, .int .u64 (p.num : Int), .string (txt p.text), .slice P pf.len pc, .string (txt o.name), .string (txt o.key), .int .i64 o.kind, .int .u64 (o.num : Int), .string (txt o.text), .slice O og.len oc]] w (Ans9 (.nilFunc) w) := by
 have HB : Hid (Below w.heap.size w (w.alloc (.cells #[.string (txt a.name), .string (txt a.key), .int .i64 a.kind, .int .u64 (a.num : Int), .string (txt a.text), .slice A f.len c, .int .i64 k, .slice B l.length m, .string (txt p.name), .string (txt p.key), .int .i64 p.kind, .int .u64 (p.num : Int), .string (txt p.text), .slice P pf.len pc, .string (txt o.name), .string (txt o.key), .int .i64 o.kind, .int .u64 (o.num : Int), .string (txt o.text), .slice O og.len oc] 51))) := hHd bAl
 have HX : Hid (Blk (w.alloc (.cells #[.string (txt a.name), .string (txt a.key), .int .i64 a.kind, .int .u64 (a.num : Int), .string (txt a.text), .slice A f.len c, .int .i64 k, .slice B l.length m, .string (txt p.name), .string (txt p.key), .int .i64 p.kind, .int .u64 (p.num : Int), .string (txt p.text), .slice P pf.len pc, .string (txt o.name), .string (txt o.key), .int .i64 o.kind, .int .u64 (o.num : Int), .string (txt o.text), .slice O og.len oc] 51)) w.heap.size 51 #[.string (txt a.name), .string (txt a.key), .int .i64 a.kind, .int .u64 (a.num : Int), .string (txt a.text), .slice A f.len c, .int .i64 k, .slice B l.length m, .string (txt p.name), .string (txt p.key), .int .i64 p.kind, .int .u64 (p.num : Int), .string (txt p.text), .slice P pf.len pc, .string (txt o.name), .string (txt o.key), .int .i64 o.kind, .int .u64 (o.num : Int), .string (txt o.text), .slice O og.len oc]) := hHd (Blk.new _ _ _)
 have hmf : ∀ (fn : Fn) (first cap : Array Value) (w : World), (Instr.makeFunc fn first cap).run Try.prog w = .ok (.func fn first cap) w := fun _ _ _ _ => rfl
 have q6 := (HX.out.cell 6).trans rfl
 have e1 : (k == 1) = false := beq_eq_false_iff_ne.2 h1
 have e2 : (k == 2) = false := beq_eq_false_iff_ne.2 h2
 have e3 : (k == 3) = false := beq_eq_false_iff_ne.2 h3
 go_enter Try.func20, Try.ntmps20
 go_wp2_with (refine wpList_load_row rfl 51 (.tmp 1) rfl w.heap.size (by rfl) 51 _ (0, 0) _ HX.out Try.underlying51 rfl (by kernel_rfl) ?_)
 go_ret
 exact ⟨rfl, HB.out⟩
theorem pone_one (a p o : NdD) (f pf og : NdF) (A P O B : Option Addr) (c pc oc m : Nat) (l : List Stp) (w : World) (hx : LieN w (ndC a (.slice A f.len c)) (a, f)) (hv : WayV w.heap.size w (.slice B l.length m) l) (hp : LieN w (ndC p (.slice P pf.len pc)) (p, pf)) (ho : LieN w (ndC o (.slice O og.len oc)) (o, og)) (hf : f.size ≤ 1000000) (hpf : pf.size ≤ 1000000) (hog : og.size ≤ 1000000) (hl : l.length ≤ 1000000) (hr : rgtX (a, f) = true) :
  Calls Try.prog 10 #[.agg (cN a (.slice A f.len c)), .agg #[.int .i64 1, .slice B l.length m, .string (txt p.name), .string (txt p.key), .int .i64 p.kind, .int .u64 (p.num : Int), .string (txt p.text), .slice P pf.len pc, .string (txt o.name), .string (txt o.key), .int .i64 o.kind, .int .u64 (o.num : Int), .string (txt o.text), .slice O og.len oc]] w (PTreP 0 (oneX (a, f) ⟨1, l, (p, pf), (o, og)⟩).1 (.int .i64 ((oneX (a, f) ⟨1, l, (p, pf), (o, og)⟩).2 : Int)) w) := by
 have HB0 : Hid (Below w.heap.size w (((w.alloc (.cells (cN a (.slice A f.len c)) 27)).alloc (.cells #[.int .i64 1, .slice B l.length m, .string (txt p.name), .string (txt p.key), .int .i64 p.kind, .int .u64 (p.num : Int), .string (txt p.text), .slice P pf.len pc, .string (txt o.name), .string (txt o.key), .int .i64 o.kind, .int .u64 (o.num : Int), .string (txt o.text), .slice O og.len oc] 37)).alloc (.cells #[.string ⟨#[]⟩, .string ⟨#[]⟩, .int .i64 0, .int .u64 0, .string ⟨#[]⟩, .slice none 0 0] 27))) := hHd ((bAl.alloc (by simp) _).alloc (by simp; omega) _)
 have HN0 : Hid (Blk (((w.alloc (.cells (cN a (.slice A f.len c)) 27)).alloc (.cells #[.int .i64 1, .slice B l.length m, .string (txt p.name), .string (txt p.key), .int .i64 p.kind, .int .u64 (p.num : Int), .string (txt p.text), .slice P pf.len pc, .string (txt o.name), .string (txt o.key), .int .i64 o.kind, .int .u64 (o.num : Int), .string (txt o.text), .slice O og.len oc] 37)).alloc (.cells #[.string ⟨#[]⟩, .string ⟨#[]⟩, .int .i64 0, .int .u64 0, .string ⟨#[]⟩, .slice none 0 0] 27)) w.heap.size 27 (cN a (.slice A f.len c))) := hHd (((Blk.new _ _ _).alloc _).alloc _)
 have HE0 : Hid (Blk (((w.alloc (.cells (cN a (.slice A f.len c)) 27)).alloc (.cells #[.int .i64 1, .slice B l.length m, .string (txt p.name), .string (txt p.key), .int .i64 p.kind, .int .u64 (p.num : Int), .string (txt p.text), .slice P pf.len pc, .string (txt o.name), .string (txt o.key), .int .i64 o.kind, .int .u64 (o.num : Int), .string (txt o.text), .slice O og.len oc] 37)).alloc (.cells #[.string ⟨#[]⟩, .string ⟨#[]⟩, .int .i64 0, .int .u64 0, .string ⟨#[]⟩, .slice none 0 0] 27)) (w.heap.size + 1) 37 #[.int .i64 1, .slice B l.length m, .string (txt p.name), .string (txt p.key), .int .i64 p.kind, .int .u64 (p.num : Int), .string (txt p.text), .slice P pf.len pc, .string (txt o.name), .string (txt o.key), .int .i64 o.kind, .int .u64 (o.num : Int), .string (txt o.text), .slice O og.len oc]) := hHd ((Blk.new_atP (by simp) _ _).alloc _)
 have HZ0 : Hid (Blk (((w.alloc (.cells (cN a (.slice A f.len c)) 27)).alloc (.cells #[.int .i64 1, .slice B l.length m, .string (txt p.name), .string (txt p.key), .int .i64 p.kind, .int .u64 (p.num : Int), .string (txt p.text), .slice P pf.len pc, .string (txt o.name), .string (txt o.key), .int .i64 o.kind, .int .u64 (o.num : Int), .string (txt o.text), .slice O og.len oc] 37)).alloc (.cells #[.string ⟨#[]⟩, .string ⟨#[]⟩, .int .i64 0, .int .u64 0, .string ⟨#[]⟩, .slice none 0 0] 27)) (w.heap.size + 1 + 1) 27 #[.string ⟨#[]⟩, .string ⟨#[]⟩, .int .i64 0, .int .u64 0, .string ⟨#[]⟩, .slice none 0 0]) := hHd (Blk.new_atP (by simp) _ _)
 obtain ⟨⟨⟨ra, rf⟩, re⟩, hs⟩ : ∃ y, y = oneX (a, f) ⟨1, l, (p, pf), (o, og)⟩ := ⟨_, rfl⟩
 have HC : ∀ W, Below w.heap.size w W → Hid (Calls Try.prog 28 #[.agg #[.string (txt a.name), .string (txt a.key), .int .i64 a.kind, .int .u64 (a.num : Int), .string (txt a.text), .slice A f.len c, .int .i64 1, .slice B l.length m, .string (txt p.name), .string (txt p.key), .int .i64 p.kind, .int .u64 (p.num : Int), .string (txt p.text), .slice P pf.len pc, .string (txt o.name), .string (txt o.key), .int .i64 o.kind, .int .u64 (o.num : Int), .string (txt o.text), .slice O og.len oc]] W (PTreP 0 (ra, rf) (.int .i64 (re : Int)) W)) := fun W hW => hHd (by have h := pcreate_any a p o f pf og A P O B c pc oc m l W (hx.below hW) (hv.below hW) (hp.below hW) (ho.below hW) hf hpf hog hl hr; rw [← hs] at h; exact h)
 have HK : ∀ W, Below w.heap.size w W → Hid (Calls Try.prog 20 #[.agg #[.string (txt a.name), .string (txt a.key), .int .i64 a.kind, .int .u64 (a.num : Int), .string (txt a.text), .slice A f.len c, .int .i64 1, .slice B l.length m, .string (txt p.name), .string (txt p.key), .int .i64 p.kind, .int .u64 (p.num : Int), .string (txt p.text), .slice P pf.len pc, .string (txt o.name), .string (txt o.key), .int .i64 o.kind, .int .u64 (o.num : Int), .string (txt o.text), .slice O og.len oc]] W (Ans9 (.func (.func 28) #[.agg #[.string (txt a.name), .string (txt a.key), .int .i64 a.kind, .int .u64 (a.num : Int), .string (txt a.text), .slice A f.len c, .int .i64 1, .slice B l.length m, .string (txt p.name), .string (txt p.key), .int .i64 p.kind, .int .u64 (p.num : Int), .string (txt p.text), .slice P pf.len pc, .string (txt o.name), .string (txt o.key), .int .i64 o.kind, .int .u64 (o.num : Int), .string (txt o.text), .slice O og.len oc]] #[]) W)) := fun W _ => hHd (pkind_one a p o f pf og A P O B c pc oc m l W)
 rw [← hs]
 clear hs
 have hEQ : ∀ W, (binOp .eql 49 (.func (.func 28) #[.agg #[.string (txt a.name), .string (txt a.key), .int .i64 a.kind, .int .u64 (a.num : Int), .string (txt a.text), .slice A f.len c, .int .i64 1, .slice B l.length m, .string (txt p.name), .string (txt p.key), .int .i64 p.kind, .int .u64 (p.num : Int), .string (txt p.text), .slice P pf.len pc, .string (txt o.name), .string (txt o.key), .int .i64 o.kind, .int .u64 (o.num : Int), .string (txt o.text), .slice O og.len oc]] #[]) .nilFunc).run Try.prog W = .ok (.bool false) W := fun W => rfl
 clear hx hv hp ho hf hpf hog hl hr
 go_enter Try.func10, Try.ntmps10
 go_upto_region 1 with (fail)
 revert HB0 HN0 HE0 HZ0
 generalize (((w.alloc (.cells (cN a (.slice A f.len c)) 27)).alloc (.cells #[.int .i64 1, .slice B l.length m, .string (txt p.name), .string (txt p.key), .int .i64 p.kind, .int .u64 (p.num : Int), .string (txt p.text), .slice P pf.len pc, .string (txt o.name), .string (txt o.key), .int .i64 o.kind, .int .u64 (o.num : Int), .string (txt o.text), .slice O og.len oc] 37)).alloc (.cells #[.string ⟨#[]⟩, .string ⟨#[]⟩, .int .i64 0, .int .u64 0, .string ⟨#[]⟩, .slice none 0 0] 27)) = w0
 intro HB0 HN0 HE0 HZ0
 go_wp2_with (first | (refine wpList_load_row rfl 27 (.tmp 2) rfl w.heap.size (by rfl) 27 _ (0, 0) _ HN0.out Try.underlying27 rfl (by kernel_rfl) ?_) | (refine wpList_load_row rfl 37 (.tmp 3) rfl (w.heap.size + 1) (by rfl) 37 _ (0, 0) _ HE0.out Try.underlying37 rfl (by kernel_rfl) ?_))
 refine (HK w0 HB0.out).out.mono ?_
 rintro r w1 ⟨rfl, hb⟩
 have HZ1 := hHd (HZ0.out.below hb HZ0.out.lt)
 have HB1 := hHd (HB0.out.trans (hb.mono HB0.out.size))
 clear hb HN0 HE0
 go_wp2_with fail
 refine (HC _ HB1.out).out.mono ?_
 intro r w2 hr
 obtain ⟨A9, c9, rfl, hl9, hb⟩ := hr.flat
 have HL := hHd hl9
 have HS0 := hHd HZ1.out.lt
 have HS1 := hHd HB1.out.size
 have HZ2 := hHd (HZ1.out.below hb HZ1.out.lt)
 have HB2 := hHd (HB1.out.trans (hb.mono HB1.out.size))
 clear hb hr hl9
 have fz0 : (w2).frozen? ⟨w.heap.size + 1 + 1, 0, none⟩ = false := HZ2.out.frozen 0
 have fq0 := (HZ2.out.cell 0).trans rfl
 have fz1 : (w2).frozen? ⟨w.heap.size + 1 + 1, 1, none⟩ = false := HZ2.out.frozen 1
 have fq1 := (HZ2.out.cell 1).trans rfl
 have fz2 : (w2).frozen? ⟨w.heap.size + 1 + 1, 2, none⟩ = false := HZ2.out.frozen 2
 have fq2 := (HZ2.out.cell 2).trans rfl
 have fz3 : (w2).frozen? ⟨w.heap.size + 1 + 1, 3, none⟩ = false := HZ2.out.frozen 3
 have fq3 := (HZ2.out.cell 3).trans rfl
 have fz4 : (w2).frozen? ⟨w.heap.size + 1 + 1, 4, none⟩ = false := HZ2.out.frozen 4
 have fq4 := (HZ2.out.cell 4).trans rfl
 have fz5 : (w2).frozen? ⟨w.heap.size + 1 + 1, 5, none⟩ = false := HZ2.out.frozen 5
 have fq5 := (HZ2.out.cell 5).trans rfl
 have RZ : Hid (Blk (set6 w2 (w.heap.size + 1 + 1) (.string (txt ra.name)) (.string (txt ra.key)) (.int .i64 ra.kind) (.int .u64 (ra.num : Int)) (.string (txt ra.text)) (.slice A9 rf.len c9)) (w.heap.size + 1 + 1) 27 (cN ra (.slice A9 rf.len c9))) := hHd (HZ2.out.set6 _ _ _ _ _ _)
 have RB : Hid (Below w.heap.size w (set6 w2 (w.heap.size + 1 + 1) (.string (txt ra.name)) (.string (txt ra.key)) (.int .i64 ra.kind) (.int .u64 (ra.num : Int)) (.string (txt ra.text)) (.slice A9 rf.len c9))) := hHd (HB2.out.trans (set6_below (by omega)))
 have RL : Hid (LieP 0 w.heap.size (set6 w2 (w.heap.size + 1 + 1) (.string (txt ra.name)) (.string (txt ra.key)) (.int .i64 ra.kind) (.int .u64 (ra.num : Int)) (.string (txt ra.text)) (.slice A9 rf.len c9)) (ndC ra (.slice A9 rf.len c9)) (ra, rf)) := hHd ((HL.out.set6 (Nat.zero_le _) HS0.out _ _ _ _ _ _).after HS1.out)
 go_wp2_with fail
 refine bodyPost_ret (res_ct9 rfl _ _ (w.heap.size + 1 + 1) 27 _ (0, 0) _ rfl RZ.out Try.underlying27 rfl (by kernel_rfl)) rfl ?_
 exact ⟨_, rfl, RL.out, RB.out⟩
theorem pone_two (a p o : NdD) (f pf og : NdF) (A P O B : Option Addr) (c pc oc m : Nat) (l : List Stp) (w : World) (hx : LieN w (ndC a (.slice A f.len c)) (a, f)) (hv : WayV w.heap.size w (.slice B l.length m) l) (hp : LieN w (ndC p (.slice P pf.len pc)) (p, pf)) (ho : LieN w (ndC o (.slice O og.len oc)) (o, og)) (hf : f.size ≤ 1000000) (hpf : pf.size ≤ 1000000) (hog : og.size ≤ 1000000) (hl : l.length ≤ 1000000) (hr : rgtX (a, f) = true) :
  Calls Try.prog 10 #[.agg (cN a (.slice A f.len c)), .agg #[.int .i64 2, .slice B l.length m, .string (txt p.name), .string (txt p.key), .int .i64 p.kind, .int .u64 (p.num : Int), .string (txt p.text), .slice P pf.len pc, .string (txt o.name), .string (txt o.key), .int .i64 o.kind, .int .u64 (o.num : Int), .string (txt o.text), .slice O og.len oc]] w (PTreP 0 (oneX (a, f) ⟨2, l, (p, pf), (o, og)⟩).1 (.int .i64 ((oneX (a, f) ⟨2, l, (p, pf), (o, og)⟩).2 : Int)) w) := by
 have HB0 : Hid (Below w.heap.size w (((w.alloc (.cells (cN a (.slice A f.len c)) 27)).alloc (.cells #[.int .i64 2, .slice B l.length m, .string (txt p.name), .string (txt p.key), .int .i64 p.kind, .int .u64 (p.num : Int), .string (txt p.text), .slice P pf.len pc, .string (txt o.name), .string (txt o.key), .int .i64 o.kind, .int .u64 (o.num : Int), .string (txt o.text), .slice O og.len oc] 37)).alloc (.cells #[.string ⟨#[]⟩, .string ⟨#[]⟩, .int .i64 0, .int .u64 0, .string ⟨#[]⟩, .slice none 0 0] 27))) := hHd ((bAl.alloc (by simp) _).alloc (by simp; omega) _)
 have HN0 : Hid (Blk (((w.alloc (.cells (cN a (.slice A f.len c)) 27)).alloc (.cells #[.int .i64 2, .slice B l.length m, .string (txt p.name), .string (txt p.key), .int .i64 p.kind, .int .u64 (p.num : Int), .string (txt p.text), .slice P pf.len pc, .string (txt o.name), .string (txt o.key), .int .i64 o.kind, .int .u64 (o.num : Int), .string (txt o.text), .slice O og.len oc] 37)).alloc (.cells #[.string ⟨#[]⟩, .string ⟨#[]⟩, .int .i64 0, .int .u64 0, .string ⟨#[]⟩, .slice none 0 0] 27)) w.heap.size 27 (cN a (.slice A f.len c))) := hHd (((Blk.new _ _ _).alloc _).alloc _)
 have HE0 : Hid (Blk (((w.alloc (.cells (cN a (.slice A f.len c)) 27)).alloc (.cells #[.int .i64 2, .slice B l.length m, .string (txt p.name), .string (txt p.key), .int .i64 p.kind, .int .u64 (p.num : Int), .string (txt p.text), .slice P pf.len pc, .string (txt o.name), .string (txt o.key), .int .i64 o.kind, .int .u64 (o.num : Int), .string (txt o.text), .slice O og.len oc] 37)).alloc (.cells #[.string ⟨#[]⟩, .string ⟨#[]⟩, .int .i64 0, .int .u64 0, .string ⟨#[]⟩, .slice none 0 0] 27)) (w.heap.size + 1) 37 #[.int .i64 2, .slice B l.length m, .string (txt p.name), .string (txt p.key), .int .i64 p.kind, .int .u64 (p.num : Int), .string (txt p.text), .slice P pf.len pc, .string (txt o.name), .string (txt o.key), .int .i64 o.kind, .int .u64 (o.num : Int), .string (txt o.text), .slice O og.len oc]) := hHd ((Blk.new_atP (by simp) _ _).alloc _)
 have HZ0 : Hid (Blk (((w.alloc (.cells (cN a (.slice A f.len c)) 27)).alloc (.cells #[.int .i64 2, .slice B l.length m, .string (txt p.name), .string (txt p.key), .int .i64 p.kind, .int .u64 (p.num : Int), .string (txt p.text), .slice P pf.len pc, .string (txt o.name), .string (txt o.key), .int .i64 o.kind, .int .u64 (o.num : Int), .string (txt o.text), .slice O og.len oc] 37)).alloc (.cells #[.string ⟨#[]⟩, .string ⟨#[]⟩, .int .i64 0, .int .u64 0, .string ⟨#[]⟩, .slice none 0 0] 27)) (w.heap.size + 1 + 1) 27 #[.string ⟨#[]⟩, .string ⟨#[]⟩, .int .i64 0, .int .u64 0, .string ⟨#[]⟩, .slice none 0 0]) := hHd (Blk.new_atP (by simp) _ _)
 obtain ⟨⟨⟨ra, rf⟩, re⟩, hs⟩ : ∃ y, y = oneX (a, f) ⟨2, l, (p, pf), (o, og)⟩ := ⟨_, rfl⟩
 have HC : ∀ W, Below w.heap.size w W → Hid (Calls Try.prog 29 #[.agg #[.string (txt a.name), .string (txt a.key), .int .i64 a.kind, .int .u64 (a.num : Int), .string (txt a.text), .slice A f.len c, .int .i64 2, .slice B l.length m, .string (txt p.name), .string (txt p.key), .int .i64 p.kind, .int .u64 (p.num : Int), .string (txt p.text), .slice P pf.len pc, .string (txt o.name), .string (txt o.key), .int .i64 o.kind, .int .u64 (o.num : Int), .string (txt o.text), .slice O og.len oc]] W (PTreP 0 (ra, rf) (.int .i64 (re : Int)) W)) := fun W hW => hHd (by have h := premove_any a p o f pf og A P O B c pc oc m l W (hx.below hW) (hv.below hW) (hp.below hW) (ho.below hW) hf hpf hog hl hr; rw [← hs] at h; exact h)
 have HK : ∀ W, Below w.heap.size w W → Hid (Calls Try.prog 20 #[.agg #[.string (txt a.name), .string (txt a.key), .int .i64 a.kind, .int .u64 (a.num : Int), .string (txt a.text), .slice A f.len c, .int .i64 2, .slice B l.length m, .string (txt p.name), .string (txt p.key), .int .i64 p.kind, .int .u64 (p.num : Int), .string (txt p.text), .slice P pf.len pc, .string (txt o.name), .string (txt o.key), .int .i64 o.kind, .int .u64 (o.num : Int), .string (txt o.text), .slice O og.len oc]] W (Ans9 (.func (.func 29) #[.agg #[.string (txt a.name), .string (txt a.key), .int .i64 a.kind, .int .u64 (a.num : Int), .string (txt a.text), .slice A f.len c, .int .i64 2, .slice B l.length m, .string (txt p.name), .string (txt p.key), .int .i64 p.kind, .int .u64 (p.num : Int), .string (txt p.text), .slice P pf.len pc, .string (txt o.name), .string (txt o.key), .int .i64 o.kind, .int .u64 (o.num : Int), .string (txt o.text), .slice O og.len oc]] #[]) W)) := fun W _ => hHd (pkind_two a p o f pf og A P O B c pc oc m l W)
 rw [← hs]
 clear hs
 have hEQ : ∀ W, (binOp .eql 49 (.func (.func 29) #[.agg #[.string (txt a.name), .string (txt a.key), .int .i64 a.kind, .int .u64 (a.num : Int), .string (txt a.text), .slice A f.len c, .int .i64 2, .slice B l.length m, .string (txt p.name), .string (txt p.key), .int .i64 p.kind, .int .u64 (p.num : Int), .string (txt p.text), .slice P pf.len pc, .string (txt o.name), .string (txt o.key), .int .i64 o.kind, .int .u64 (o.num : Int), .string (txt o.text), .slice O og.len oc]] #[]) .nilFunc).run Try.prog W = .ok (.bool false) W := fun W => rfl
 clear hx hv hp ho hf hpf hog hl hr
 go_enter Try.func10, Try.ntmps10
 go_upto_region 1 with (fail)
 revert HB0 HN0 HE0 HZ0
 generalize (((w.alloc (.cells (cN a (.slice A f.len c)) 27)).alloc (.cells #[.int .i64 2, .slice B l.length m, .string (txt p.name), .string (txt p.key), .int .i64 p.kind, .int .u64 (p.num : Int), .string (txt p.text), .slice P pf.len pc, .string (txt o.name), .string (txt o.key), .int .i64 o.kind, .int .u64 (o.num : Int), .string (txt o.text), .slice O og.len oc] 37)).alloc (.cells #[.string ⟨#[]⟩, .string ⟨#[]⟩, .int .i64 0, .int .u64 0, .string ⟨#[]⟩, .slice none 0 0] 27)) = w0
 intro HB0 HN0 HE0 HZ0
 go_wp2_with (first | (refine wpList_load_row rfl 27 (.tmp 2) rfl w.heap.size (by rfl) 27 _ (0, 0) _ HN0.out Try.underlying27 rfl (by kernel_rfl) ?_) | (refine wpList_load_row rfl 37 (.tmp 3) rfl (w.heap.size + 1) (by rfl) 37 _ (0, 0) _ HE0.out Try.underlying37 rfl (by kernel_rfl) ?_))
 refine (HK w0 HB0.out).out.mono ?_
 rintro r w1 ⟨rfl, hb⟩
 have HZ1 := hHd (HZ0.out.below hb HZ0.out.lt)
 have HB1 := hHd (HB0.out.trans (hb.mono HB0.out.size))
 clear hb HN0 HE0
 go_wp2_with fail
 refine (HC _ HB1.out).out.mono ?_
 intro r w2 hr
 obtain ⟨A9, c9, rfl, hl9, hb⟩ := hr.flat
 have HL := hHd hl9
 have HS0 := hHd HZ1.out.lt
 have HS1 := hHd HB1.out.size
 have HZ2 := hHd (HZ1.out.below hb HZ1.out.lt)
 have HB2 := hHd (HB1.out.trans (hb.mono HB1.out.size))
 clear hb hr hl9
 have fz0 : (w2).frozen? ⟨w.heap.size + 1 + 1, 0, none⟩ = false := HZ2.out.frozen 0
 have fq0 := (HZ2.out.cell 0).trans rfl
 have fz1 : (w2).frozen? ⟨w.heap.size + 1 + 1, 1, none⟩ = false := HZ2.out.frozen 1
 have fq1 := (HZ2.out.cell 1).trans rfl
 have fz2 : (w2).frozen? ⟨w.heap.size + 1 + 1, 2, none⟩ = false := HZ2.out.frozen 2
 have fq2 := (HZ2.out.cell 2).trans rfl
 have fz3 : (w2).frozen? ⟨w.heap.size + 1 + 1, 3, none⟩ = false := HZ2.out.frozen 3
 have fq3 := (HZ2.out.cell 3).trans rfl
 have fz4 : (w2).frozen? ⟨w.heap.size + 1 + 1, 4, none⟩ = false := HZ2.out.frozen 4
 have fq4 := (HZ2.out.cell 4).trans rfl
 have fz5 : (w2).frozen? ⟨w.heap.size + 1 + 1, 5, none⟩ = false := HZ2.out.frozen 5
 have fq5 := (HZ2.out.cell 5).trans rfl
 have RZ : Hid (Blk (set6 w2 (w.heap.size + 1 + 1) (.string (txt ra.name)) (.string (txt ra.key)) (.int .i64 ra.kind) (.int .u64 (ra.num : Int)) (.string (txt ra.text)) (.slice A9 rf.len c9)) (w.heap.size + 1 + 1) 27 (cN ra (.slice A9 rf.len c9))) := hHd (HZ2.out.set6 _ _ _ _ _ _)
 have RB : Hid (Below w.heap.size w (set6 w2 (w.heap.size + 1 + 1) (.string (txt ra.name)) (.string (txt ra.key)) (.int .i64 ra.kind) (.int .u64 (ra.num : Int)) (.string (txt ra.text)) (.slice A9 rf.len c9))) := hHd (HB2.out.trans (set6_below (by omega)))
 have RL : Hid (LieP 0 w.heap.size (set6 w2 (w.heap.size + 1 + 1) (.string (txt ra.name)) (.string (txt ra.key)) (.int .i64 ra.kind) (.int .u64 (ra.num : Int)) (.string (txt ra.text)) (.slice A9 rf.len c9)) (ndC ra (.slice A9 rf.len c9)) (ra, rf)) := hHd ((HL.out.set6 (Nat.zero_le _) HS0.out _ _ _ _ _ _).after HS1.out)
 go_wp2_with fail
 refine bodyPost_ret (res_ct9 rfl _ _ (w.heap.size + 1 + 1) 27 _ (0, 0) _ rfl RZ.out Try.underlying27 rfl (by kernel_rfl)) rfl ?_
 exact ⟨_, rfl, RL.out, RB.out⟩
theorem pone_three (a p o : NdD) (f pf og : NdF) (A P O B : Option Addr) (c pc oc m : Nat) (l : List Stp) (w : World) (hx : LieN w (ndC a (.slice A f.len c)) (a, f)) (hv : WayV w.heap.size w (.slice B l.length m) l) (hp : LieN w (ndC p (.slice P pf.len pc)) (p, pf)) (ho : LieN w (ndC o (.slice O og.len oc)) (o, og)) (hf : f.size ≤ 1000000) (hpf : pf.size ≤ 1000000) (hog : og.size ≤ 1000000) (hl : l.length ≤ 1000000) (hr : rgtX (a, f) = true) :
  Calls Try.prog 10 #[.agg (cN a (.slice A f.len c)), .agg #[.int .i64 3, .slice B l.length m, .string (txt p.name), .string (txt p.key), .int .i64 p.kind, .int .u64 (p.num : Int), .string (txt p.text), .slice P pf.len pc, .string (txt o.name), .string (txt o.key), .int .i64 o.kind, .int .u64 (o.num : Int), .string (txt o.text), .slice O og.len oc]] w (PTreP 0 (oneX (a, f) ⟨3, l, (p, pf), (o, og)⟩).1 (.int .i64 ((oneX (a, f) ⟨3, l, (p, pf), (o, og)⟩).2 : Int)) w) := by
 have HB0 : Hid (Below w.heap.size w (((w.alloc (.cells (cN a (.slice A f.len c)) 27)).alloc (.cells #[.int .i64 3, .slice B l.length m, .string (txt p.name), .string (txt p.key), .int .i64 p.kind, .int .u64 (p.num : Int), .string (txt p.text), .slice P pf.len pc, .string (txt o.name), .string (txt o.key), .int .i64 o.kind, .int .u64 (o.num : Int), .string (txt o.text), .slice O og.len oc] 37)).alloc (.cells #[.string ⟨#[]⟩, .string ⟨#[]⟩, .int .i64 0, .int .u64 0, .string ⟨#[]⟩, .slice none 0 0] 27))) := hHd ((bAl.alloc (by simp) _).alloc (by simp; omega) _)
 have HN0 : Hid (Blk (((w.alloc (.cells (cN a (.slice A f.len c)) 27)).alloc (.cells #[.int .i64 3, .slice B l.length m, .string (txt p.name), .string (txt p.key), .int .i64 p.kind, .int .u64 (p.num : Int), .string (txt p.text), .slice P pf.len pc, .string (txt o.name), .string (txt o.key), .int .i64 o.kind, .int .u64 (o.num : Int), .string (txt o.text), .slice O og.len oc] 37)).alloc (.cells #[.string ⟨#[]⟩, .string ⟨#[]⟩, .int .i64 0, .int .u64 0, .string ⟨#[]⟩, .slice none 0 0] 27)) w.heap.size 27 (cN a (.slice A f.len c))) := hHd (((Blk.new _ _ _).alloc _).alloc _)
 have HE0 : Hid (Blk (((w.alloc (.cells (cN a (.slice A f.len c)) 27)).alloc (.cells #[.int .i64 3, .slice B l.length m, .string (txt p.name), .string (txt p.key), .int .i64 p.kind, .int .u64 (p.num : Int), .string (txt p.text), .slice P pf.len pc, .string (txt o.name), .string (txt o.key), .int .i64 o.kind, .int .u64 (o.num : Int), .string (txt o.text), .slice O og.len oc] 37)).alloc (.cells #[.string ⟨#[]⟩, .string ⟨#[]⟩, .int .i64 0, .int .u64 0, .string ⟨#[]⟩, .slice none 0 0] 27)) (w.heap.size + 1) 37 #[.int .i64 3, .slice B l.length m, .string (txt p.name), .string (txt p.key), .int .i64 p.kind, .int .u64 (p.num : Int), .string (txt p.text), .slice P pf.len pc, .string (txt o.name), .string (txt o.key), .int .i64 o.kind, .int .u64 (o.num : Int), .string (txt o.text), .slice O og.len oc]) := hHd ((Blk.new_atP (by simp) _ _).alloc _)
 have HZ0 : Hid (Blk (((w.alloc (.cells (cN a (.slice A f.len c)) 27)).alloc (.cells #[.int .i64 3, .slice B l.length m, .string (txt p.name), .string (txt p.key), .int .i64 p.kind, .int .u64 (p.num : Int), .string (txt p.text), .slice P pf.len pc, .string (txt o.name), .string (txt o.key), .int .i64 o.kind, .int .u64 (o.num : Int), .string (txt o.text), .slice O og.len oc] 37)).alloc (.cells #[.string ⟨#[]⟩, .string ⟨#[]⟩, .int .i64 0, .int .u64 0, .string ⟨#[]⟩, .slice none 0 0] 27)) (w.heap.size + 1 + 1) 27 #[.string ⟨#[]⟩, .string ⟨#[]⟩, .int .i64 0, .int .u64 0, .string ⟨#[]⟩, .slice none 0 0]) := hHd (Blk.new_atP (by simp) _ _)
 obtain ⟨⟨⟨ra, rf⟩, re⟩, hs⟩ : ∃ y, y = oneX (a, f) ⟨3, l, (p, pf), (o, og)⟩ := ⟨_, rfl⟩
 have HC : ∀ W, Below w.heap.size w W → Hid (Calls Try.prog 30 #[.agg #[.string (txt a.name), .string (txt a.key), .int .i64 a.kind, .int .u64 (a.num : Int), .string (txt a.text), .slice A f.len c, .int .i64 3, .slice B l.length m, .string (txt p.name), .string (txt p.key), .int .i64 p.kind, .int .u64 (p.num : Int), .string (txt p.text), .slice P pf.len pc, .string (txt o.name), .string (txt o.key), .int .i64 o.kind, .int .u64 (o.num : Int), .string (txt o.text), .slice O og.len oc]] W (PTreP 0 (ra, rf) (.int .i64 (re : Int)) W)) := fun W hW => hHd (by have h := preplace_any a p o f pf og A P O B c pc oc m l W (hx.below hW) (hv.below hW) (hp.below hW) (ho.below hW) hf hpf hog hl hr; rw [← hs] at h; exact h)
 have HK : ∀ W, Below w.heap.size w W → Hid (Calls Try.prog 20 #[.agg #[.string (txt a.name), .string (txt a.key), .int .i64 a.kind, .int .u64 (a.num : Int), .string (txt a.text), .slice A f.len c, .int .i64 3, .slice B l.length m, .string (txt p.name), .string (txt p.key), .int .i64 p.kind, .int .u64 (p.num : Int), .string (txt p.text), .slice P pf.len pc, .string (txt o.name), .string (txt o.key), .int .i64 o.kind, .int .u64 (o.num : Int), .string (txt o.text), .slice O og.len oc]] W (Ans9 (.func (.func 30) #[.agg #[.string (txt a.name), .string (txt a.key), .int .i64 a.kind, .int .u64 (a.num : Int), .string (txt a.text), .slice A f.len c, .int .i64 3, .slice B l.length m, .string (txt p.name), .string (txt p.key), .int .i64 p.kind, .int .u64 (p.num : Int), .string (txt p.text), .slice P pf.len pc, .string (txt o.name), .string (txt o.key), .int .i64 o.kind, .int .u64 (o.num : Int), .string (txt o.text), .slice O og.len oc]] #[]) W)) := fun W _ => hHd (pkind_three a p o f pf og A P O B c pc oc m l W)
 rw [← hs]
 clear hs
 have hEQ : ∀ W, (binOp .eql 49 (.func (.func 30) #[.agg #[.string (txt a.name), .string (txt a.key), .int .i64 a.kind, .int .u64 (a.num : Int), .string (txt a.text), .slice A f.len c, .int .i64 3, .slice B l.length m, .string (txt p.name), .string (txt p.key), .int .i64 p.kind, .int .u64 (p.num : Int), .string (txt p.text), .slice P pf.len pc, .string (txt o.name), .string (txt o.key), .int .i64 o.kind, .int .u64 (o.num : Int), .string (txt o.text), .slice O og.len oc]] #[]) .nilFunc).run Try.prog W = .ok (.bool false) W := fun W => rfl
 clear hx hv hp ho hf hpf hog hl hr
 go_enter Try.func10, Try.ntmps10
 go_upto_region 1 with (fail)
 revert HB0 HN0 HE0 HZ0
 generalize (((w.alloc (.cells (cN a (.slice A f.len c)) 27)).alloc (.cells #[.int .i64 3, .slice B l.length m, .string (txt p.name), .string (txt p.key), .int .i64 p.kind, .int .u64 (p.num : Int), .string (txt p.text), .slice P pf.len pc, .string (txt o.name), .string (txt o.key), .int .i64 o.kind, .int .u64 (o.num : Int), .string (txt o.text), .slice O og.len oc] 37)).alloc (.cells #[.string ⟨#[]⟩, .string ⟨#[]⟩, .int .i64 0, .int .u64 0, .string ⟨#[]⟩, .slice none 0 0] 27)) = w0
 intro HB0 HN0 HE0 HZ0
 go_wp2_with (first | (refine wpList_load_row rfl 27 (.tmp 2) rfl w.heap.size (by rfl) 27 _ (0, 0) _ HN0.out Try.underlying27 rfl (by kernel_rfl) ?_) | (refine wpList_load_row rfl 37 (.tmp 3) rfl (w.heap.size + 1) (by rfl) 37 _ (0, 0) _ HE0.out Try.underlying37 rfl (by kernel_rfl) ?_))
 refine (HK w0 HB0.out).out.mono ?_
 rintro r w1 ⟨rfl, hb⟩
 have HZ1 := hHd (HZ0.out.below hb HZ0.out.lt)
 have HB1 := hHd (HB0.out.trans (hb.mono HB0.out.size))
 clear hb HN0 HE0
 go_wp2_with fail
 refine (HC _ HB1.out).out.mono ?_
 intro r w2 hr
 obtain ⟨A9, c9, rfl, hl9, hb⟩ := hr.flat
 have HL := hHd hl9
 have HS0 := hHd HZ1.out.lt
 have HS1 := hHd HB1.out.size
 have HZ2 := hHd (HZ1.out.below hb HZ1.out.lt)
 have HB2 := hHd (HB1.out.trans (hb.mono HB1.out.size))
 clear hb hr hl9
 have fz0 : (w2).frozen? ⟨w.heap.size + 1 + 1, 0, none⟩ = false := HZ2.out.frozen 0
 have fq0 := (HZ2.out.cell 0).trans rfl
 have fz1 : (w2).frozen? ⟨w.heap.size + 1 + 1, 1, none⟩ = false := HZ2.out.frozen 1
 have fq1 := (HZ2.out.cell 1).trans rfl
 have fz2 : (w2).frozen? ⟨w.heap.size + 1 + 1, 2, none⟩ = false := HZ2.out.frozen 2
 have fq2 := (HZ2.out.cell 2).trans rfl
 have fz3 : (w2).frozen? ⟨w.heap.size + 1 + 1, 3, none⟩ = false := HZ2.out.frozen 3
 have fq3 := (HZ2.out.cell 3).trans rfl
 have fz4 : (w2).frozen? ⟨w.heap.size + 1 + 1, 4, none⟩ = false := HZ2.out.frozen 4
 have fq4 := (HZ2.out.cell 4).trans rfl
 have fz5 : (w2).frozen? ⟨w.heap.size + 1 + 1, 5, none⟩ = false := HZ2.out.frozen 5
 have fq5 := (HZ2.out.cell 5).trans rfl
 have RZ : Hid (Blk (set6 w2 (w.heap.size + 1 + 1) (.string (txt ra.name)) (.string (txt ra.key)) (.int .i64 ra.kind) (.int .u64 (ra.num : Int)) (.string (txt ra.text)) (.slice A9 rf.len c9)) (w.heap.size + 1 + 1) 27 (cN ra (.slice A9 rf.len c9))) := hHd (HZ2.out.set6 _ _ _ _ _ _)
 have RB : Hid (Below w.heap.size w (set6 w2 (w.heap.size + 1 + 1) (.string (txt ra.name)) (.string (txt ra.key)) (.int .i64 ra.kind) (.int .u64 (ra.num : Int)) (.string (txt ra.text)) (.slice A9 rf.len c9))) := hHd (HB2.out.trans (set6_below (by omega)))
 have RL : Hid (LieP 0 w.heap.size (set6 w2 (w.heap.size + 1 + 1) (.string (txt ra.name)) (.string (txt ra.key)) (.int .i64 ra.kind) (.int .u64 (ra.num : Int)) (.string (txt ra.text)) (.slice A9 rf.len c9)) (ndC ra (.slice A9 rf.len c9)) (ra, rf)) := hHd ((HL.out.set6 (Nat.zero_le _) HS0.out _ _ _ _ _ _).after HS1.out)
 go_wp2_with fail
 refine bodyPost_ret (res_ct9 rfl _ _ (w.heap.size + 1 + 1) 27 _ (0, 0) _ rfl RZ.out Try.underlying27 rfl (by kernel_rfl)) rfl ?_
 exact ⟨_, rfl, RL.out, RB.out⟩
theorem pone_none (a p o : NdD) (f pf og : NdF) (A P O B : Option Addr) (c pc oc m : Nat) (l : List Stp) (w : World) (hx : LieN w (ndC a (.slice A f.len c)) (a, f)) (hv : WayV w.heap.size w (.slice B l.length m) l) (hp : LieN w (ndC p (.slice P pf.len pc)) (p, pf)) (ho : LieN w (ndC o (.slice O og.len oc)) (o, og)) (hf : f.size ≤ 1000000) (hpf : pf.size ≤ 1000000) (hog : og.size ≤ 1000000) (hl : l.length ≤ 1000000) (hr : rgtX (a, f) = true) (k : Int) (h1 : k ≠ 1) (h2 : k ≠ 2) (h3 : k ≠ 3) :
  Calls Try.prog 10 #[.agg (cN a (.slice A f.len c)), .agg #[.int .i64 k, .slice B l.length m, .string (txt p.name), .string (txt p.key), .int .i64 p.kind, .int .u64 (p.num : Int), .string (txt p.text), .slice P pf.len pc, .string (txt o.name), .string (txt o.key), .int .i64 o.kind, .int .u64 (o.num : Int), .string (txt o.text), .slice O og.len oc]] w (PTreP 0 (oneX (a, f) ⟨k, l, (p, pf), (o, og)⟩).1 (.int .i64 ((oneX (a, f) ⟨k, l, (p, pf), (o, og)⟩).2 : Int)) w) := by
 have HB0 : Hid (Below w.heap.size w (((w.alloc (.cells (cN a (.slice A f.len c)) 27)).alloc (.cells #[.int .i64 k, .slice B l.length m, .string (txt p.name), .string (txt p.key), .int .i64 p.kind, .int .u64 (p.num : Int), .string (txt p.text), .slice P pf.len pc, .string (txt o.name), .string (txt o.key), .int .i64 o.kind, .int .u64 (o.num : Int), .string (txt o.text), .slice O og.len oc] 37)).alloc (.cells #[.string ⟨#[]⟩, .string ⟨#[]⟩, .int .i64 0, .int .u64 0, .string ⟨#[]⟩, .slice none 0 0] 27))) := hHd ((bAl.alloc (by simp) _).alloc (by simp; omega) _)
 have HN0 : Hid (Blk (((w.alloc (.cells (cN a (.slice A f.len c)) 27)).alloc (.cells #[.int .i64 k, .slice B l.length m, .string (txt p.name), .string (txt p.key), .int .i64 p.kind, .int .u64 (p.num : Int), .string (txt p.text), .slice P pf.len pc, .string (txt o.name), .string (txt o.key), .int .i64 o.kind, .int .u64 (o.num : Int), .string (txt o.text), .slice O og.len oc] 37)).alloc (.cells #[.string ⟨#[]⟩, .string ⟨#[]⟩, .int .i64 0, .int .u64 0, .string ⟨#[]⟩, .slice none 0 0] 27)) w.heap.size 27 (cN a (.slice A f.len c))) := hHd (((Blk.new _ _ _).alloc _).alloc _)
 have HE0 : Hid (Blk (((w.alloc (.cells (cN a (.slice A f.len c)) 27)).alloc (.cells #[.int .i64 k, .slice B l.length m, .string (txt p.name), .string (txt p.key), .int .i64 p.kind, .int .u64 (p.num : Int), .string (txt p.text), .slice P pf.len pc, .string (txt o.name), .string (txt o.key), .int .i64 o.kind, .int .u64 (o.num : Int), .string (txt o.text), .slice O og.len oc] 37)).alloc (.cells #[.string ⟨#[]⟩, .string ⟨#[]⟩, .int .i64 0, .int .u64 0, .string ⟨#[]⟩, .slice none 0 0] 27)) (w.heap.size + 1) 37 #[.int .i64 k, .slice B l.length m, .string (txt p.name), .string (txt p.key), .int .i64 p.kind, .int .u64 (p.num : Int), .string (txt p.text), .slice P pf.len pc, .string (txt o.name), .string (txt o.key), .int .i64 o.kind, .int .u64 (o.num : Int), .string (txt o.text), .slice O og.len oc]) := hHd ((Blk.new_atP (by simp) _ _).alloc _)
 have HZ0 : Hid (Blk (((w.alloc (.cells (cN a (.slice A f.len c)) 27)).alloc (.cells #[.int .i64 k, .slice B l.length m, .string (txt p.name), .string (txt p.key), .int .i64 p.kind, .int .u64 (p.num : Int), .string (txt p.text), .slice P pf.len pc, .string (txt o.name), .string (txt o.key), .int .i64 o.kind, .int .u64 (o.num : Int), .string (txt o.text), .slice O og.len oc] 37)).alloc (.cells #[.string ⟨#[]⟩, .string ⟨#[]⟩, .int .i64 0, .int .u64 0, .string ⟨#[]⟩, .slice none 0 0] 27)) (w.heap.size + 1 + 1) 27 #[.string ⟨#[]⟩, .string ⟨#[]⟩, .int .i64 0, .int .u64 0, .string ⟨#[]⟩, .slice none 0 0]) := hHd (Blk.new_atP (by simp) _ _)
 have hres : oneX (a, f) ⟨k, l, (p, pf), (o, og)⟩ = (noN, 1) := by
  unfold oneX
  rw [if_pos (.inl ⟨h1, h2, h3⟩)]
 rw [hres]
 clear hres
 have HK : ∀ W, Below w.heap.size w W → Hid (Calls Try.prog 20 #[.agg #[.string (txt a.name), .string (txt a.key), .int .i64 a.kind, .int .u64 (a.num : Int), .string (txt a.text), .slice A f.len c, .int .i64 k, .slice B l.length m, .string (txt p.name), .string (txt p.key), .int .i64 p.kind, .int .u64 (p.num : Int), .string (txt p.text), .slice P pf.len pc, .string (txt o.name), .string (txt o.key), .int .i64 o.kind, .int .u64 (o.num : Int), .string (txt o.text), .slice O og.len oc]] W (Ans9 .nilFunc W)) := fun W _ => hHd (pkind_none a p o f pf og A P O B c pc oc m l W k h1 h2 h3)
 clear h1 h2 h3
 have hEQ : ∀ W, (binOp .eql 49 .nilFunc .nilFunc).run Try.prog W = .ok (.bool true) W := fun W => rfl
 clear hx hv hp ho hf hpf hog hl hr
 go_enter Try.func10, Try.ntmps10
 go_upto_region 1 with (fail)
 revert HB0 HN0 HE0 HZ0
 generalize (((w.alloc (.cells (cN a (.slice A f.len c)) 27)).alloc (.cells #[.int .i64 k, .slice B l.length m, .string (txt p.name), .string (txt p.key), .int .i64 p.kind, .int .u64 (p.num : Int), .string (txt p.text), .slice P pf.len pc, .string (txt o.name), .string (txt o.key), .int .i64 o.kind, .int .u64 (o.num : Int), .string (txt o.text), .slice O og.len oc] 37)).alloc (.cells #[.string ⟨#[]⟩, .string ⟨#[]⟩, .int .i64 0, .int .u64 0, .string ⟨#[]⟩, .slice none 0 0] 27)) = w0
 intro HB0 HN0 HE0 HZ0
 go_wp2_with (first | (refine wpList_load_row rfl 27 (.tmp 2) rfl w.heap.size (by rfl) 27 _ (0, 0) _ HN0.out Try.underlying27 rfl (by kernel_rfl) ?_) | (refine wpList_load_row rfl 37 (.tmp 3) rfl (w.heap.size + 1) (by rfl) 37 _ (0, 0) _ HE0.out Try.underlying37 rfl (by kernel_rfl) ?_))
 refine (HK w0 HB0.out).out.mono ?_
 rintro r w1 ⟨rfl, hb⟩
 have HZ1 := hHd (HZ0.out.below hb HZ0.out.lt)
 have HB1 := hHd (HB0.out.trans (hb.mono HB0.out.size))
 clear hb HN0 HE0
 have fz0 : (w1).frozen? ⟨w.heap.size + 1 + 1, 0, none⟩ = false := HZ1.out.frozen 0
 have fq0 := (HZ1.out.cell 0).trans rfl
 have fz1 : (w1).frozen? ⟨w.heap.size + 1 + 1, 1, none⟩ = false := HZ1.out.frozen 1
 have fq1 := (HZ1.out.cell 1).trans rfl
 have fz2 : (w1).frozen? ⟨w.heap.size + 1 + 1, 2, none⟩ = false := HZ1.out.frozen 2
 have fq2 := (HZ1.out.cell 2).trans rfl
 have fz3 : (w1).frozen? ⟨w.heap.size + 1 + 1, 3, none⟩ = false := HZ1.out.frozen 3
 have fq3 := (HZ1.out.cell 3).trans rfl
 have fz4 : (w1).frozen? ⟨w.heap.size + 1 + 1, 4, none⟩ = false := HZ1.out.frozen 4
 have fq4 := (HZ1.out.cell 4).trans rfl
 have fz5 : (w1).frozen? ⟨w.heap.size + 1 + 1, 5, none⟩ = false := HZ1.out.frozen 5
 have fq5 := (HZ1.out.cell 5).trans rfl
 have RZ : Hid (Blk (set6 w1 (w.heap.size + 1 + 1) (.string ⟨#[]⟩) (.string ⟨#[]⟩) (.int .i64 0) (.int .u64 0) (.string ⟨#[]⟩) (.slice none 0 0)) (w.heap.size + 1 + 1) 27 #[.string ⟨#[]⟩, .string ⟨#[]⟩, .int .i64 0, .int .u64 0, .string ⟨#[]⟩, .slice none 0 0]) := hHd (HZ1.out.set6 _ _ _ _ _ _)
 have RB : Hid (Below w.heap.size w (set6 w1 (w.heap.size + 1 + 1) (.string ⟨#[]⟩) (.string ⟨#[]⟩) (.int .i64 0) (.int .u64 0) (.string ⟨#[]⟩) (.slice none 0 0))) := hHd (HB1.out.trans (set6_below (by omega)))
 go_wp2_with fail
 refine bodyPost_ret (res_ct9 rfl _ _ (w.heap.size + 1 + 1) 27 _ (0, 0) _ rfl RZ.out Try.underlying27 rfl (by kernel_rfl)) rfl ?_
 exact ⟨_, rfl, (LieB.zero _ _).p _, RB.out⟩
theorem pone_any (n : Nd) (e : EdD) (cs ds : List Value) (w : World) (hx : LieN w cs n) (he : EdS (Bel w) w ds e) (hf : n.2.size ≤ 1000000) (hF : FewO e) (hr : rgtX n = true) :
  Calls Try.prog 10 #[.agg cs.toArray, .agg ds.toArray] w (PTreP 0 (oneX n e).1 (.int .i64 ((oneX n e).2 : Int)) w) := by
 obtain ⟨a, f⟩ := n
 obtain ⟨k, l, ⟨p, pf⟩, ⟨o, og⟩⟩ := e
 obtain ⟨wv, nv, ov, rfl, h1, h2, h3⟩ := he
 obtain ⟨A, c, rfl, _⟩ := LieB.shape hx
 obtain ⟨B, m, rfl⟩ := h1.shape
 obtain ⟨P, pc, rfl⟩ := h2.shape
 obtain ⟨O, oc, rfl⟩ := h3.shape
 obtain ⟨f1, f2, f3⟩ := hF
 simp only at f1 f2 f3 h1 h2 h3 hf
 have hp : LieN w (ndC p (.slice P pf.len pc)) (p, pf) := LieB.make (a := p) (h2 : RowT w.heap.size w _ pf)
 have ho : LieN w (ndC o (.slice O og.len oc)) (o, og) := LieB.make (a := o) (h3 : RowT w.heap.size w _ og)
 by_cases e1 : k = 1
 ·subst e1; exact pone_one a p o f pf og A P O B c pc oc m l w hx h1 hp ho hf (by omega) (by omega) (by omega) hr
 by_cases e2 : k = 2
 ·subst e2; exact pone_two a p o f pf og A P O B c pc oc m l w hx h1 hp ho hf (by omega) (by omega) (by omega) hr
 by_cases e3 : k = 3
 ·subst e3; exact pone_three a p o f pf og A P O B c pc oc m l w hx h1 hp ho hf (by omega) (by omega) (by omega) hr
 exact pone_none a p o f pf og A P O B c pc oc m l w hx h1 hp ho hf (by omega) (by omega) (by omega) hr k e1 e2 e3
end
end Go.Proofs.Ythmobcaidhgeaaa
