/- PakNam PakIts -/
import Derived.Test.YtodlhgflfcadmaaGreatUM36
set_option linter.unusedSimpArgs false
set_option linter.unusedVariables false
set_option maxRecDepth 100000
set_option maxHeartbeats 8000000
namespace Go.Proofs.YtodlhgflfcadmaaGreat
open Go.RowKit
inductive Veil13 (P : Prop) : Prop where
 | mk (h : P) : Veil13 P
theorem Veil13.out {P : Prop} (h : Veil13 P) : P := by cases h; assumption
theorem blk_drew {w : World} {g : Nat} {t : TypeId} {cs : Array Value} (h : Blk w g t cs) : Blk w.drew g t cs := h
def NamP (cs : List Value) (t lb : Nat) (w : World) (r : Ending) (w' : World) : Prop := ∃ ib tb, r = .returned (.func (.func 44) #[] #[.pointer (some ⟨ib, 0, none⟩), .pointer (some ⟨lb, 0, none⟩), .pointer (some ⟨tb, 0, none⟩)]) ∧
 Blk w' ib 61 cs.toArray ∧ Blk w' tb 22 #[.int .u64 (t : Int)] ∧ w.heap.size ≤ ib ∧ w.heap.size ≤ tb ∧ Below w.heap.size w w'
theorem nam_end {w W : World} {ib tb t lb : Nat} {y0 y1 y2 y3 y4 y5 y6 y7 y8 u : Value} {x0 x1 x2 x3 x4 x5 x6 x7 x8 : Value} (h1 : Blk W ib 61 #[y0, y1, y2, y3, y4, y5, y6, y7, y8]) (h2 : Blk W tb 22 #[u]) (h3 : w.heap.size ≤ ib) (h4 : w.heap.size ≤ tb) (h5 : Below w.heap.size w W) :
  Blk (set9 W ib x0 x1 x2 x3 x4 x5 x6 x7 x8) tb 22 #[u] ∧ Below w.heap.size w (set9 W ib x0 x1 x2 x3 x4 x5 x6 x7 x8) ∧ Below w.heap.size w ((set9 W ib x0 x1 x2 x3 x4 x5 x6 x7 x8).setCell ⟨tb, 0, none⟩ (.int .u64 (t : Int))) ∧
  NamP [x0, x1, x2, x3, x4, x5, x6, x7, x8] t lb w (.returned (.func (.func 44) #[] #[.pointer (some ⟨ib, 0, none⟩), .pointer (some ⟨lb, 0, none⟩), .pointer (some ⟨tb, 0, none⟩)])) ((set9 W ib x0 x1 x2 x3 x4 x5 x6 x7 x8).setCell ⟨tb, 0, none⟩ (.int .u64 (t : Int))) := by
 have hne : ib ≠ tb := h1.ne_ h2 (by decide)
 have e1 : Blk (set9 W ib x0 x1 x2 x3 x4 x5 x6 x7 x8) tb 22 #[u] := (set9_other hne.symm).trans h2
 have e2 : Below w.heap.size w (set9 W ib x0 x1 x2 x3 x4 x5 x6 x7 x8) := h5.trans (set9_below h3)
 have e3 : Below w.heap.size w ((set9 W ib x0 x1 x2 x3 x4 x5 x6 x7 x8).setCell ⟨tb, 0, none⟩ (.int .u64 (t : Int))) := e2.setCell (p := ⟨tb, 0, none⟩) h4 _
 refine ⟨e1, e2, e3, ib, tb, rfl, (h1.set9 x0 x1 x2 x3 x4 x5 x6 x7 x8).far (p := ⟨tb, 0, none⟩) hne _, ?_, h3, h4, e3⟩
 have h := e1.set_ 0 (.int .u64 (t : Int))
 simpa using h
theorem named13_any (sb lb i t b g o cr : Nat) (nm : List UInt8) (kd ty lo hi : Nat) (ns : List (List UInt8)) (mu : Bool) (mo : Nat) (B : Option Addr) (m : Nat) (A : Option Addr) (qn c : Nat) (nm' : List UInt8) (kd' ty' lo' hi' : Nat) (ns' : List (List UInt8)) (mu' : Bool) (mo' : Nat) (B' : Option Addr) (m' : Nat) (A' : Option Addr) (q' : SpF) (c'' : Nat) (w : World)
  (hsb : Blk w sb 61 (cT nm kd ty lo hi ns mu mo B m A qn c)) (hA : A = some ⟨g, o, none⟩) (hg : g < w.heap.size) (hi1 : i < qn) (hqc : qn ≤ c)
  (hcl : ∀ j u, (cT nm' kd' ty' lo' hi' ns' mu' mo' B' m' A' q'.len c'').toList[j]? = some u → w.cell? ⟨g, o + i * 9 + j, none⟩ = some u)
  (hT : ∀ W, Below w.heap.size w W → Calls Tryz.prog 43 #[.agg (cT nm kd ty lo hi ns mu mo B m A qn c), .int .i64 (i : Int)] W (AnsP (.int .u64 (t : Int)) W)) :
  Calls Tryz.prog 42 #[.int .i64 (i : Int), .pointer (some ⟨sb, 0, none⟩), .pointer (some ⟨lb, 0, none⟩)] w (NamP (cT nm' kd' ty' lo' hi' ns' mu' mo' B' m' A' q'.len c'').toList t lb w) := by
 subst hA
 have hmf : ∀ (fn : Fn) (first cap : Array Value) (w : World), (Instr.makeFunc fn first cap).run Tryz.prog w = .ok (.func fn first cap) w := fun _ _ _ _ => rfl
 have HSB := hHd (And.intro hsb hsb.lt)
 have HT := hHd hT
 have HCL : Hid (∀ W, Below w.heap.size w W → ∀ j u, (cT nm' kd' ty' lo' hi' ns' mu' mo' B' m' A' q'.len c'').toList[j]? = some u → W.cell? ⟨g, o + i * 9 + j, none⟩ = some u) := hHd (fun W hW j u hu => (hW.cell (p := ⟨g, o + i * 9 + j, none⟩) hg).trans (hcl j u hu))
 have i1 : (0 : Int) ≤ (i : Int) := by omega
 have i2 : (i : Int) < (qn : Int) := by omega
 clear hsb hT hcl hg hi1
 go_enter Tryz.func42, Tryz.ntmps42
 go_wp2_with fail
 refine wp_region_noPanic ?_
 refine wp_region_held_drew (S := fun _ => True) (by kernel_rfl) trivial (fun hS => ?_)
 refine held_more (S' := fun w' => Below w.heap.size w w') (fun _ _ => trivial) _ _ _ _ ?_
 replace hS := (Below.refl w.heap.size w).drew
 refine tkH 0 hS ?_
 refine tkH 1 hS ?_ (hy := fun w hSw => by have y8 := ((HSB.out.1.below hSw HSB.out.2).cell 8).trans rfl; (go_simp <;> with_reducible rfl))
 refine tkH 2 hS ?_
 refine tkH 3 hS ?_
 refine tkH 4 hS ?_ (hy := fun w hSw => by have x0 : w.cell? ⟨g, o + i * 9, none⟩ = _ := HCL.out _ hSw 0 _ rfl; have x1 := HCL.out _ hSw 1 _ rfl; have x2 := HCL.out _ hSw 2 _ rfl; have x3 := HCL.out _ hSw 3 _ rfl; have x4 := HCL.out _ hSw 4 _ rfl; have x5 := HCL.out _ hSw 5 _ rfl; have x6 := HCL.out _ hSw 6 _ rfl; have x7 := HCL.out _ hSw 7 _ rfl; have x8 := HCL.out _ hSw 8 _ rfl; (go_simp <;> with_reducible rfl))
 refine tkH 5 hS ?_ (hy := fun w hSw => by obtain ⟨y0, y1, y2, y3, y4, y5, y6, y7, y8⟩ := cl9 (HSB.out.1.below hSw HSB.out.2); (go_simp <;> with_reducible rfl))
 refine tkH 6 hS ?_
 refine rdy [7, 8, 9] (rdC (fun K hK => ?str_0) (rdC (fun K hK => ?str_1) (rdC (fun K hK => ?str_2) .nil)))
 case' str_0 =>
  go_simp
  refine (HT.out _ hS).mono ?_
  rintro r w7 ⟨rfl, hb⟩
  have HB7 := hHd (hS.trans (hb.mono hS.size))
  clear hb
  go_wp2_with fail
  refine hK.out _ _ ?sr_0 (fun hS => ?_)
  case sr_0 => (exact HB7.out)
  clear hK K
  (try simp only [Act.put, layS])
  refine rdy [8, 9] (rdC (fun K hK => ?str_3) (rdC (fun K hK => ?str_4) .nil))
  case' str_3 =>
   have HI : Hid (Blk ((w7).alloc (.cells (cS ⟨#[]⟩ 0 0 0 0 (.slice none 0 0) false 0 (.slice none 0 0)) 61)) (w7.heap.size) 61 (cS ⟨#[]⟩ 0 0 0 0 (.slice none 0 0) false 0 (.slice none 0 0))) := hHd (Blk.newA (by simp) _ _)
   have HIB : Hid (w.heap.size ≤ (w7.heap.size)) := hHd (by have := hS.size; simp at this ⊢; try omega)
   go_simp
   refine hK.out _ _ ?sr_3 (fun hS => ?_)
   case sr_3 => (exact hS.alloc hS.size _)
   clear hK K
   (try simp only [Act.put, layS])
   refine rdy1 9 fun K hK => ?_
   have HI := hHd (HI.out.alloc (.cells #[.int .u64 0] 22))
   have HT9 : Hid (Blk (((w7.alloc (.cells (cS ⟨#[]⟩ 0 0 0 0 (.slice none 0 0) false 0 (.slice none 0 0)) 61))).alloc (.cells #[.int .u64 0] 22)) (w7.heap.size + 1) 22 #[.int .u64 0]) := hHd (Blk.newA (by simp) _ _)
   have HTB : Hid (w.heap.size ≤ (w7.heap.size + 1)) := hHd (by have := hS.size; simp at this ⊢; try omega)
   go_simp
   refine hK.out _ _ ?sr_5 (fun hS => ?_)
   case sr_5 => (exact hS.alloc hS.size _)
   clear hK K
   (try simp only [Act.put, layS])
   refine rdy1 10 fun K hK => ?_
   have HE := Veil13.mk (nam_end (t := t) (lb := lb) (x0 := .string (txt nm')) (x1 := .int .i64 (kd' : Int)) (x2 := .int .i64 (ty' : Int)) (x3 := .int .u64 (lo' : Int)) (x4 := .int .u64 (hi' : Int)) (x5 := .slice B' ns'.length m') (x6 := .bool mu') (x7 := .int .i64 (mo' : Int)) (x8 := .slice A' q'.len c'') HI.out HT9.out HIB.out HTB.out (W := ((w7.alloc (.cells (cS ⟨#[]⟩ 0 0 0 0 (.slice none 0 0) false 0 (.slice none 0 0)) 61)).alloc (.cells #[.int .u64 0] 22))) hS)
   generalize ((w7.alloc (.cells (cS ⟨#[]⟩ 0 0 0 0 (.slice none 0 0) false 0 (.slice none 0 0)) 61)).alloc (.cells #[.int .u64 0] 22)) = V10 at HE HI HT9 hS ⊢
   have fz0 := HI.out.frozen 0
   have fq0 := (HI.out.cell 0).trans rfl
   have fz1 := HI.out.frozen 1
   have fq1 := (HI.out.cell 1).trans rfl
   have fz2 := HI.out.frozen 2
   have fq2 := (HI.out.cell 2).trans rfl
   have fz3 := HI.out.frozen 3
   have fq3 := (HI.out.cell 3).trans rfl
   have fz4 := HI.out.frozen 4
   have fq4 := (HI.out.cell 4).trans rfl
   have fz5 := HI.out.frozen 5
   have fq5 := (HI.out.cell 5).trans rfl
   have fz6 := HI.out.frozen 6
   have fq6 := (HI.out.cell 6).trans rfl
   have fz7 := HI.out.frozen 7
   have fq7 := (HI.out.cell 7).trans rfl
   have fz8 := HI.out.frozen 8
   have fq8 := (HI.out.cell 8).trans rfl
   go_simp
   refine hK.out _ _ ?sr_6 (fun hS => ?_)
   case sr_6 => (exact HE.out.2.1)
   clear hK K
   (try simp only [Act.put, layS])
   clear fz0 fq0 fz1 fq1 fz2 fq2 fz3 fq3 fz4 fq4 fz5 fq5 fz6 fq6 fz7 fq7 fz8 fq8
   refine rdy1 11 fun K hK => ?_
   have ht := HE.out.1
   unfold set9 at ht
   have tq := (ht.cell 0).trans rfl
   have tf := ht.frozen 0
   clear ht
   go_simp
   refine hK.out _ _ ?sr_7 (fun hS => ?_)
   case sr_7 => (exact HE.out.2.2.1)
   clear hK K
   (try simp only [Act.put, layS])
   clear tq tf
   refine wpAnyH_done (by kernel_rfl) ?_ _
   refine NoPanic.normal ?_
  case' str_4 =>
   have HT9 : Hid (Blk ((w7).alloc (.cells #[.int .u64 0] 22)) (w7.heap.size) 22 #[.int .u64 0]) := hHd (Blk.newA (by simp) _ _)
   have HTB : Hid (w.heap.size ≤ (w7.heap.size)) := hHd (by have := hS.size; simp at this ⊢; try omega)
   go_simp
   refine hK.out _ _ ?sr_4 (fun hS => ?_)
   case sr_4 => (exact hS.alloc hS.size _)
   clear hK K
   (try simp only [Act.put, layS])
   refine rdy1 8 fun K hK => ?_
   have HT9 := hHd (HT9.out.alloc (.cells (cS ⟨#[]⟩ 0 0 0 0 (.slice none 0 0) false 0 (.slice none 0 0)) 61))
   have HI : Hid (Blk (((w7.alloc (.cells #[.int .u64 0] 22))).alloc (.cells (cS ⟨#[]⟩ 0 0 0 0 (.slice none 0 0) false 0 (.slice none 0 0)) 61)) (w7.heap.size + 1) 61 (cS ⟨#[]⟩ 0 0 0 0 (.slice none 0 0) false 0 (.slice none 0 0))) := hHd (Blk.newA (by simp) _ _)
   have HIB : Hid (w.heap.size ≤ (w7.heap.size + 1)) := hHd (by have := hS.size; simp at this ⊢; try omega)
   go_simp
   refine hK.out _ _ ?sr_8 (fun hS => ?_)
   case sr_8 => (exact hS.alloc hS.size _)
   clear hK K
   (try simp only [Act.put, layS])
   refine rdy1 10 fun K hK => ?_
   have HE := Veil13.mk (nam_end (t := t) (lb := lb) (x0 := .string (txt nm')) (x1 := .int .i64 (kd' : Int)) (x2 := .int .i64 (ty' : Int)) (x3 := .int .u64 (lo' : Int)) (x4 := .int .u64 (hi' : Int)) (x5 := .slice B' ns'.length m') (x6 := .bool mu') (x7 := .int .i64 (mo' : Int)) (x8 := .slice A' q'.len c'') HI.out HT9.out HIB.out HTB.out (W := ((w7.alloc (.cells #[.int .u64 0] 22)).alloc (.cells (cS ⟨#[]⟩ 0 0 0 0 (.slice none 0 0) false 0 (.slice none 0 0)) 61))) hS)
   generalize ((w7.alloc (.cells #[.int .u64 0] 22)).alloc (.cells (cS ⟨#[]⟩ 0 0 0 0 (.slice none 0 0) false 0 (.slice none 0 0)) 61)) = V10 at HE HI HT9 hS ⊢
   have fz0 := HI.out.frozen 0
   have fq0 := (HI.out.cell 0).trans rfl
   have fz1 := HI.out.frozen 1
   have fq1 := (HI.out.cell 1).trans rfl
   have fz2 := HI.out.frozen 2
   have fq2 := (HI.out.cell 2).trans rfl
   have fz3 := HI.out.frozen 3
   have fq3 := (HI.out.cell 3).trans rfl
   have fz4 := HI.out.frozen 4
   have fq4 := (HI.out.cell 4).trans rfl
   have fz5 := HI.out.frozen 5
   have fq5 := (HI.out.cell 5).trans rfl
   have fz6 := HI.out.frozen 6
   have fq6 := (HI.out.cell 6).trans rfl
   have fz7 := HI.out.frozen 7
   have fq7 := (HI.out.cell 7).trans rfl
   have fz8 := HI.out.frozen 8
   have fq8 := (HI.out.cell 8).trans rfl
   go_simp
   refine hK.out _ _ ?sr_9 (fun hS => ?_)
   case sr_9 => (exact HE.out.2.1)
   clear hK K
   (try simp only [Act.put, layS])
   clear fz0 fq0 fz1 fq1 fz2 fq2 fz3 fq3 fz4 fq4 fz5 fq5 fz6 fq6 fz7 fq7 fz8 fq8
   refine rdy1 11 fun K hK => ?_
   have ht := HE.out.1
   unfold set9 at ht
   have tq := (ht.cell 0).trans rfl
   have tf := ht.frozen 0
   clear ht
   go_simp
   refine hK.out _ _ ?sr_a (fun hS => ?_)
   case sr_a => (exact HE.out.2.2.1)
   clear hK K
   (try simp only [Act.put, layS])
   clear tq tf
   refine wpAnyH_done (by kernel_rfl) ?_ _
   refine NoPanic.normal ?_
 case' str_1 =>
  have HI : Hid (Blk ((w).alloc (.cells (cS ⟨#[]⟩ 0 0 0 0 (.slice none 0 0) false 0 (.slice none 0 0)) 61)) (w.heap.size) 61 (cS ⟨#[]⟩ 0 0 0 0 (.slice none 0 0) false 0 (.slice none 0 0))) := hHd (Blk.newA (by simp) _ _)
  have HIB : Hid (w.heap.size ≤ (w.heap.size)) := hHd (by have := hS.size; simp at this ⊢; try omega)
  go_simp
  refine hK.out _ _ ?sr_1 (fun hS => ?_)
  case sr_1 => (exact hS.alloc hS.size _)
  clear hK K
  (try simp only [Act.put, layS])
  refine rdy [7, 9] (rdC (fun K hK => ?str_b) (rdC (fun K hK => ?str_c) .nil))
  case' str_b =>
   go_simp
   refine (HT.out _ hS).mono ?_
   rintro r w7 ⟨rfl, hb⟩
   have HB7 := hHd (hS.trans (hb.mono hS.size))
   have HI := hHd ((blk_drew HI.out).below hb HI.out.lt)
   clear hb
   go_wp2_with fail
   refine hK.out _ _ ?sr_b (fun hS => ?_)
   case sr_b => (exact HB7.out)
   clear hK K
   (try simp only [Act.put, layS])
   refine rdy1 9 fun K hK => ?_
   have HI := hHd (HI.out.alloc (.cells #[.int .u64 0] 22))
   have HT9 : Hid (Blk ((w7).alloc (.cells #[.int .u64 0] 22)) (w7.heap.size) 22 #[.int .u64 0]) := hHd (Blk.newA (by simp) _ _)
   have HTB : Hid (w.heap.size ≤ (w7.heap.size)) := hHd (by have := hS.size; simp at this ⊢; try omega)
   go_simp
   refine hK.out _ _ ?sr_d (fun hS => ?_)
   case sr_d => (exact hS.alloc hS.size _)
   clear hK K
   (try simp only [Act.put, layS])
   refine rdy1 10 fun K hK => ?_
   have HE := Veil13.mk (nam_end (t := t) (lb := lb) (x0 := .string (txt nm')) (x1 := .int .i64 (kd' : Int)) (x2 := .int .i64 (ty' : Int)) (x3 := .int .u64 (lo' : Int)) (x4 := .int .u64 (hi' : Int)) (x5 := .slice B' ns'.length m') (x6 := .bool mu') (x7 := .int .i64 (mo' : Int)) (x8 := .slice A' q'.len c'') HI.out HT9.out HIB.out HTB.out (W := (w7.alloc (.cells #[.int .u64 0] 22))) hS)
   generalize (w7.alloc (.cells #[.int .u64 0] 22)) = V10 at HE HI HT9 hS ⊢
   have fz0 := HI.out.frozen 0
   have fq0 := (HI.out.cell 0).trans rfl
   have fz1 := HI.out.frozen 1
   have fq1 := (HI.out.cell 1).trans rfl
   have fz2 := HI.out.frozen 2
   have fq2 := (HI.out.cell 2).trans rfl
   have fz3 := HI.out.frozen 3
   have fq3 := (HI.out.cell 3).trans rfl
   have fz4 := HI.out.frozen 4
   have fq4 := (HI.out.cell 4).trans rfl
   have fz5 := HI.out.frozen 5
   have fq5 := (HI.out.cell 5).trans rfl
   have fz6 := HI.out.frozen 6
   have fq6 := (HI.out.cell 6).trans rfl
   have fz7 := HI.out.frozen 7
   have fq7 := (HI.out.cell 7).trans rfl
   have fz8 := HI.out.frozen 8
   have fq8 := (HI.out.cell 8).trans rfl
   go_simp
   refine hK.out _ _ ?sr_e (fun hS => ?_)
   case sr_e => (exact HE.out.2.1)
   clear hK K
   (try simp only [Act.put, layS])
   clear fz0 fq0 fz1 fq1 fz2 fq2 fz3 fq3 fz4 fq4 fz5 fq5 fz6 fq6 fz7 fq7 fz8 fq8
   refine rdy1 11 fun K hK => ?_
   have ht := HE.out.1
   unfold set9 at ht
   have tq := (ht.cell 0).trans rfl
   have tf := ht.frozen 0
   clear ht
   go_simp
   refine hK.out _ _ ?sr_f (fun hS => ?_)
   case sr_f => (exact HE.out.2.2.1)
   clear hK K
   (try simp only [Act.put, layS])
   clear tq tf
   refine wpAnyH_done (by kernel_rfl) ?_ _
   refine NoPanic.normal ?_
  case' str_c =>
   have HI := hHd (HI.out.alloc (.cells #[.int .u64 0] 22))
   have HT9 : Hid (Blk (((w.alloc (.cells (cS ⟨#[]⟩ 0 0 0 0 (.slice none 0 0) false 0 (.slice none 0 0)) 61))).alloc (.cells #[.int .u64 0] 22)) (w.heap.size + 1) 22 #[.int .u64 0]) := hHd (Blk.newA (by simp) _ _)
   have HTB : Hid (w.heap.size ≤ (w.heap.size + 1)) := hHd (by have := hS.size; simp at this ⊢; try omega)
   go_simp
   refine hK.out _ _ ?sr_c (fun hS => ?_)
   case sr_c => (exact hS.alloc hS.size _)
   clear hK K
   (try simp only [Act.put, layS])
   refine rdy1 7 fun K hK => ?_
   go_simp
   refine (HT.out _ hS).mono ?_
   rintro r w7 ⟨rfl, hb⟩
   have HB7 := hHd (hS.trans (hb.mono hS.size))
   have HI := hHd ((blk_drew HI.out).below hb HI.out.lt)
   have HT9 := hHd ((blk_drew HT9.out).below hb HT9.out.lt)
   clear hb
   go_wp2_with fail
   refine hK.out _ _ ?sr_g (fun hS => ?_)
   case sr_g => (exact HB7.out)
   clear hK K
   (try simp only [Act.put, layS])
   refine rdy1 10 fun K hK => ?_
   have HE := Veil13.mk (nam_end (t := t) (lb := lb) (x0 := .string (txt nm')) (x1 := .int .i64 (kd' : Int)) (x2 := .int .i64 (ty' : Int)) (x3 := .int .u64 (lo' : Int)) (x4 := .int .u64 (hi' : Int)) (x5 := .slice B' ns'.length m') (x6 := .bool mu') (x7 := .int .i64 (mo' : Int)) (x8 := .slice A' q'.len c'') HI.out HT9.out HIB.out HTB.out (W := w7) hS)
   generalize w7 = V10 at HE HI HT9 hS ⊢
   have fz0 := HI.out.frozen 0
   have fq0 := (HI.out.cell 0).trans rfl
   have fz1 := HI.out.frozen 1
   have fq1 := (HI.out.cell 1).trans rfl
   have fz2 := HI.out.frozen 2
   have fq2 := (HI.out.cell 2).trans rfl
   have fz3 := HI.out.frozen 3
   have fq3 := (HI.out.cell 3).trans rfl
   have fz4 := HI.out.frozen 4
   have fq4 := (HI.out.cell 4).trans rfl
   have fz5 := HI.out.frozen 5
   have fq5 := (HI.out.cell 5).trans rfl
   have fz6 := HI.out.frozen 6
   have fq6 := (HI.out.cell 6).trans rfl
   have fz7 := HI.out.frozen 7
   have fq7 := (HI.out.cell 7).trans rfl
   have fz8 := HI.out.frozen 8
   have fq8 := (HI.out.cell 8).trans rfl
   go_simp
   refine hK.out _ _ ?sr_h (fun hS => ?_)
   case sr_h => (exact HE.out.2.1)
   clear hK K
   (try simp only [Act.put, layS])
   clear fz0 fq0 fz1 fq1 fz2 fq2 fz3 fq3 fz4 fq4 fz5 fq5 fz6 fq6 fz7 fq7 fz8 fq8
   refine rdy1 11 fun K hK => ?_
   have ht := HE.out.1
   unfold set9 at ht
   have tq := (ht.cell 0).trans rfl
   have tf := ht.frozen 0
   clear ht
   go_simp
   refine hK.out _ _ ?sr_i (fun hS => ?_)
   case sr_i => (exact HE.out.2.2.1)
   clear hK K
   (try simp only [Act.put, layS])
   clear tq tf
   refine wpAnyH_done (by kernel_rfl) ?_ _
   refine NoPanic.normal ?_
 case' str_2 =>
  have HT9 : Hid (Blk ((w).alloc (.cells #[.int .u64 0] 22)) (w.heap.size) 22 #[.int .u64 0]) := hHd (Blk.newA (by simp) _ _)
  have HTB : Hid (w.heap.size ≤ (w.heap.size)) := hHd (by have := hS.size; simp at this ⊢; try omega)
  go_simp
  refine hK.out _ _ ?sr_2 (fun hS => ?_)
  case sr_2 => (exact hS.alloc hS.size _)
  clear hK K
  (try simp only [Act.put, layS])
  refine rdy [7, 8] (rdC (fun K hK => ?str_j) (rdC (fun K hK => ?str_k) .nil))
  case' str_j =>
   go_simp
   refine (HT.out _ hS).mono ?_
   rintro r w7 ⟨rfl, hb⟩
   have HB7 := hHd (hS.trans (hb.mono hS.size))
   have HT9 := hHd ((blk_drew HT9.out).below hb HT9.out.lt)
   clear hb
   go_wp2_with fail
   refine hK.out _ _ ?sr_j (fun hS => ?_)
   case sr_j => (exact HB7.out)
   clear hK K
   (try simp only [Act.put, layS])
   refine rdy1 8 fun K hK => ?_
   have HT9 := hHd (HT9.out.alloc (.cells (cS ⟨#[]⟩ 0 0 0 0 (.slice none 0 0) false 0 (.slice none 0 0)) 61))
   have HI : Hid (Blk ((w7).alloc (.cells (cS ⟨#[]⟩ 0 0 0 0 (.slice none 0 0) false 0 (.slice none 0 0)) 61)) (w7.heap.size) 61 (cS ⟨#[]⟩ 0 0 0 0 (.slice none 0 0) false 0 (.slice none 0 0))) := hHd (Blk.newA (by simp) _ _)
   have HIB : Hid (w.heap.size ≤ (w7.heap.size)) := hHd (by have := hS.size; simp at this ⊢; try omega)
   go_simp
   refine hK.out _ _ ?sr_l (fun hS => ?_)
   case sr_l => (exact hS.alloc hS.size _)
   clear hK K
   (try simp only [Act.put, layS])
   refine rdy1 10 fun K hK => ?_
   have HE := Veil13.mk (nam_end (t := t) (lb := lb) (x0 := .string (txt nm')) (x1 := .int .i64 (kd' : Int)) (x2 := .int .i64 (ty' : Int)) (x3 := .int .u64 (lo' : Int)) (x4 := .int .u64 (hi' : Int)) (x5 := .slice B' ns'.length m') (x6 := .bool mu') (x7 := .int .i64 (mo' : Int)) (x8 := .slice A' q'.len c'') HI.out HT9.out HIB.out HTB.out (W := (w7.alloc (.cells (cS ⟨#[]⟩ 0 0 0 0 (.slice none 0 0) false 0 (.slice none 0 0)) 61))) hS)
   generalize (w7.alloc (.cells (cS ⟨#[]⟩ 0 0 0 0 (.slice none 0 0) false 0 (.slice none 0 0)) 61)) = V10 at HE HI HT9 hS ⊢
   have fz0 := HI.out.frozen 0
   have fq0 := (HI.out.cell 0).trans rfl
   have fz1 := HI.out.frozen 1
   have fq1 := (HI.out.cell 1).trans rfl
   have fz2 := HI.out.frozen 2
   have fq2 := (HI.out.cell 2).trans rfl
   have fz3 := HI.out.frozen 3
   have fq3 := (HI.out.cell 3).trans rfl
   have fz4 := HI.out.frozen 4
   have fq4 := (HI.out.cell 4).trans rfl
   have fz5 := HI.out.frozen 5
   have fq5 := (HI.out.cell 5).trans rfl
   have fz6 := HI.out.frozen 6
   have fq6 := (HI.out.cell 6).trans rfl
   have fz7 := HI.out.frozen 7
   have fq7 := (HI.out.cell 7).trans rfl
   have fz8 := HI.out.frozen 8
   have fq8 := (HI.out.cell 8).trans rfl
   go_simp
   refine hK.out _ _ ?sr_m (fun hS => ?_)
   case sr_m => (exact HE.out.2.1)
   clear hK K
   (try simp only [Act.put, layS])
   clear fz0 fq0 fz1 fq1 fz2 fq2 fz3 fq3 fz4 fq4 fz5 fq5 fz6 fq6 fz7 fq7 fz8 fq8
   refine rdy1 11 fun K hK => ?_
   have ht := HE.out.1
   unfold set9 at ht
   have tq := (ht.cell 0).trans rfl
   have tf := ht.frozen 0
   clear ht
   go_simp
   refine hK.out _ _ ?sr_n (fun hS => ?_)
   case sr_n => (exact HE.out.2.2.1)
   clear hK K
   (try simp only [Act.put, layS])
   clear tq tf
   refine wpAnyH_done (by kernel_rfl) ?_ _
   refine NoPanic.normal ?_
  case' str_k =>
   have HT9 := hHd (HT9.out.alloc (.cells (cS ⟨#[]⟩ 0 0 0 0 (.slice none 0 0) false 0 (.slice none 0 0)) 61))
   have HI : Hid (Blk (((w.alloc (.cells #[.int .u64 0] 22))).alloc (.cells (cS ⟨#[]⟩ 0 0 0 0 (.slice none 0 0) false 0 (.slice none 0 0)) 61)) (w.heap.size + 1) 61 (cS ⟨#[]⟩ 0 0 0 0 (.slice none 0 0) false 0 (.slice none 0 0))) := hHd (Blk.newA (by simp) _ _)
   have HIB : Hid (w.heap.size ≤ (w.heap.size + 1)) := hHd (by have := hS.size; simp at this ⊢; try omega)
   go_simp
   refine hK.out _ _ ?sr_k (fun hS => ?_)
   case sr_k => (exact hS.alloc hS.size _)
   clear hK K
   (try simp only [Act.put, layS])
   refine rdy1 7 fun K hK => ?_
   go_simp
   refine (HT.out _ hS).mono ?_
   rintro r w7 ⟨rfl, hb⟩
   have HB7 := hHd (hS.trans (hb.mono hS.size))
   have HI := hHd ((blk_drew HI.out).below hb HI.out.lt)
   have HT9 := hHd ((blk_drew HT9.out).below hb HT9.out.lt)
   clear hb
   go_wp2_with fail
   refine hK.out _ _ ?sr_o (fun hS => ?_)
   case sr_o => (exact HB7.out)
   clear hK K
   (try simp only [Act.put, layS])
   refine rdy1 10 fun K hK => ?_
   have HE := Veil13.mk (nam_end (t := t) (lb := lb) (x0 := .string (txt nm')) (x1 := .int .i64 (kd' : Int)) (x2 := .int .i64 (ty' : Int)) (x3 := .int .u64 (lo' : Int)) (x4 := .int .u64 (hi' : Int)) (x5 := .slice B' ns'.length m') (x6 := .bool mu') (x7 := .int .i64 (mo' : Int)) (x8 := .slice A' q'.len c'') HI.out HT9.out HIB.out HTB.out (W := w7) hS)
   generalize w7 = V10 at HE HI HT9 hS ⊢
   have fz0 := HI.out.frozen 0
   have fq0 := (HI.out.cell 0).trans rfl
   have fz1 := HI.out.frozen 1
   have fq1 := (HI.out.cell 1).trans rfl
   have fz2 := HI.out.frozen 2
   have fq2 := (HI.out.cell 2).trans rfl
   have fz3 := HI.out.frozen 3
   have fq3 := (HI.out.cell 3).trans rfl
   have fz4 := HI.out.frozen 4
   have fq4 := (HI.out.cell 4).trans rfl
   have fz5 := HI.out.frozen 5
   have fq5 := (HI.out.cell 5).trans rfl
   have fz6 := HI.out.frozen 6
   have fq6 := (HI.out.cell 6).trans rfl
   have fz7 := HI.out.frozen 7
   have fq7 := (HI.out.cell 7).trans rfl
   have fz8 := HI.out.frozen 8
   have fq8 := (HI.out.cell 8).trans rfl
   go_simp
   refine hK.out _ _ ?sr_p (fun hS => ?_)
   case sr_p => (exact HE.out.2.1)
   clear hK K
   (try simp only [Act.put, layS])
   clear fz0 fq0 fz1 fq1 fz2 fq2 fz3 fq3 fz4 fq4 fz5 fq5 fz6 fq6 fz7 fq7 fz8 fq8
   refine rdy1 11 fun K hK => ?_
   have ht := HE.out.1
   unfold set9 at ht
   have tq := (ht.cell 0).trans rfl
   have tf := ht.frozen 0
   clear ht
   go_simp
   refine hK.out _ _ ?sr_q (fun hS => ?_)
   case sr_q => (exact HE.out.2.2.1)
   clear hK K
   (try simp only [Act.put, layS])
   clear tq tf
   refine wpAnyH_done (by kernel_rfl) ?_ _
   refine NoPanic.normal ?_
 all_goals (clear hS; go_wp2; go_ret; exact HE.out.2.2.2)
theorem coll_any13 (b : Nat) (sd : SpD) (cs : List Value) (q : SpF) (ka : NdD) (kf : NdF) (Aj : Option Addr) (cj ib lb tb t : Nat) (v : Value) (F : Fo) (w : World) (IH : ItemsAt q) (hsp : SpL b w cs (sd, q)) (hn : sd.names.length ≤ 1000000) (hq : SpOk q) (hql : q.len ≤ 1000000) (hrow : RowT b w (.slice Aj kf.len cj) kf) (hb : b ≤ w.heap.size) (hks : kf.size ≤ 1000000) (hok : OkD ka ∧ OkF kf)
  (hib : Blk w ib 61 cs.toArray) (htb : Blk w tb 22 #[.int .u64 (t : Int)]) (hlb : Blk w lb 39 #[v]) (hown : OwnF DataI 48 w (lb + 1) v F) (hF : F.len ≤ 1000000000000) (ht : t < 18446744073709551616) (hil : ib ≠ lb) (htl : tb ≠ lb) :
  Calls Tryz.prog 44 #[.agg (cN ka (.slice Aj kf.len cj)), .pointer (some ⟨ib, 0, none⟩), .pointer (some ⟨lb, 0, none⟩), .pointer (some ⟨tb, 0, none⟩)] w (ColP lb v (F.app (collW (fun x => itF q 0 x) sd t (.cons ka kf .nil))) w) := by
 have hC : ∀ W, Below w.heap.size w W → Calls Tryz.prog 45 #[.agg cs.toArray, .int .u64 (t : Int), .agg (cN ka (.slice Aj kf.len cj))] W (ItmP t (dtW sd ka) (kdW (fun x => itF q 0 x) sd ka kf) W) := fun W hW =>
  itemOf_any t sd cs ka q kf Aj cj W IH (hsp.keep (fun g hg => hW.block g (by omega)) (by have := hW.size; omega)) hn hq hql (hrow.under hW hb (by have := hW.size; omega)) hks hok
 obtain ⟨B, m, A, c, d, rfl, -, -, -⟩ := SpN.shape hsp
 obtain ⟨nm, kd, ty, lo, hi, ns, mu, mo⟩ := sd
 simp only [collW]
 by_cases h : ka.name = nm
 ·rw [if_pos h]
  exact coll_yes nm kd ty lo hi ns mu mo B m A q c ka kf Aj cj ib lb tb t _ _ v F w hib htb hlb hown hF ht hil htl h hC
 ·rw [if_neg h, Fo.app_nil]
  exact coll_not nm kd ty lo hi ns mu mo B m A q c ka kf Aj cj ib lb tb v F w hib hlb hown h
structure ColR (lb : Nat) (csS csN : Array Value) (F : Fo) (w wr : World) : Prop where
 own : ∃ v, Blk wr lb 39 #[v] ∧ OwnF DataI 48 wr (lb + 1) v F
 bel : Below w.heap.size w wr
 s : Blk wr w.heap.size 61 csS
 n : Blk wr (w.heap.size + 1) 27 csN
 lb : lb = w.heap.size + 1 + 1
theorem ColR.below {lb : Nat} {csS csN : Array Value} {F : Fo} {w wr w2 : World} (h : ColR lb csS csN F w wr) (hb : Below wr.heap.size wr w2) : ColR lb csS csN F w w2 := by
 obtain ⟨v, h1, h2⟩ := h.own
 exact ⟨⟨v, h1.below hb h1.lt, h2.below stays_I hb⟩, h.bel.trans (hb.mono h.bel.size), h.s.below hb h.s.lt, h.n.below hb h.n.lt, h.lb⟩
theorem ColR.step {lb ib tb : Nat} {csS csN csI csT : Array Value} {v : Value} {F F' : Fo} {w wr w2 : World} {r : Ending} (h : ColR lb csS csN F w wr) (hlb : Blk wr lb 39 #[v]) (hown : OwnF DataI 48 wr (lb + 1) v F) (hib : Blk wr ib 61 csI) (htb : Blk wr tb 22 csT) (hil : ib ≠ lb) (htl : tb ≠ lb) (hc : ColP lb v F' wr r w2) :
  ColR lb csS csN F' w w2 ∧ Blk w2 ib 61 csI ∧ Blk w2 tb 22 csT := by
 obtain ⟨-, v', h1, h2, h3, h4⟩ := hc
 have hl := h.lb
 have hlo := hown.lt
 refine ⟨⟨⟨v', h1, h2⟩, h.bel.trans (h3.mono (by omega)), h.s.below h3 (by omega), h.n.below h3 (by omega), hl⟩, (h4 ib hib.lt hil (hown.ne hib (by decide))).trans hib, (h4 tb htb.lt htl (hown.ne htb (by decide))).trans htb⟩
theorem take_kid {α : Type} {f : Fr α} {j : Nat} {a : α} {k : Fr α} (h : f.get? j = some (a, k)) : Fr.take (j + 1) f = (Fr.take j f).app (.cons a k .nil) := (Fr.get_drop h).2
theorem it_step {q : SpF} {p : Nat} {d : SpD} {s : SpF} {f : NdF} (h : q.get? p = some (d, s)) : itF (Fr.take (p + 1) q) 0 f = (itF (Fr.take p q) 0 f).app (collW (fun x => itF s 0 x) d (tgW d p) f) := by
 have hp := Fr.get_lt h
 rw [take_kid h, it_app, Fr.len_take p q (by omega), Nat.zero_add]
 simp only [itF, Fo.app_nil]
theorem it_take_len (q : SpF) (f : NdF) (p : Nat) (hp : p ≤ q.len) (hq : q.len ≤ 1000000) (hf : f.len ≤ 1000000) : (itF (Fr.take p q) 0 f).len ≤ p * 1000000 := by
 have h := it_len (Fr.take p q) f 0
 rw [Fr.len_take p q hp] at h
 exact Nat.le_trans h (Nat.mul_le_mul_left p hf)
theorem itemsOf_any (q : SpF) : ItemsAt q := by
 refine Fr.byKids (P := ItemsAt) ?_ q
 clear q
 intro q IH sd cs a f Ak ck w hsp hq hql hrow hks hok
 have hsp0 := hsp
 obtain ⟨B, m, A, c, d, rfl, hv, -, hkv⟩ := SpN.shape hsp
 obtain ⟨nm, kd, ty, lo, hi, ns, mu, mo⟩ := sd
 have hfl : f.len ≤ 1000000 := Nat.le_trans f.len_size hks
 have hmf : ∀ (fn : Fn) (first cap : Array Value) (w : World), (Instr.makeFunc fn first cap).run Tryz.prog w = .ok (.func fn first cap) w := fun _ _ _ _ => rfl
 have hb3 : Below w.heap.size w (((w.alloc (.cells (cT nm kd ty lo hi ns mu mo B m A q.len c) 61)).alloc (.cells (cN a (.slice Ak f.len ck)) 27)).alloc (.cells #[.slice none 0 0] 39)) := (bAl.alloc (by simp) _).alloc (by simp; omega) _
 have HR0 : Hid (ColR (w.heap.size + 1 + 1) (cT nm kd ty lo hi ns mu mo B m A q.len c) (cN a (.slice Ak f.len ck)) .nil w (((w.alloc (.cells (cT nm kd ty lo hi ns mu mo B m A q.len c) 61)).alloc (.cells (cN a (.slice Ak f.len ck)) 27)).alloc (.cells #[.slice none 0 0] 39))) := hHd ⟨⟨_, Blk.newA (w := (w.alloc (.cells (cT nm kd ty lo hi ns mu mo B m A q.len c) 61)).alloc (.cells (cN a (.slice Ak f.len ck)) 27)) (by simp) _ _, OwnF.nil _ _⟩, hb3, ((Blk.new w 61 (cT nm kd ty lo hi ns mu mo B m A q.len c)).alloc _).alloc _, (Blk.newA (w := w.alloc (.cells (cT nm kd ty lo hi ns mu mo B m A q.len c) 61)) (by simp) _ _).alloc _, rfl⟩
 have y8 := (HR0.out.s.cell 8).trans rfl
 have HSP := hHd (And.intro hsp0 hkv)
 have HQ := hHd (And.intro hq (And.intro hql hfl))
 have HF := hHd (And.intro hrow (And.intro hks hok))
 have HIH := hHd IH
 clear hsp hsp0 hv hkv hq hrow hks hok IH hb3
 go_enter Tryz.func26, Tryz.ntmps26
 go_wp2
 go_loopw [15] (fun i wr => ∃ p : Nat, p ≤ q.len ∧ i = .int .i64 (p : Int) ∧ Hid (ColR (w.heap.size + 1 + 1) (cT nm kd ty lo hi ns mu mo B m A q.len c) (cN a (.slice Ak f.len ck)) (itF (Fr.take p q) 0 f) w wr)) (fun i _ => q.len - (intOf i).toNat)
 case atStart => exact ⟨0, Nat.zero_le _, rfl, HR0⟩
 case round =>
  obtain ⟨p, hp, rfl, HR⟩ := hrel
  obtain ⟨wo, hwo⟩ : ∃ wo, wo = wr := ⟨_, rfl⟩
  subst hwo
  clear y8 HR0
  by_cases hlt : p < q.len
  ·obtain ⟨⟨nm', kd', ty', lo', hi', ns', mu', mo'⟩, q', hg⟩ : ∃ d s, q.get? p = some (d, s) := Fr.get_some hlt
   obtain ⟨gb, go_, cr, cs', ev, hcr, hSg, hN, hcl⟩ := HSP.out.2.at hg
   injection ev with e1 e2 e3
   subst e3
   obtain ⟨B', m', A', c'', d', rfl, hv', hN', hk'⟩ := SpN.shape (x := (⟨nm', kd', ty', lo', hi', ns', mu', mo'⟩, q')) hN
   have hsi : SpL w.heap.size w (cT nm' kd' ty' lo' hi' ns' mu' mo' B' m' A' q'.len c'').toList (⟨nm', kd', ty', lo', hi', ns', mu', mo'⟩, q') := hN
   have hqok := HQ.out.1.at hg
   have hbw := HR.out.bel
   have HIQ := hHd (HIH.out p _ _ hg)
   have hcw : ∀ j u, (cT nm' kd' ty' lo' hi' ns' mu' mo' B' m' A' q'.len c'').toList[j]? = some u → wo.cell? ⟨gb, go_ + p * 9 + j, none⟩ = some u := fun j u hu => (hbw.cell (p := ⟨gb, go_ + p * 9 + j, none⟩) hSg).trans (hcl j u hu)
   have htg : tagX q (p : Int) = tgW ⟨nm', kd', ty', lo', hi', ns', mu', mo'⟩ p := tag_in hg
   obtain ⟨t, ht⟩ : ∃ t, t = tgW ⟨nm', kd', ty', lo', hi', ns', mu', mo'⟩ p := ⟨_, rfl⟩
   have hspw : ∀ W, Below wo.heap.size wo W → SpL w.heap.size W ((cT nm kd ty lo hi ns mu mo B m A q.len c) : Array Value).toList (⟨nm, kd, ty, lo, hi, ns, mu, mo⟩, q) := fun W hW => HSP.out.1.keep (fun g hg => ((hbw.trans (hW.mono hbw.size))).block g hg) (Nat.le_refl _)
   have HNM := hHd (named13_any w.heap.size (w.heap.size + 1 + 1) p t 0 gb go_ 0 nm kd ty lo hi ns mu mo B m A q.len c nm' kd' ty' lo' hi' ns' mu' mo' B' m' A' q' c'' wo HR.out.s e1 (Nat.lt_of_lt_of_le hSg hbw.size) hlt hcr hcw (fun W hW => by
    rw [ht, ← htg]
    exact tag_any (p : Int) _ _ _ (⟨nm, kd, ty, lo, hi, ns, mu, mo⟩, q) W (by omega) (by have := HQ.out.2.1; omega) (hspw W hW) (fun g hg => Nat.lt_of_lt_of_le hg (hbw.trans (hW.mono hbw.size)).size) HQ.out.2.1))
   have HST : Hid (itF (Fr.take (p + 1) q) 0 f = (itF (Fr.take p q) 0 f).app (collW (fun x => itF q' 0 x) ⟨nm', kd', ty', lo', hi', ns', mu', mo'⟩ t f)) := hHd (by rw [ht]; exact it_step hg)
   obtain ⟨F0, hF0⟩ : ∃ F, F = itF (Fr.take p q) 0 f := ⟨_, rfl⟩
   have hF0l : F0.len + 1000000 ≤ 1000000000000 := by
    rw [hF0]
    have h1 := it_take_len q f p hp HQ.out.2.1 HQ.out.2.2
    have h2 := HQ.out.2.1
    have h3 : p * 1000000 + 1000000 ≤ 1000000 * 1000000 := by omega
    omega
   have HFL := hHd hF0l
   have HT64 : Hid (t < 18446744073709551616) := hHd (by rw [ht]; unfold tgW; have := HQ.out.2.1; split <;> omega)
   rw [← hF0] at HR HST
   have HSI := hHd (And.intro hsi hqok)
   have i1 : (0 : Int) ≤ (p : Int) := by omega
   have i2 : (p : Int) < (q.len : Int) := by omega
   clear hN hcl hv' hN' hk' hsi hqok hcw htg ht hspw hF0 hF0l hg e1 e2 hSg hcr hbw hlt HIH HSP
   go_wp2_with fail
   refine HNM.out.mono ?_
   rintro r w2 ⟨ib, tb, rfl, hib, htb, hib2, htb2, hb2⟩
   have HR2 := hHd (HR.out.below hb2)
   have hl1 : (w.heap.size + 1 + 1) < wo.heap.size := by obtain ⟨v, h, _⟩ := HR.out.own; exact h.lt
   have HNB : Hid (ib ≠ (w.heap.size + 1 + 1) ∧ tb ≠ (w.heap.size + 1 + 1)) := hHd ⟨by omega, by omega⟩
   have HIB := hHd (And.intro hib htb)
   have p5 := (HR2.out.n.cell 5).trans rfl
   clear hib htb hib2 htb2 hb2 HNM hl1
   go_wp2
   obtain ⟨G, hG⟩ : ∃ G : NdF → Fo, G = collW (fun x => itF q' 0 x) ⟨nm', kd', ty', lo', hi', ns', mu', mo'⟩ t := ⟨_, rfl⟩
   rw [← hG] at HST
   have HG := hHd hG
   clear hG
   go_loopw [24] (fun i wr => ∃ j : Nat, j ≤ f.len ∧ i = .int .i64 (j : Int) ∧ Hid (ColR (w.heap.size + 1 + 1) (cT nm kd ty lo hi ns mu mo B m A q.len c) (cN a (.slice Ak f.len ck)) (F0.app (G (Fr.take j f))) w wr) ∧ Hid (Blk wr ib 61 (cT nm' kd' ty' lo' hi' ns' mu' mo' B' m' A' q'.len c'') ∧ Blk wr tb 22 #[.int .u64 (t : Int)])) (fun i _ => f.len - (intOf i).toNat)
   case atStart => exact ⟨0, Nat.zero_le _, rfl, (by rw [HG.out, show Fr.take 0 f = .nil from rfl]; simp only [collW, Fo.app_nil]; exact HR2), HIB⟩
   case round =>
    obtain ⟨j, hj, rfl, HRj, HIj⟩ := hrel
    by_cases hlt2 : j < f.len
    ·obtain ⟨ka, kf, hgk⟩ := Fr.get_some hlt2
     have hbj := HRj.out.bel
     obtain ⟨gk, gok, Aj, cj, rfl, -, hck, hgk2, hrk, hclk⟩ := HF.out.1.at hgk
     have hokk := HF.out.2.2.at hgk
     have hszk : kf.size ≤ 1000000 := by have h1 := Fr.size_get hgk; have h2 := HF.out.2.1; omega
     have c0 : wr.cell? ⟨gk, gok + j * 6, none⟩ = _ := (hbj.cell (p := ⟨gk, gok + j * 6 + 0, none⟩) hgk2).trans (hclk 0 _ rfl)
     have c1 := (hbj.cell (p := ⟨gk, gok + j * 6 + 1, none⟩) hgk2).trans (hclk 1 _ rfl)
     have c2 := (hbj.cell (p := ⟨gk, gok + j * 6 + 2, none⟩) hgk2).trans (hclk 2 _ rfl)
     have c3 := (hbj.cell (p := ⟨gk, gok + j * 6 + 3, none⟩) hgk2).trans (hclk 3 _ rfl)
     have c4 := (hbj.cell (p := ⟨gk, gok + j * 6 + 4, none⟩) hgk2).trans (hclk 4 _ rfl)
     have c5 := (hbj.cell (p := ⟨gk, gok + j * 6 + 5, none⟩) hgk2).trans (hclk 5 _ rfl)
     have hal : Below wr.heap.size wr (wr.alloc (.cells (cN ka (.slice Aj kf.len cj)) 27)) := bAl
     have hK := Blk.new wr 27 (cN ka (.slice Aj kf.len cj))
     obtain ⟨k0, k1, k2, k3, k4, k5⟩ := cl6 hK
     have hRA := HRj.out.below hal
     obtain ⟨v, hv1, hv2⟩ := hRA.own
     have hIA := And.intro (HIj.out.1.below hal HIj.out.1.lt) (HIj.out.2.below hal HIj.out.2.lt)
     have HLQ : Hid ((F0.app (G (Fr.take j f))).len ≤ 1000000000000) := hHd (by
      rw [Fo.len_app, HG.out]
      have h1 := coll_len (fun x => itF q' 0 x) ⟨nm', kd', ty', lo', hi', ns', mu', mo'⟩ t (Fr.take j f)
      rw [Fr.len_take j f hj] at h1
      have := HFL.out
      omega)
     have hC := coll_any13 w.heap.size ⟨nm', kd', ty', lo', hi', ns', mu', mo'⟩ (cT nm' kd' ty' lo' hi' ns' mu' mo' B' m' A' q'.len c'').toList q' ka kf Aj cj ib (w.heap.size + 1 + 1) tb t v _ (wr.alloc (.cells (cN ka (.slice Aj kf.len cj)) 27)) HIQ.out (HSI.out.1.keep (fun g hg => hRA.bel.block g hg) (Nat.le_refl _)) HSI.out.2.1 HSI.out.2.2.2 HSI.out.2.2.1 (hrk.under hRA.bel (Nat.le_refl _) (Nat.le_refl _)) hRA.bel.size hszk hokk hIA.1 hIA.2 hv1 hv2 HLQ.out HT64.out HNB.out.1 HNB.out.2
     have HC := hHd hC
     have HSTP : Hid (∀ r w2, ColP (w.heap.size + 1 + 1) v ((F0.app (G (Fr.take j f))).app (G (.cons ka kf .nil))) (wr.alloc (.cells (cN ka (.slice Aj kf.len cj)) 27)) r w2 → ColR (w.heap.size + 1 + 1) (cT nm kd ty lo hi ns mu mo B m A q.len c) (cN a (.slice (some ⟨gk, gok, none⟩) f.len ck)) (F0.app (G (Fr.take (j + 1) f))) w w2 ∧ Blk w2 ib 61 (cT nm' kd' ty' lo' hi' ns' mu' mo' B' m' A' q'.len c'') ∧ Blk w2 tb 22 #[.int .u64 (t : Int)]) := hHd (fun r w2 h => by
      have h2 := hRA.step hv1 hv2 hIA.1 hIA.2 HNB.out.1 HNB.out.2 h
      rw [Fo.app_assoc] at h2
      rw [take_kid hgk]
      rw [HG.out, coll_app, ← HG.out]
      exact h2)
     rw [← HG.out] at HC
     have k1' : (0 : Int) ≤ (j : Int) := by omega
     have k2' : (j : Int) < (f.len : Int) := by omega
     clear hal hK hRA hv1 hv2 hIA hC hbj hrk hclk hgk2 hokk hszk hgk hck
     go_wp2_with fail
     refine HC.out.mono ?_
     intro r w5 hp
     obtain ⟨hr5, hib5⟩ := HSTP.out r w5 hp
     obtain ⟨rfl, -⟩ := hp
     have HR5 := hHd hr5
     have HI5 := hHd hib5
     clear hr5 hib5 HC HSTP k0 k1 k2 k3 k4 k5 c0 c1 c2 c3 c4 c5
     go_wp2
     go_roundw
     case rel => exact ⟨j + 1, by omega, by go_num, HR5, HI5⟩
     case measure => simp [intOf]; omega
    ·obtain rfl : j = f.len := by omega
     rw [Fr.take_all] at HRj
     rw [← HST.out] at HRj
     clear HIj hlt2
     go_wp2
     go_roundw
     case rel => exact ⟨p + 1, by omega, by go_num, HRj⟩
     case measure => simp [intOf]; omega
  ·obtain rfl : p = q.len := by omega
   obtain ⟨v, h1, h2⟩ := HR.out.own
   rw [Fr.take_all] at h2
   have HV := hHd h2
   have HB := hHd HR.out.bel
   have lq := (h1.cell 0).trans rfl
   clear h1 h2 HR
   go_wp2
   go_ret
   exact ⟨v, rfl, HV.out.mono stays_I (by omega), HB.out⟩
end Go.Proofs.YtodlhgflfcadmaaGreat
