/- What PackRises stands on: PakNam. -/
import Derived.Test.YtodlhgflfcadmaaGreatZM0
import Derived.Test.YtodlhgflfcadmaaGreatZM32
set_option linter.unusedSimpArgs false
set_option linter.unusedVariables false
namespace Go.Proofs.YtodlhgflfcadmaaGreat
open Go.RowKit
inductive Veil13 (P : Prop) : Prop where
 | mk (h : P) : Veil13 P
theorem Veil13.out {P : Prop} (h : Veil13 P) : P := by cases h; assumption
theorem blk_drew {w : World} {g : Nat} {t : TypeId} {cs : Array Value} (h : Blk w g t cs) : Blk w.drew g t cs := h
def NamP (cs : List Value) (t lb : Nat) (w : World) (r : Ending) (w' : World) : Prop := ∃ ib tb, r = .returned (.func (.func 44) #[] #[.pointer (some ⟨ib, 0, none⟩), .pointer (some ⟨lb, 0, none⟩), .pointer (some ⟨tb, 0, none⟩)]) ∧
 Blk w' ib 61 cs.toArray ∧ Blk w' tb 22 #[.int .u64 (t : Int)] ∧ w.heap.size ≤ ib ∧ w.heap.size ≤ tb ∧ Below w.heap.size w w'
theorem nam_end {w W : World} {ib tb t lb : Nat} {y0 y1 y2 y3 y4 y5 y6 y7 y8 u : Value} {x0 x1 x2 x3 x4 x5 x6 x7 x8 : Value} (h1 : Blk W ib 61 #[y0, y1, y2, y3, y4, y5, y6, y7, y8]) (h2 : Blk W tb 22 #[u]) (h3 : w.heap.size ≤ ib) (h4 : w.heap.size ≤ tb) (h5 : Below w.heap.size w W) :
  Blk (set9 W ib x0 x1 x2 x3 x4 x5 x6 x7 x8) tb 22 #[u] ∧ Below w.heap.size w (set9 W ib x0 x1 x2 x3 x4 x5 x6 x7 x8) ∧ Below w.heap.size w ((set9 W ib x0 x1 x2 x3 x4 x5 x6 x7 x8).setCell ⟨tb, 0, none⟩ (.int .u64 (t : Int))) ∧
  NamP [x0, x1, x2, x3, x4, x5, x6, x7, x8] t lb w (.returned (.func (.func 44) #[] #[.pointer (some ⟨ib, 0, none⟩), .pointer (some ⟨lb, 0, none⟩), .pointer (some ⟨tb, 0, none⟩)])) ((set9 W ib x0 x1 x2 x3 x4 x5 x6 x7 x8).setCell ⟨tb, 0, none⟩ (.int .u64 (t : Int))) := by
 have hne : ib ≠ tb := h1.ne_ h2 (by decide)
 have e1 : Blk (set9 W ib x0 x1 x2 x3 x4 x5 x6 x7 x8) tb 22 #[u] := (set9_other hne.symm).trans h2
 have e2 : Below w.heap.size w (set9 W ib x0 x1 x2 x3 x4 x5 x6 x7 x8) := h5.trans (set9_below h3)
 have e3 : Below w.heap.size w ((set9 W ib x0 x1 x2 x3 x4 x5 x6 x7 x8).setCell ⟨tb, 0, none⟩ (.int .u64 (t : Int))) := e2.setCell (p := ⟨tb, 0, none⟩) h4 _
 refine ⟨e1, e2, e3, ib, tb, rfl, (h1.set9 x0 x1 x2 x3 x4 x5 x6 x7 x8).far (p := ⟨tb, 0, none⟩) hne _, ?_, h3, h4, e3⟩
 have h := e1.set_ 0 (.int .u64 (t : Int))
 simpa using h
set_option maxRecDepth 100000 in
set_option maxHeartbeats 8000000 in
theorem named13_any (sb lb i t b g o cr : Nat) (nm : List UInt8) (kd ty lo hi : Nat) (ns : List (List UInt8)) (mu : Bool) (mo : Nat) (B : Option Addr) (m : Nat) (A : Option Addr) (qn c : Nat) (nm' : List UInt8) (kd' ty' lo' hi' : Nat) (ns' : List (List UInt8)) (mu' : Bool) (mo' : Nat) (B' : Option Addr) (m' : Nat) (A' : Option Addr) (q' : SpF) (c'' : Nat) (w : World)
  (hsb : Blk w sb 61 (cS (txt nm) kd ty lo hi (.slice B ns.length m) mu mo (.slice A qn c))) (hA : A = some ⟨g, o, none⟩) (hg : g < w.heap.size) (hi1 : i < qn) (hqc : qn ≤ c)
  (hcl : ∀ j u, (cS (txt nm') kd' ty' lo' hi' (.slice B' ns'.length m') mu' mo' (.slice A' q'.len c'')).toList[j]? = some u → w.cell? ⟨g, o + i * 9 + j, none⟩ = some u)
  (hT : ∀ W, Below w.heap.size w W → Calls Tryz.prog 43 #[.agg (cS (txt nm) kd ty lo hi (.slice B ns.length m) mu mo (.slice A qn c)), .int .i64 (i : Int)] W (AnsP (.int .u64 (t : Int)) W)) :
  Calls Tryz.prog 42 #[.int .i64 (i : Int), .pointer (some ⟨sb, 0, none⟩), .pointer (some ⟨lb, 0, none⟩)] w (NamP (cS (txt nm') kd' ty' lo' hi' (.slice B' ns'.length m') mu' mo' (.slice A' q'.len c'')).toList t lb w) := by
 subst hA
 have hmf : ∀ (fn : Fn) (first cap : Array Value) (w : World), (Instr.makeFunc fn first cap).run Tryz.prog w = .ok (.func fn first cap) w := fun _ _ _ _ => rfl
 have HSB := Lib.hid (And.intro hsb hsb.lt)
 have HT := Lib.hid hT
 have HCL : Hid (∀ W, Below w.heap.size w W → ∀ j u, (cS (txt nm') kd' ty' lo' hi' (.slice B' ns'.length m') mu' mo' (.slice A' q'.len c'')).toList[j]? = some u → W.cell? ⟨g, o + i * 9 + j, none⟩ = some u) := Lib.hid (fun W hW j u hu => (hW.cell (p := ⟨g, o + i * 9 + j, none⟩) hg).trans (hcl j u hu))
 have i1 : (0 : Int) ≤ (i : Int) := by omega
 have i2 : (i : Int) < (qn : Int) := by omega
 clear hsb hT hcl hg hi1
 go_enter Tryz.func42, Tryz.ntmps42
 go_wp2_with fail
 refine wp_region_noPanic ?_
 refine wp_region_held_drew (S := fun _ => True) (by kernel_rfl) trivial (fun hS => ?_)
 refine held_more (S' := fun w' => Below w.heap.size w w') (fun _ _ => trivial) _ _ _ _ ?_
 replace hS := (Below.refl w.heap.size w).drew
 refine tkH 0 hS ?_
 refine tkH 1 hS ?_ (hy := fun w hSw => by have y8 := ((HSB.out.1.below hSw HSB.out.2).cell 8).trans rfl; (go_simp <;> with_reducible rfl))
 refine tkH 2 hS ?_
 refine tkH 3 hS ?_
 refine tkH 4 hS ?_ (hy := fun w hSw => by have x0 : w.cell? ⟨g, o + i * 9, none⟩ = _ := HCL.out _ hSw 0 _ rfl; have x1 := HCL.out _ hSw 1 _ rfl; have x2 := HCL.out _ hSw 2 _ rfl; have x3 := HCL.out _ hSw 3 _ rfl; have x4 := HCL.out _ hSw 4 _ rfl; have x5 := HCL.out _ hSw 5 _ rfl; have x6 := HCL.out _ hSw 6 _ rfl; have x7 := HCL.out _ hSw 7 _ rfl; have x8 := HCL.out _ hSw 8 _ rfl; (go_simp <;> with_reducible rfl))
 refine tkH 5 hS ?_ (hy := fun w hSw => by have y0 := ((HSB.out.1.below hSw HSB.out.2).cell 0).trans rfl; have y1 := ((HSB.out.1.below hSw HSB.out.2).cell 1).trans rfl; have y2 := ((HSB.out.1.below hSw HSB.out.2).cell 2).trans rfl; have y3 := ((HSB.out.1.below hSw HSB.out.2).cell 3).trans rfl; have y4 := ((HSB.out.1.below hSw HSB.out.2).cell 4).trans rfl; have y5 := ((HSB.out.1.below hSw HSB.out.2).cell 5).trans rfl; have y6 := ((HSB.out.1.below hSw HSB.out.2).cell 6).trans rfl; have y7 := ((HSB.out.1.below hSw HSB.out.2).cell 7).trans rfl; have y8 := ((HSB.out.1.below hSw HSB.out.2).cell 8).trans rfl; (go_simp <;> with_reducible rfl))
 refine tkH 6 hS ?_
 refine wpAnyH_ready (rs := [7, 8, 9]) (by kernel_rfl) (by simp) ?_
 refine (AllReadyH.cons (o := ?or_0) ?ir_0 (fun K hK => ?str_0) (AllReadyH.cons (o := ?or_1) ?ir_1 (fun K hK => ?str_1) (AllReadyH.cons (o := ?or_2) ?ir_2 (fun K hK => ?str_2) AllReadyH.nil)))
 case ir_0 => simp only [layG]; rfl
 case ir_1 => simp only [layG]; rfl
 case ir_2 => simp only [layG]; rfl
 case' str_0 =>
  rw [if_pos (by rfl)]
  go_simp
  refine (HT.out _ hS).mono ?_
  rintro r w7 ⟨rfl, hb⟩
  have HB7 := Lib.hid (hS.trans (hb.mono hS.size))
  clear hb
  go_wp2_with fail
  refine hK.out _ _ ?sr_0 (fun hS => ?_)
  case sr_0 => (exact HB7.out)
  clear hK K
  (try simp only [Act.put, layS])
  refine wpAnyH_ready (rs := [8, 9]) (by kernel_rfl) (by simp) ?_
  refine (AllReadyH.cons (o := ?or_3) ?ir_3 (fun K hK => ?str_3) (AllReadyH.cons (o := ?or_4) ?ir_4 (fun K hK => ?str_4) AllReadyH.nil))
  case ir_3 => simp only [layG]; rfl
  case ir_4 => simp only [layG]; rfl
  case' str_3 =>
   rw [if_pos (by rfl)]
   have HI : Hid (Blk ((w7).alloc (.cells (cS ⟨#[]⟩ 0 0 0 0 (.slice none 0 0) false 0 (.slice none 0 0)) 61)) (w7.heap.size) 61 (cS ⟨#[]⟩ 0 0 0 0 (.slice none 0 0) false 0 (.slice none 0 0))) := Lib.hid (Blk.newA (by simp) _ _)
   have HIB : Hid (w.heap.size ≤ (w7.heap.size)) := Lib.hid (by have := hS.size; simp at this ⊢; try omega)
   go_simp
   refine hK.out _ _ ?sr_3 (fun hS => ?_)
   case sr_3 => (exact hS.alloc hS.size _)
   clear hK K
   (try simp only [Act.put, layS])
   refine wpAnyH_ready (rs := [9]) (by kernel_rfl) (by simp) ?_
   refine (AllReadyH.cons (o := ?or_5) ?ir_5 (fun K hK => ?str_5) AllReadyH.nil)
   case ir_5 => simp only [layG]; rfl
   rw [if_pos (by rfl)]
   have HI := Lib.hid (HI.out.alloc (.cells #[.int .u64 0] 22))
   have HT9 : Hid (Blk (((w7.alloc (.cells (cS ⟨#[]⟩ 0 0 0 0 (.slice none 0 0) false 0 (.slice none 0 0)) 61))).alloc (.cells #[.int .u64 0] 22)) (w7.heap.size + 1) 22 #[.int .u64 0]) := Lib.hid (Blk.newA (by simp) _ _)
   have HTB : Hid (w.heap.size ≤ (w7.heap.size + 1)) := Lib.hid (by have := hS.size; simp at this ⊢; try omega)
   go_simp
   refine hK.out _ _ ?sr_5 (fun hS => ?_)
   case sr_5 => (exact hS.alloc hS.size _)
   clear hK K
   (try simp only [Act.put, layS])
   refine wpAnyH_ready (rs := [10]) (by kernel_rfl) (by simp) ?_
   refine (AllReadyH.cons (o := ?or_6) ?ir_6 (fun K hK => ?str_6) AllReadyH.nil)
   case ir_6 => simp only [layG]; rfl
   rw [if_pos (by rfl)]
   have HE := Veil13.mk (nam_end (t := t) (lb := lb) (x0 := .string (txt nm')) (x1 := .int .i64 (kd' : Int)) (x2 := .int .i64 (ty' : Int)) (x3 := .int .u64 (lo' : Int)) (x4 := .int .u64 (hi' : Int)) (x5 := .slice B' ns'.length m') (x6 := .bool mu') (x7 := .int .i64 (mo' : Int)) (x8 := .slice A' q'.len c'') HI.out HT9.out HIB.out HTB.out (W := ((w7.alloc (.cells (cS ⟨#[]⟩ 0 0 0 0 (.slice none 0 0) false 0 (.slice none 0 0)) 61)).alloc (.cells #[.int .u64 0] 22))) hS)
   generalize ((w7.alloc (.cells (cS ⟨#[]⟩ 0 0 0 0 (.slice none 0 0) false 0 (.slice none 0 0)) 61)).alloc (.cells #[.int .u64 0] 22)) = V10 at HE HI HT9 hS ⊢
   have fz0 := HI.out.frozen 0
   have fq0 := (HI.out.cell 0).trans rfl
   have fz1 := HI.out.frozen 1
   have fq1 := (HI.out.cell 1).trans rfl
   have fz2 := HI.out.frozen 2
   have fq2 := (HI.out.cell 2).trans rfl
   have fz3 := HI.out.frozen 3
   have fq3 := (HI.out.cell 3).trans rfl
   have fz4 := HI.out.frozen 4
   have fq4 := (HI.out.cell 4).trans rfl
   have fz5 := HI.out.frozen 5
   have fq5 := (HI.out.cell 5).trans rfl
   have fz6 := HI.out.frozen 6
   have fq6 := (HI.out.cell 6).trans rfl
   have fz7 := HI.out.frozen 7
   have fq7 := (HI.out.cell 7).trans rfl
   have fz8 := HI.out.frozen 8
   have fq8 := (HI.out.cell 8).trans rfl
   go_simp
   refine hK.out _ _ ?sr_6 (fun hS => ?_)
   case sr_6 => (exact HE.out.2.1)
   clear hK K
   (try simp only [Act.put, layS])
   clear fz0 fq0 fz1 fq1 fz2 fq2 fz3 fq3 fz4 fq4 fz5 fq5 fz6 fq6 fz7 fq7 fz8 fq8
   refine wpAnyH_ready (rs := [11]) (by kernel_rfl) (by simp) ?_
   refine (AllReadyH.cons (o := ?or_7) ?ir_7 (fun K hK => ?str_7) AllReadyH.nil)
   case ir_7 => simp only [layG]; rfl
   rw [if_pos (by rfl)]
   have ht := HE.out.1
   unfold set9 at ht
   have tq := (ht.cell 0).trans rfl
   have tf := ht.frozen 0
   clear ht
   go_simp
   refine hK.out _ _ ?sr_7 (fun hS => ?_)
   case sr_7 => (exact HE.out.2.2.1)
   clear hK K
   (try simp only [Act.put, layS])
   clear tq tf
   refine wpAnyH_done (by kernel_rfl) ?_ _
   refine NoPanic.normal ?_
  case' str_4 =>
   rw [if_pos (by rfl)]
   have HT9 : Hid (Blk ((w7).alloc (.cells #[.int .u64 0] 22)) (w7.heap.size) 22 #[.int .u64 0]) := Lib.hid (Blk.newA (by simp) _ _)
   have HTB : Hid (w.heap.size ≤ (w7.heap.size)) := Lib.hid (by have := hS.size; simp at this ⊢; try omega)
   go_simp
   refine hK.out _ _ ?sr_4 (fun hS => ?_)
   case sr_4 => (exact hS.alloc hS.size _)
   clear hK K
   (try simp only [Act.put, layS])
   refine wpAnyH_ready (rs := [8]) (by kernel_rfl) (by simp) ?_
   refine (AllReadyH.cons (o := ?or_8) ?ir_8 (fun K hK => ?str_8) AllReadyH.nil)
   case ir_8 => simp only [layG]; rfl
   rw [if_pos (by rfl)]
   have HT9 := Lib.hid (HT9.out.alloc (.cells (cS ⟨#[]⟩ 0 0 0 0 (.slice none 0 0) false 0 (.slice none 0 0)) 61))
   have HI : Hid (Blk (((w7.alloc (.cells #[.int .u64 0] 22))).alloc (.cells (cS ⟨#[]⟩ 0 0 0 0 (.slice none 0 0) false 0 (.slice none 0 0)) 61)) (w7.heap.size + 1) 61 (cS ⟨#[]⟩ 0 0 0 0 (.slice none 0 0) false 0 (.slice none 0 0))) := Lib.hid (Blk.newA (by simp) _ _)
   have HIB : Hid (w.heap.size ≤ (w7.heap.size + 1)) := Lib.hid (by have := hS.size; simp at this ⊢; try omega)
   go_simp
   refine hK.out _ _ ?sr_8 (fun hS => ?_)
   case sr_8 => (exact hS.alloc hS.size _)
   clear hK K
   (try simp only [Act.put, layS])
   refine wpAnyH_ready (rs := [10]) (by kernel_rfl) (by simp) ?_
   refine (AllReadyH.cons (o := ?or_9) ?ir_9 (fun K hK => ?str_9) AllReadyH.nil)
   case ir_9 => simp only [layG]; rfl
   rw [if_pos (by rfl)]
   have HE := Veil13.mk (nam_end (t := t) (lb := lb) (x0 := .string (txt nm')) (x1 := .int .i64 (kd' : Int)) (x2 := .int .i64 (ty' : Int)) (x3 := .int .u64 (lo' : Int)) (x4 := .int .u64 (hi' : Int)) (x5 := .slice B' ns'.length m') (x6 := .bool mu') (x7 := .int .i64 (mo' : Int)) (x8 := .slice A' q'.len c'') HI.out HT9.out HIB.out HTB.out (W := ((w7.alloc (.cells #[.int .u64 0] 22)).alloc (.cells (cS ⟨#[]⟩ 0 0 0 0 (.slice none 0 0) false 0 (.slice none 0 0)) 61))) hS)
   generalize ((w7.alloc (.cells #[.int .u64 0] 22)).alloc (.cells (cS ⟨#[]⟩ 0 0 0 0 (.slice none 0 0) false 0 (.slice none 0 0)) 61)) = V10 at HE HI HT9 hS ⊢
   have fz0 := HI.out.frozen 0
   have fq0 := (HI.out.cell 0).trans rfl
   have fz1 := HI.out.frozen 1
   have fq1 := (HI.out.cell 1).trans rfl
   have fz2 := HI.out.frozen 2
   have fq2 := (HI.out.cell 2).trans rfl
   have fz3 := HI.out.frozen 3
   have fq3 := (HI.out.cell 3).trans rfl
   have fz4 := HI.out.frozen 4
   have fq4 := (HI.out.cell 4).trans rfl
   have fz5 := HI.out.frozen 5
   have fq5 := (HI.out.cell 5).trans rfl
   have fz6 := HI.out.frozen 6
   have fq6 := (HI.out.cell 6).trans rfl
   have fz7 := HI.out.frozen 7
   have fq7 := (HI.out.cell 7).trans rfl
   have fz8 := HI.out.frozen 8
   have fq8 := (HI.out.cell 8).trans rfl
   go_simp
   refine hK.out _ _ ?sr_9 (fun hS => ?_)
   case sr_9 => (exact HE.out.2.1)
   clear hK K
   (try simp only [Act.put, layS])
   clear fz0 fq0 fz1 fq1 fz2 fq2 fz3 fq3 fz4 fq4 fz5 fq5 fz6 fq6 fz7 fq7 fz8 fq8
   refine wpAnyH_ready (rs := [11]) (by kernel_rfl) (by simp) ?_
   refine (AllReadyH.cons (o := ?or_a) ?ir_a (fun K hK => ?str_a) AllReadyH.nil)
   case ir_a => simp only [layG]; rfl
   rw [if_pos (by rfl)]
   have ht := HE.out.1
   unfold set9 at ht
   have tq := (ht.cell 0).trans rfl
   have tf := ht.frozen 0
   clear ht
   go_simp
   refine hK.out _ _ ?sr_a (fun hS => ?_)
   case sr_a => (exact HE.out.2.2.1)
   clear hK K
   (try simp only [Act.put, layS])
   clear tq tf
   refine wpAnyH_done (by kernel_rfl) ?_ _
   refine NoPanic.normal ?_
 case' str_1 =>
  rw [if_pos (by rfl)]
  have HI : Hid (Blk ((w).alloc (.cells (cS ⟨#[]⟩ 0 0 0 0 (.slice none 0 0) false 0 (.slice none 0 0)) 61)) (w.heap.size) 61 (cS ⟨#[]⟩ 0 0 0 0 (.slice none 0 0) false 0 (.slice none 0 0))) := Lib.hid (Blk.newA (by simp) _ _)
  have HIB : Hid (w.heap.size ≤ (w.heap.size)) := Lib.hid (by have := hS.size; simp at this ⊢; try omega)
  go_simp
  refine hK.out _ _ ?sr_1 (fun hS => ?_)
  case sr_1 => (exact hS.alloc hS.size _)
  clear hK K
  (try simp only [Act.put, layS])
  refine wpAnyH_ready (rs := [7, 9]) (by kernel_rfl) (by simp) ?_
  refine (AllReadyH.cons (o := ?or_b) ?ir_b (fun K hK => ?str_b) (AllReadyH.cons (o := ?or_c) ?ir_c (fun K hK => ?str_c) AllReadyH.nil))
  case ir_b => simp only [layG]; rfl
  case ir_c => simp only [layG]; rfl
  case' str_b =>
   rw [if_pos (by rfl)]
   go_simp
   refine (HT.out _ hS).mono ?_
   rintro r w7 ⟨rfl, hb⟩
   have HB7 := Lib.hid (hS.trans (hb.mono hS.size))
   have HI := Lib.hid ((blk_drew HI.out).below hb HI.out.lt)
   clear hb
   go_wp2_with fail
   refine hK.out _ _ ?sr_b (fun hS => ?_)
   case sr_b => (exact HB7.out)
   clear hK K
   (try simp only [Act.put, layS])
   refine wpAnyH_ready (rs := [9]) (by kernel_rfl) (by simp) ?_
   refine (AllReadyH.cons (o := ?or_d) ?ir_d (fun K hK => ?str_d) AllReadyH.nil)
   case ir_d => simp only [layG]; rfl
   rw [if_pos (by rfl)]
   have HI := Lib.hid (HI.out.alloc (.cells #[.int .u64 0] 22))
   have HT9 : Hid (Blk ((w7).alloc (.cells #[.int .u64 0] 22)) (w7.heap.size) 22 #[.int .u64 0]) := Lib.hid (Blk.newA (by simp) _ _)
   have HTB : Hid (w.heap.size ≤ (w7.heap.size)) := Lib.hid (by have := hS.size; simp at this ⊢; try omega)
   go_simp
   refine hK.out _ _ ?sr_d (fun hS => ?_)
   case sr_d => (exact hS.alloc hS.size _)
   clear hK K
   (try simp only [Act.put, layS])
   refine wpAnyH_ready (rs := [10]) (by kernel_rfl) (by simp) ?_
   refine (AllReadyH.cons (o := ?or_e) ?ir_e (fun K hK => ?str_e) AllReadyH.nil)
   case ir_e => simp only [layG]; rfl
   rw [if_pos (by rfl)]
   have HE := Veil13.mk (nam_end (t := t) (lb := lb) (x0 := .string (txt nm')) (x1 := .int .i64 (kd' : Int)) (x2 := .int .i64 (ty' : Int)) (x3 := .int .u64 (lo' : Int)) (x4 := .int .u64 (hi' : Int)) (x5 := .slice B' ns'.length m') (x6 := .bool mu') (x7 := .int .i64 (mo' : Int)) (x8 := .slice A' q'.len c'') HI.out HT9.out HIB.out HTB.out (W := (w7.alloc (.cells #[.int .u64 0] 22))) hS)
   generalize (w7.alloc (.cells #[.int .u64 0] 22)) = V10 at HE HI HT9 hS ⊢
   have fz0 := HI.out.frozen 0
   have fq0 := (HI.out.cell 0).trans rfl
   have fz1 := HI.out.frozen 1
   have fq1 := (HI.out.cell 1).trans rfl
   have fz2 := HI.out.frozen 2
   have fq2 := (HI.out.cell 2).trans rfl
   have fz3 := HI.out.frozen 3
   have fq3 := (HI.out.cell 3).trans rfl
   have fz4 := HI.out.frozen 4
   have fq4 := (HI.out.cell 4).trans rfl
   have fz5 := HI.out.frozen 5
   have fq5 := (HI.out.cell 5).trans rfl
   have fz6 := HI.out.frozen 6
   have fq6 := (HI.out.cell 6).trans rfl
   have fz7 := HI.out.frozen 7
   have fq7 := (HI.out.cell 7).trans rfl
   have fz8 := HI.out.frozen 8
   have fq8 := (HI.out.cell 8).trans rfl
   go_simp
   refine hK.out _ _ ?sr_e (fun hS => ?_)
   case sr_e => (exact HE.out.2.1)
   clear hK K
   (try simp only [Act.put, layS])
   clear fz0 fq0 fz1 fq1 fz2 fq2 fz3 fq3 fz4 fq4 fz5 fq5 fz6 fq6 fz7 fq7 fz8 fq8
   refine wpAnyH_ready (rs := [11]) (by kernel_rfl) (by simp) ?_
   refine (AllReadyH.cons (o := ?or_f) ?ir_f (fun K hK => ?str_f) AllReadyH.nil)
   case ir_f => simp only [layG]; rfl
   rw [if_pos (by rfl)]
   have ht := HE.out.1
   unfold set9 at ht
   have tq := (ht.cell 0).trans rfl
   have tf := ht.frozen 0
   clear ht
   go_simp
   refine hK.out _ _ ?sr_f (fun hS => ?_)
   case sr_f => (exact HE.out.2.2.1)
   clear hK K
   (try simp only [Act.put, layS])
   clear tq tf
   refine wpAnyH_done (by kernel_rfl) ?_ _
   refine NoPanic.normal ?_
  case' str_c =>
   rw [if_pos (by rfl)]
   have HI := Lib.hid (HI.out.alloc (.cells #[.int .u64 0] 22))
   have HT9 : Hid (Blk (((w.alloc (.cells (cS ⟨#[]⟩ 0 0 0 0 (.slice none 0 0) false 0 (.slice none 0 0)) 61))).alloc (.cells #[.int .u64 0] 22)) (w.heap.size + 1) 22 #[.int .u64 0]) := Lib.hid (Blk.newA (by simp) _ _)
   have HTB : Hid (w.heap.size ≤ (w.heap.size + 1)) := Lib.hid (by have := hS.size; simp at this ⊢; try omega)
   go_simp
   refine hK.out _ _ ?sr_c (fun hS => ?_)
   case sr_c => (exact hS.alloc hS.size _)
   clear hK K
   (try simp only [Act.put, layS])
   refine wpAnyH_ready (rs := [7]) (by kernel_rfl) (by simp) ?_
   refine (AllReadyH.cons (o := ?or_g) ?ir_g (fun K hK => ?str_g) AllReadyH.nil)
   case ir_g => simp only [layG]; rfl
   rw [if_pos (by rfl)]
   go_simp
   refine (HT.out _ hS).mono ?_
   rintro r w7 ⟨rfl, hb⟩
   have HB7 := Lib.hid (hS.trans (hb.mono hS.size))
   have HI := Lib.hid ((blk_drew HI.out).below hb HI.out.lt)
   have HT9 := Lib.hid ((blk_drew HT9.out).below hb HT9.out.lt)
   clear hb
   go_wp2_with fail
   refine hK.out _ _ ?sr_g (fun hS => ?_)
   case sr_g => (exact HB7.out)
   clear hK K
   (try simp only [Act.put, layS])
   refine wpAnyH_ready (rs := [10]) (by kernel_rfl) (by simp) ?_
   refine (AllReadyH.cons (o := ?or_h) ?ir_h (fun K hK => ?str_h) AllReadyH.nil)
   case ir_h => simp only [layG]; rfl
   rw [if_pos (by rfl)]
   have HE := Veil13.mk (nam_end (t := t) (lb := lb) (x0 := .string (txt nm')) (x1 := .int .i64 (kd' : Int)) (x2 := .int .i64 (ty' : Int)) (x3 := .int .u64 (lo' : Int)) (x4 := .int .u64 (hi' : Int)) (x5 := .slice B' ns'.length m') (x6 := .bool mu') (x7 := .int .i64 (mo' : Int)) (x8 := .slice A' q'.len c'') HI.out HT9.out HIB.out HTB.out (W := w7) hS)
   generalize w7 = V10 at HE HI HT9 hS ⊢
   have fz0 := HI.out.frozen 0
   have fq0 := (HI.out.cell 0).trans rfl
   have fz1 := HI.out.frozen 1
   have fq1 := (HI.out.cell 1).trans rfl
   have fz2 := HI.out.frozen 2
   have fq2 := (HI.out.cell 2).trans rfl
   have fz3 := HI.out.frozen 3
   have fq3 := (HI.out.cell 3).trans rfl
   have fz4 := HI.out.frozen 4
   have fq4 := (HI.out.cell 4).trans rfl
   have fz5 := HI.out.frozen 5
   have fq5 := (HI.out.cell 5).trans rfl
   have fz6 := HI.out.frozen 6
   have fq6 := (HI.out.cell 6).trans rfl
   have fz7 := HI.out.frozen 7
   have fq7 := (HI.out.cell 7).trans rfl
   have fz8 := HI.out.frozen 8
   have fq8 := (HI.out.cell 8).trans rfl
   go_simp
   refine hK.out _ _ ?sr_h (fun hS => ?_)
   case sr_h => (exact HE.out.2.1)
   clear hK K
   (try simp only [Act.put, layS])
   clear fz0 fq0 fz1 fq1 fz2 fq2 fz3 fq3 fz4 fq4 fz5 fq5 fz6 fq6 fz7 fq7 fz8 fq8
   refine wpAnyH_ready (rs := [11]) (by kernel_rfl) (by simp) ?_
   refine (AllReadyH.cons (o := ?or_i) ?ir_i (fun K hK => ?str_i) AllReadyH.nil)
   case ir_i => simp only [layG]; rfl
   rw [if_pos (by rfl)]
   have ht := HE.out.1
   unfold set9 at ht
   have tq := (ht.cell 0).trans rfl
   have tf := ht.frozen 0
   clear ht
   go_simp
   refine hK.out _ _ ?sr_i (fun hS => ?_)
   case sr_i => (exact HE.out.2.2.1)
   clear hK K
   (try simp only [Act.put, layS])
   clear tq tf
   refine wpAnyH_done (by kernel_rfl) ?_ _
   refine NoPanic.normal ?_
 case' str_2 =>
  rw [if_pos (by rfl)]
  have HT9 : Hid (Blk ((w).alloc (.cells #[.int .u64 0] 22)) (w.heap.size) 22 #[.int .u64 0]) := Lib.hid (Blk.newA (by simp) _ _)
  have HTB : Hid (w.heap.size ≤ (w.heap.size)) := Lib.hid (by have := hS.size; simp at this ⊢; try omega)
  go_simp
  refine hK.out _ _ ?sr_2 (fun hS => ?_)
  case sr_2 => (exact hS.alloc hS.size _)
  clear hK K
  (try simp only [Act.put, layS])
  refine wpAnyH_ready (rs := [7, 8]) (by kernel_rfl) (by simp) ?_
  refine (AllReadyH.cons (o := ?or_j) ?ir_j (fun K hK => ?str_j) (AllReadyH.cons (o := ?or_k) ?ir_k (fun K hK => ?str_k) AllReadyH.nil))
  case ir_j => simp only [layG]; rfl
  case ir_k => simp only [layG]; rfl
  case' str_j =>
   rw [if_pos (by rfl)]
   go_simp
   refine (HT.out _ hS).mono ?_
   rintro r w7 ⟨rfl, hb⟩
   have HB7 := Lib.hid (hS.trans (hb.mono hS.size))
   have HT9 := Lib.hid ((blk_drew HT9.out).below hb HT9.out.lt)
   clear hb
   go_wp2_with fail
   refine hK.out _ _ ?sr_j (fun hS => ?_)
   case sr_j => (exact HB7.out)
   clear hK K
   (try simp only [Act.put, layS])
   refine wpAnyH_ready (rs := [8]) (by kernel_rfl) (by simp) ?_
   refine (AllReadyH.cons (o := ?or_l) ?ir_l (fun K hK => ?str_l) AllReadyH.nil)
   case ir_l => simp only [layG]; rfl
   rw [if_pos (by rfl)]
   have HT9 := Lib.hid (HT9.out.alloc (.cells (cS ⟨#[]⟩ 0 0 0 0 (.slice none 0 0) false 0 (.slice none 0 0)) 61))
   have HI : Hid (Blk ((w7).alloc (.cells (cS ⟨#[]⟩ 0 0 0 0 (.slice none 0 0) false 0 (.slice none 0 0)) 61)) (w7.heap.size) 61 (cS ⟨#[]⟩ 0 0 0 0 (.slice none 0 0) false 0 (.slice none 0 0))) := Lib.hid (Blk.newA (by simp) _ _)
   have HIB : Hid (w.heap.size ≤ (w7.heap.size)) := Lib.hid (by have := hS.size; simp at this ⊢; try omega)
   go_simp
   refine hK.out _ _ ?sr_l (fun hS => ?_)
   case sr_l => (exact hS.alloc hS.size _)
   clear hK K
   (try simp only [Act.put, layS])
   refine wpAnyH_ready (rs := [10]) (by kernel_rfl) (by simp) ?_
   refine (AllReadyH.cons (o := ?or_m) ?ir_m (fun K hK => ?str_m) AllReadyH.nil)
   case ir_m => simp only [layG]; rfl
   rw [if_pos (by rfl)]
   have HE := Veil13.mk (nam_end (t := t) (lb := lb) (x0 := .string (txt nm')) (x1 := .int .i64 (kd' : Int)) (x2 := .int .i64 (ty' : Int)) (x3 := .int .u64 (lo' : Int)) (x4 := .int .u64 (hi' : Int)) (x5 := .slice B' ns'.length m') (x6 := .bool mu') (x7 := .int .i64 (mo' : Int)) (x8 := .slice A' q'.len c'') HI.out HT9.out HIB.out HTB.out (W := (w7.alloc (.cells (cS ⟨#[]⟩ 0 0 0 0 (.slice none 0 0) false 0 (.slice none 0 0)) 61))) hS)
   generalize (w7.alloc (.cells (cS ⟨#[]⟩ 0 0 0 0 (.slice none 0 0) false 0 (.slice none 0 0)) 61)) = V10 at HE HI HT9 hS ⊢
   have fz0 := HI.out.frozen 0
   have fq0 := (HI.out.cell 0).trans rfl
   have fz1 := HI.out.frozen 1
   have fq1 := (HI.out.cell 1).trans rfl
   have fz2 := HI.out.frozen 2
   have fq2 := (HI.out.cell 2).trans rfl
   have fz3 := HI.out.frozen 3
   have fq3 := (HI.out.cell 3).trans rfl
   have fz4 := HI.out.frozen 4
   have fq4 := (HI.out.cell 4).trans rfl
   have fz5 := HI.out.frozen 5
   have fq5 := (HI.out.cell 5).trans rfl
   have fz6 := HI.out.frozen 6
   have fq6 := (HI.out.cell 6).trans rfl
   have fz7 := HI.out.frozen 7
   have fq7 := (HI.out.cell 7).trans rfl
   have fz8 := HI.out.frozen 8
   have fq8 := (HI.out.cell 8).trans rfl
   go_simp
   refine hK.out _ _ ?sr_m (fun hS => ?_)
   case sr_m => (exact HE.out.2.1)
   clear hK K
   (try simp only [Act.put, layS])
   clear fz0 fq0 fz1 fq1 fz2 fq2 fz3 fq3 fz4 fq4 fz5 fq5 fz6 fq6 fz7 fq7 fz8 fq8
   refine wpAnyH_ready (rs := [11]) (by kernel_rfl) (by simp) ?_
   refine (AllReadyH.cons (o := ?or_n) ?ir_n (fun K hK => ?str_n) AllReadyH.nil)
   case ir_n => simp only [layG]; rfl
   rw [if_pos (by rfl)]
   have ht := HE.out.1
   unfold set9 at ht
   have tq := (ht.cell 0).trans rfl
   have tf := ht.frozen 0
   clear ht
   go_simp
   refine hK.out _ _ ?sr_n (fun hS => ?_)
   case sr_n => (exact HE.out.2.2.1)
   clear hK K
   (try simp only [Act.put, layS])
   clear tq tf
   refine wpAnyH_done (by kernel_rfl) ?_ _
   refine NoPanic.normal ?_
  case' str_k =>
   rw [if_pos (by rfl)]
   have HT9 := Lib.hid (HT9.out.alloc (.cells (cS ⟨#[]⟩ 0 0 0 0 (.slice none 0 0) false 0 (.slice none 0 0)) 61))
   have HI : Hid (Blk (((w.alloc (.cells #[.int .u64 0] 22))).alloc (.cells (cS ⟨#[]⟩ 0 0 0 0 (.slice none 0 0) false 0 (.slice none 0 0)) 61)) (w.heap.size + 1) 61 (cS ⟨#[]⟩ 0 0 0 0 (.slice none 0 0) false 0 (.slice none 0 0))) := Lib.hid (Blk.newA (by simp) _ _)
   have HIB : Hid (w.heap.size ≤ (w.heap.size + 1)) := Lib.hid (by have := hS.size; simp at this ⊢; try omega)
   go_simp
   refine hK.out _ _ ?sr_k (fun hS => ?_)
   case sr_k => (exact hS.alloc hS.size _)
   clear hK K
   (try simp only [Act.put, layS])
   refine wpAnyH_ready (rs := [7]) (by kernel_rfl) (by simp) ?_
   refine (AllReadyH.cons (o := ?or_o) ?ir_o (fun K hK => ?str_o) AllReadyH.nil)
   case ir_o => simp only [layG]; rfl
   rw [if_pos (by rfl)]
   go_simp
   refine (HT.out _ hS).mono ?_
   rintro r w7 ⟨rfl, hb⟩
   have HB7 := Lib.hid (hS.trans (hb.mono hS.size))
   have HI := Lib.hid ((blk_drew HI.out).below hb HI.out.lt)
   have HT9 := Lib.hid ((blk_drew HT9.out).below hb HT9.out.lt)
   clear hb
   go_wp2_with fail
   refine hK.out _ _ ?sr_o (fun hS => ?_)
   case sr_o => (exact HB7.out)
   clear hK K
   (try simp only [Act.put, layS])
   refine wpAnyH_ready (rs := [10]) (by kernel_rfl) (by simp) ?_
   refine (AllReadyH.cons (o := ?or_p) ?ir_p (fun K hK => ?str_p) AllReadyH.nil)
   case ir_p => simp only [layG]; rfl
   rw [if_pos (by rfl)]
   have HE := Veil13.mk (nam_end (t := t) (lb := lb) (x0 := .string (txt nm')) (x1 := .int .i64 (kd' : Int)) (x2 := .int .i64 (ty' : Int)) (x3 := .int .u64 (lo' : Int)) (x4 := .int .u64 (hi' : Int)) (x5 := .slice B' ns'.length m') (x6 := .bool mu') (x7 := .int .i64 (mo' : Int)) (x8 := .slice A' q'.len c'') HI.out HT9.out HIB.out HTB.out (W := w7) hS)
   generalize w7 = V10 at HE HI HT9 hS ⊢
   have fz0 := HI.out.frozen 0
   have fq0 := (HI.out.cell 0).trans rfl
   have fz1 := HI.out.frozen 1
   have fq1 := (HI.out.cell 1).trans rfl
   have fz2 := HI.out.frozen 2
   have fq2 := (HI.out.cell 2).trans rfl
   have fz3 := HI.out.frozen 3
   have fq3 := (HI.out.cell 3).trans rfl
   have fz4 := HI.out.frozen 4
   have fq4 := (HI.out.cell 4).trans rfl
   have fz5 := HI.out.frozen 5
   have fq5 := (HI.out.cell 5).trans rfl
   have fz6 := HI.out.frozen 6
   have fq6 := (HI.out.cell 6).trans rfl
   have fz7 := HI.out.frozen 7
   have fq7 := (HI.out.cell 7).trans rfl
   have fz8 := HI.out.frozen 8
   have fq8 := (HI.out.cell 8).trans rfl
   go_simp
   refine hK.out _ _ ?sr_p (fun hS => ?_)
   case sr_p => (exact HE.out.2.1)
   clear hK K
   (try simp only [Act.put, layS])
   clear fz0 fq0 fz1 fq1 fz2 fq2 fz3 fq3 fz4 fq4 fz5 fq5 fz6 fq6 fz7 fq7 fz8 fq8
   refine wpAnyH_ready (rs := [11]) (by kernel_rfl) (by simp) ?_
   refine (AllReadyH.cons (o := ?or_q) ?ir_q (fun K hK => ?str_q) AllReadyH.nil)
   case ir_q => simp only [layG]; rfl
   rw [if_pos (by rfl)]
   have ht := HE.out.1
   unfold set9 at ht
   have tq := (ht.cell 0).trans rfl
   have tf := ht.frozen 0
   clear ht
   go_simp
   refine hK.out _ _ ?sr_q (fun hS => ?_)
   case sr_q => (exact HE.out.2.2.1)
   clear hK K
   (try simp only [Act.put, layS])
   clear tq tf
   refine wpAnyH_done (by kernel_rfl) ?_ _
   refine NoPanic.normal ?_
 all_goals (clear hS; go_wp2; go_ret; exact HE.out.2.2.2)
end Go.Proofs.YtodlhgflfcadmaaGreat
