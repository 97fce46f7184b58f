/- PatRefC -/
import Derived.Test.YthmobcaidhgeaaaEM12
set_option linter.unusedSimpArgs false
set_option linter.unusedVariables false
set_option maxRecDepth 100000
set_option maxHeartbeats 8000000
namespace Go.Proofs.Ythmobcaidhgeaaa
open Go.RowKit
theorem rone17_3a (a p o : NdD) (f pf og : NdF) (A P O B : Option Addr) (c pc oc m : Nat) (l : List Stp) (d : Nat → Prop) (w : World) (hd : UndZ d w) (hx : LieZ d w (ndC a (.slice A f.len c)) (a, f)) (hw : WayV w.heap.size w (.slice B l.length m) l) (hp : LieZ d w (ndC p (.slice P pf.len pc)) (p, pf)) (ho : LieZ d w (ndC o (.slice O og.len oc)) (o, og)) (hf : f.size ≤ 1000000) (hpf : pf.size ≤ 1000000) (hog : og.size ≤ 1000000) (hl : l.length ≤ 1000000) (hne : l ≠ []) (hhn : hasX p l = false) :
  Calls Try.prog 11 #[.agg (cN a (.slice A f.len c)), .agg #[.int .i64 (3), .slice B l.length m, .string (txt p.name), .string (txt p.key), .int .i64 p.kind, .int .u64 (p.num : Int), .string (txt p.text), .slice P pf.len pc, .string (txt o.name), .string (txt o.key), .int .i64 o.kind, .int .u64 (o.num : Int), .string (txt o.text), .slice O og.len oc]] w (PTreZ d (oneX (a, f) ⟨3, l, (p, pf), (o, og)⟩).1 (.int .i64 ((oneX (a, f) ⟨3, l, (p, pf), (o, og)⟩).2 : Int)) w) := by
 have hx0 := hx.lie hd
 have ho0 := ho.lie hd
 have HD := hHd hd
 have hr : oneX (a, f) ⟨3, l, (p, pf), (o, og)⟩ = (noN, 1) := by
  have e1 := hasX_no hhn; unfold oneX; rw [if_pos (.inr (.inr (.inl ⟨by simp, e1⟩)))]
 rw [hr]
 clear hr
 have hps : 0 < l.length := List.length_pos_iff.2 hne
 have y0 : ((l.length : Int) == 0) = false := beq_eq_false_iff_ne.2 (by omega)
 have y1 : (l.length == 0) = false := beq_eq_false_iff_ne.2 (by omega)
 have HN : ∀ W, Below w.heap.size w W → Hid (Calls Try.prog 21 #[.agg (cN p (.slice P pf.len pc)), .slice B l.length m] W (Ans9 (.bool false) W)) := fun W hW => hHd (by have h := rhas17_any p P pf.len pc l _ W (hw.below hW) hne hl; rw [hhn] at h; exact h)
 have B0 := hHd (bx3_new w (cN a (.slice A f.len c)) #[.int .i64 (3), .slice B l.length m, .string (txt p.name), .string (txt p.key), .int .i64 p.kind, .int .u64 (p.num : Int), .string (txt p.text), .slice P pf.len pc, .string (txt o.name), .string (txt o.key), .int .i64 o.kind, .int .u64 (o.num : Int), .string (txt o.text), .slice O og.len oc] #[.string ⟨#[]⟩, .string ⟨#[]⟩, .int .i64 0, .int .u64 0, .string ⟨#[]⟩, .slice none 0 0])
 have qx0 : (((w.alloc (.cells (cN a (.slice A f.len c)) 27)).alloc (.cells #[.int .i64 (3), .slice B l.length m, .string (txt p.name), .string (txt p.key), .int .i64 p.kind, .int .u64 (p.num : Int), .string (txt p.text), .slice P pf.len pc, .string (txt o.name), .string (txt o.key), .int .i64 o.kind, .int .u64 (o.num : Int), .string (txt o.text), .slice O og.len oc] 37)).alloc (.cells #[.string ⟨#[]⟩, .string ⟨#[]⟩, .int .i64 0, .int .u64 0, .string ⟨#[]⟩, .slice none 0 0] 27)).cell? ⟨w.heap.size + 1, 0, none⟩ = some (.int .i64 (3)) := (B0.out.2.2.1.cell 0).trans rfl
 clear hx hw hp ho hf hpf hog hl hd hx0 ho0 hne hhn
 go_enter Try.func11, Try.ntmps11
 go_upto_region 1 with (fail)
 go_cut [6] (fun t6 wx => t6 = .bool false ∧ Hid (Bx3 w w.heap.size (w.heap.size + 1) (w.heap.size + 1 + 1) (cN a (.slice A f.len c)) #[.int .i64 (3), .slice B l.length m, .string (txt p.name), .string (txt p.key), .int .i64 p.kind, .int .u64 (p.num : Int), .string (txt p.text), .slice P pf.len pc, .string (txt o.name), .string (txt o.key), .int .i64 o.kind, .int .u64 (o.num : Int), .string (txt o.text), .slice O og.len oc] #[.string ⟨#[]⟩, .string ⟨#[]⟩, .int .i64 0, .int .u64 0, .string ⟨#[]⟩, .slice none 0 0] wx))
 case first =>
  go_wp2
  go_meet
  exact ⟨rfl, B0⟩
 case rest =>
  obtain ⟨rfl, S0⟩ := hcut
  obtain ⟨w0, hw0⟩ : ∃ w0, w0 = wc := ⟨_, rfl⟩
  subst hw0
  clear qx0 B0
  have qx0 : (w0).cell? ⟨w.heap.size + 1, 0, none⟩ = some (.int .i64 (3)) := (S0.out.2.2.1.cell 0).trans rfl
  have qx1 : (w0).cell? ⟨w.heap.size + 1, 1, none⟩ = some (.slice B l.length m) := (S0.out.2.2.1.cell 1).trans rfl
  have qx2 : (w0).cell? ⟨w.heap.size + 1, 2, none⟩ = some (.string (txt p.name)) := (S0.out.2.2.1.cell 2).trans rfl
  have qx3 : (w0).cell? ⟨w.heap.size + 1, 3, none⟩ = some (.string (txt p.key)) := (S0.out.2.2.1.cell 3).trans rfl
  have qx4 : (w0).cell? ⟨w.heap.size + 1, 4, none⟩ = some (.int .i64 p.kind) := (S0.out.2.2.1.cell 4).trans rfl
  have qx5 : (w0).cell? ⟨w.heap.size + 1, 5, none⟩ = some (.int .u64 (p.num : Int)) := (S0.out.2.2.1.cell 5).trans rfl
  have qx6 : (w0).cell? ⟨w.heap.size + 1, 6, none⟩ = some (.string (txt p.text)) := (S0.out.2.2.1.cell 6).trans rfl
  have qx7 : (w0).cell? ⟨w.heap.size + 1, 7, none⟩ = some (.slice P pf.len pc) := (S0.out.2.2.1.cell 7).trans rfl
  go_wp2_with fail
  refine (HN _ S0.out.1).out.mono ?_
  rintro r w1 ⟨rfl, hb⟩
  have S1 := hHd (S0.out.go hb)
  clear hb
  clear qx0 qx1 qx2 qx3 qx4 qx5 qx6 qx7
  have fz0 : (w1).frozen? ⟨w.heap.size + 1 + 1, 0, none⟩ = false := S1.out.2.2.2.1.frozen 0
  have qz0 : (w1).cell? ⟨w.heap.size + 1 + 1, 0, none⟩ = some (.string ⟨#[]⟩) := (S1.out.2.2.2.1.cell 0).trans rfl
  have fz1 : (w1).frozen? ⟨w.heap.size + 1 + 1, 1, none⟩ = false := S1.out.2.2.2.1.frozen 1
  have qz1 : (w1).cell? ⟨w.heap.size + 1 + 1, 1, none⟩ = some (.string ⟨#[]⟩) := (S1.out.2.2.2.1.cell 1).trans rfl
  have fz2 : (w1).frozen? ⟨w.heap.size + 1 + 1, 2, none⟩ = false := S1.out.2.2.2.1.frozen 2
  have qz2 : (w1).cell? ⟨w.heap.size + 1 + 1, 2, none⟩ = some (.int .i64 0) := (S1.out.2.2.2.1.cell 2).trans rfl
  have fz3 : (w1).frozen? ⟨w.heap.size + 1 + 1, 3, none⟩ = false := S1.out.2.2.2.1.frozen 3
  have qz3 : (w1).cell? ⟨w.heap.size + 1 + 1, 3, none⟩ = some (.int .u64 0) := (S1.out.2.2.2.1.cell 3).trans rfl
  have fz4 : (w1).frozen? ⟨w.heap.size + 1 + 1, 4, none⟩ = false := S1.out.2.2.2.1.frozen 4
  have qz4 : (w1).cell? ⟨w.heap.size + 1 + 1, 4, none⟩ = some (.string ⟨#[]⟩) := (S1.out.2.2.2.1.cell 4).trans rfl
  have fz5 : (w1).frozen? ⟨w.heap.size + 1 + 1, 5, none⟩ = false := S1.out.2.2.2.1.frozen 5
  have qz5 : (w1).cell? ⟨w.heap.size + 1 + 1, 5, none⟩ = some (.slice none 0 0) := (S1.out.2.2.2.1.cell 5).trans rfl
  have HE := hHd (S1.out.end_ (.string ⟨#[]⟩) (.string ⟨#[]⟩) (.int .i64 0) (.int .u64 0) (.string ⟨#[]⟩) (.slice none 0 0))
  go_wp2
  refine bodyPost_ret (res_ct9 rfl _ _ (w.heap.size + 1 + 1) 27 _ (0, 0) _ rfl HE.out.1 Try.underlying27 rfl (by kernel_rfl)) rfl ?_
  exact ⟨ndC zeroT (.slice none 0 0), rfl, (LieZ.zero _ _).p _, HE.out.2⟩
theorem rone17_3b (a p o : NdD) (f pf og : NdF) (A P O B : Option Addr) (c pc oc m : Nat) (l : List Stp) (d : Nat → Prop) (w : World) (hd : UndZ d w) (hx : LieZ d w (ndC a (.slice A f.len c)) (a, f)) (hw : WayV w.heap.size w (.slice B l.length m) l) (hp : LieZ d w (ndC p (.slice P pf.len pc)) (p, pf)) (ho : LieZ d w (ndC o (.slice O og.len oc)) (o, og)) (hf : f.size ≤ 1000000) (hpf : pf.size ≤ 1000000) (hog : og.size ≤ 1000000) (hl : l.length ≤ 1000000) (hne : l ≠ []) (hhn : hasX p l = true) (hho : hasX o l = false) :
  Calls Try.prog 11 #[.agg (cN a (.slice A f.len c)), .agg #[.int .i64 (3), .slice B l.length m, .string (txt p.name), .string (txt p.key), .int .i64 p.kind, .int .u64 (p.num : Int), .string (txt p.text), .slice P pf.len pc, .string (txt o.name), .string (txt o.key), .int .i64 o.kind, .int .u64 (o.num : Int), .string (txt o.text), .slice O og.len oc]] w (PTreZ d (oneX (a, f) ⟨3, l, (p, pf), (o, og)⟩).1 (.int .i64 ((oneX (a, f) ⟨3, l, (p, pf), (o, og)⟩).2 : Int)) w) := by
 have hx0 := hx.lie hd
 have ho0 := ho.lie hd
 have HD := hHd hd
 have hr : oneX (a, f) ⟨3, l, (p, pf), (o, og)⟩ = (noN, 1) := by
  have e2 := hasX_no hho; unfold oneX; rw [if_pos (.inr (.inr (.inr ⟨by simp, e2⟩)))]
 rw [hr]
 clear hr
 have hps : 0 < l.length := List.length_pos_iff.2 hne
 have y0 : ((l.length : Int) == 0) = false := beq_eq_false_iff_ne.2 (by omega)
 have y1 : (l.length == 0) = false := beq_eq_false_iff_ne.2 (by omega)
 have HN : ∀ W, Below w.heap.size w W → Hid (Calls Try.prog 21 #[.agg (cN p (.slice P pf.len pc)), .slice B l.length m] W (Ans9 (.bool true) W)) := fun W hW => hHd (by have h := rhas17_any p P pf.len pc l _ W (hw.below hW) hne hl; rw [hhn] at h; exact h)
 have HO : ∀ W, Below w.heap.size w W → Hid (Calls Try.prog 21 #[.agg (cN o (.slice O og.len oc)), .slice B l.length m] W (Ans9 (.bool false) W)) := fun W hW => hHd (by have h := rhas17_any o O og.len oc l _ W (hw.below hW) hne hl; rw [hho] at h; exact h)
 have B0 := hHd (bx3_new w (cN a (.slice A f.len c)) #[.int .i64 (3), .slice B l.length m, .string (txt p.name), .string (txt p.key), .int .i64 p.kind, .int .u64 (p.num : Int), .string (txt p.text), .slice P pf.len pc, .string (txt o.name), .string (txt o.key), .int .i64 o.kind, .int .u64 (o.num : Int), .string (txt o.text), .slice O og.len oc] #[.string ⟨#[]⟩, .string ⟨#[]⟩, .int .i64 0, .int .u64 0, .string ⟨#[]⟩, .slice none 0 0])
 have qx0 : (((w.alloc (.cells (cN a (.slice A f.len c)) 27)).alloc (.cells #[.int .i64 (3), .slice B l.length m, .string (txt p.name), .string (txt p.key), .int .i64 p.kind, .int .u64 (p.num : Int), .string (txt p.text), .slice P pf.len pc, .string (txt o.name), .string (txt o.key), .int .i64 o.kind, .int .u64 (o.num : Int), .string (txt o.text), .slice O og.len oc] 37)).alloc (.cells #[.string ⟨#[]⟩, .string ⟨#[]⟩, .int .i64 0, .int .u64 0, .string ⟨#[]⟩, .slice none 0 0] 27)).cell? ⟨w.heap.size + 1, 0, none⟩ = some (.int .i64 (3)) := (B0.out.2.2.1.cell 0).trans rfl
 clear hx hw hp ho hf hpf hog hl hd hx0 ho0 hne hhn hho
 go_enter Try.func11, Try.ntmps11
 go_upto_region 1 with (fail)
 go_cut [6] (fun t6 wx => t6 = .bool false ∧ Hid (Bx3 w w.heap.size (w.heap.size + 1) (w.heap.size + 1 + 1) (cN a (.slice A f.len c)) #[.int .i64 (3), .slice B l.length m, .string (txt p.name), .string (txt p.key), .int .i64 p.kind, .int .u64 (p.num : Int), .string (txt p.text), .slice P pf.len pc, .string (txt o.name), .string (txt o.key), .int .i64 o.kind, .int .u64 (o.num : Int), .string (txt o.text), .slice O og.len oc] #[.string ⟨#[]⟩, .string ⟨#[]⟩, .int .i64 0, .int .u64 0, .string ⟨#[]⟩, .slice none 0 0] wx))
 case first =>
  go_wp2
  go_meet
  exact ⟨rfl, B0⟩
 case rest =>
  obtain ⟨rfl, S0⟩ := hcut
  obtain ⟨w0, hw0⟩ : ∃ w0, w0 = wc := ⟨_, rfl⟩
  subst hw0
  clear qx0 B0
  have qx0 : (w0).cell? ⟨w.heap.size + 1, 0, none⟩ = some (.int .i64 (3)) := (S0.out.2.2.1.cell 0).trans rfl
  have qx1 : (w0).cell? ⟨w.heap.size + 1, 1, none⟩ = some (.slice B l.length m) := (S0.out.2.2.1.cell 1).trans rfl
  have qx2 : (w0).cell? ⟨w.heap.size + 1, 2, none⟩ = some (.string (txt p.name)) := (S0.out.2.2.1.cell 2).trans rfl
  have qx3 : (w0).cell? ⟨w.heap.size + 1, 3, none⟩ = some (.string (txt p.key)) := (S0.out.2.2.1.cell 3).trans rfl
  have qx4 : (w0).cell? ⟨w.heap.size + 1, 4, none⟩ = some (.int .i64 p.kind) := (S0.out.2.2.1.cell 4).trans rfl
  have qx5 : (w0).cell? ⟨w.heap.size + 1, 5, none⟩ = some (.int .u64 (p.num : Int)) := (S0.out.2.2.1.cell 5).trans rfl
  have qx6 : (w0).cell? ⟨w.heap.size + 1, 6, none⟩ = some (.string (txt p.text)) := (S0.out.2.2.1.cell 6).trans rfl
  have qx7 : (w0).cell? ⟨w.heap.size + 1, 7, none⟩ = some (.slice P pf.len pc) := (S0.out.2.2.1.cell 7).trans rfl
  go_wp2_with fail
  refine (HN _ S0.out.1).out.mono ?_
  rintro r w1 ⟨rfl, hb⟩
  have S1 := hHd (S0.out.go hb)
  clear hb
  clear qx0 qx1 qx2 qx3 qx4 qx5 qx6 qx7
  have qx1 : (w1).cell? ⟨w.heap.size + 1, 1, none⟩ = some (.slice B l.length m) := (S1.out.2.2.1.cell 1).trans rfl
  have qx8 : (w1).cell? ⟨w.heap.size + 1, 8, none⟩ = some (.string (txt o.name)) := (S1.out.2.2.1.cell 8).trans rfl
  have qx9 : (w1).cell? ⟨w.heap.size + 1, 9, none⟩ = some (.string (txt o.key)) := (S1.out.2.2.1.cell 9).trans rfl
  have qx10 : (w1).cell? ⟨w.heap.size + 1, 10, none⟩ = some (.int .i64 o.kind) := (S1.out.2.2.1.cell 10).trans rfl
  have qx11 : (w1).cell? ⟨w.heap.size + 1, 11, none⟩ = some (.int .u64 (o.num : Int)) := (S1.out.2.2.1.cell 11).trans rfl
  have qx12 : (w1).cell? ⟨w.heap.size + 1, 12, none⟩ = some (.string (txt o.text)) := (S1.out.2.2.1.cell 12).trans rfl
  have qx13 : (w1).cell? ⟨w.heap.size + 1, 13, none⟩ = some (.slice O og.len oc) := (S1.out.2.2.1.cell 13).trans rfl
  go_wp2_with fail
  refine (HO _ S1.out.1).out.mono ?_
  rintro r w2 ⟨rfl, hb⟩
  have S2 := hHd (S1.out.go hb)
  clear hb
  clear qx1 qx8 qx9 qx10 qx11 qx12 qx13
  have fz0 : (w2).frozen? ⟨w.heap.size + 1 + 1, 0, none⟩ = false := S2.out.2.2.2.1.frozen 0
  have qz0 : (w2).cell? ⟨w.heap.size + 1 + 1, 0, none⟩ = some (.string ⟨#[]⟩) := (S2.out.2.2.2.1.cell 0).trans rfl
  have fz1 : (w2).frozen? ⟨w.heap.size + 1 + 1, 1, none⟩ = false := S2.out.2.2.2.1.frozen 1
  have qz1 : (w2).cell? ⟨w.heap.size + 1 + 1, 1, none⟩ = some (.string ⟨#[]⟩) := (S2.out.2.2.2.1.cell 1).trans rfl
  have fz2 : (w2).frozen? ⟨w.heap.size + 1 + 1, 2, none⟩ = false := S2.out.2.2.2.1.frozen 2
  have qz2 : (w2).cell? ⟨w.heap.size + 1 + 1, 2, none⟩ = some (.int .i64 0) := (S2.out.2.2.2.1.cell 2).trans rfl
  have fz3 : (w2).frozen? ⟨w.heap.size + 1 + 1, 3, none⟩ = false := S2.out.2.2.2.1.frozen 3
  have qz3 : (w2).cell? ⟨w.heap.size + 1 + 1, 3, none⟩ = some (.int .u64 0) := (S2.out.2.2.2.1.cell 3).trans rfl
  have fz4 : (w2).frozen? ⟨w.heap.size + 1 + 1, 4, none⟩ = false := S2.out.2.2.2.1.frozen 4
  have qz4 : (w2).cell? ⟨w.heap.size + 1 + 1, 4, none⟩ = some (.string ⟨#[]⟩) := (S2.out.2.2.2.1.cell 4).trans rfl
  have fz5 : (w2).frozen? ⟨w.heap.size + 1 + 1, 5, none⟩ = false := S2.out.2.2.2.1.frozen 5
  have qz5 : (w2).cell? ⟨w.heap.size + 1 + 1, 5, none⟩ = some (.slice none 0 0) := (S2.out.2.2.2.1.cell 5).trans rfl
  have HE := hHd (S2.out.end_ (.string ⟨#[]⟩) (.string ⟨#[]⟩) (.int .i64 0) (.int .u64 0) (.string ⟨#[]⟩) (.slice none 0 0))
  go_wp2
  refine bodyPost_ret (res_ct9 rfl _ _ (w.heap.size + 1 + 1) 27 _ (0, 0) _ rfl HE.out.1 Try.underlying27 rfl (by kernel_rfl)) rfl ?_
  exact ⟨ndC zeroT (.slice none 0 0), rfl, (LieZ.zero _ _).p _, HE.out.2⟩
theorem rone17_3c (a p o : NdD) (f pf og : NdF) (A P O B : Option Addr) (c pc oc m : Nat) (l : List Stp) (d : Nat → Prop) (w : World) (hd : UndZ d w) (hx : LieZ d w (ndC a (.slice A f.len c)) (a, f)) (hw : WayV w.heap.size w (.slice B l.length m) l) (hp : LieZ d w (ndC p (.slice P pf.len pc)) (p, pf)) (ho : LieZ d w (ndC o (.slice O og.len oc)) (o, og)) (hf : f.size ≤ 1000000) (hpf : pf.size ≤ 1000000) (hog : og.size ≤ 1000000) (hl : l.length ≤ 1000000) (hne : l ≠ []) (hhn : hasX p l = true) (hho : hasX o l = true) (his : (GetX (a, f) l).2 = false) :
  Calls Try.prog 11 #[.agg (cN a (.slice A f.len c)), .agg #[.int .i64 (3), .slice B l.length m, .string (txt p.name), .string (txt p.key), .int .i64 p.kind, .int .u64 (p.num : Int), .string (txt p.text), .slice P pf.len pc, .string (txt o.name), .string (txt o.key), .int .i64 o.kind, .int .u64 (o.num : Int), .string (txt o.text), .slice O og.len oc]] w (PTreZ d (oneX (a, f) ⟨3, l, (p, pf), (o, og)⟩).1 (.int .i64 ((oneX (a, f) ⟨3, l, (p, pf), (o, og)⟩).2 : Int)) w) := by
 have hx0 := hx.lie hd
 have ho0 := ho.lie hd
 have HD := hHd hd
 have hr : oneX (a, f) ⟨3, l, (p, pf), (o, og)⟩ = (noN, 30) := by
  have e1 := hasX_is hhn; have e2 := hasX_is hho; unfold oneX; rw [if_neg (by rintro (⟨_, _, h⟩ | h | ⟨_, h⟩ | ⟨_, h⟩); exact h rfl; exact hne h; exact h e1; exact h e2), if_neg (by rintro ⟨h, _⟩; exact absurd h (by simp))]; rw [if_pos ⟨by simp, his⟩]
 rw [hr]
 clear hr
 have hps : 0 < l.length := List.length_pos_iff.2 hne
 have y0 : ((l.length : Int) == 0) = false := beq_eq_false_iff_ne.2 (by omega)
 have y1 : (l.length == 0) = false := beq_eq_false_iff_ne.2 (by omega)
 have HN : ∀ W, Below w.heap.size w W → Hid (Calls Try.prog 21 #[.agg (cN p (.slice P pf.len pc)), .slice B l.length m] W (Ans9 (.bool true) W)) := fun W hW => hHd (by have h := rhas17_any p P pf.len pc l _ W (hw.below hW) hne hl; rw [hhn] at h; exact h)
 have HO : ∀ W, Below w.heap.size w W → Hid (Calls Try.prog 21 #[.agg (cN o (.slice O og.len oc)), .slice B l.length m] W (Ans9 (.bool true) W)) := fun W hW => hHd (by have h := rhas17_any o O og.len oc l _ W (hw.below hW) hne hl; rw [hho] at h; exact h)
 obtain ⟨⟨ya, yf⟩, hy⟩ : ∃ y, y = (GetX (a, f) l).1 := ⟨_, rfl⟩
 have hyf : yf.size ≤ 1000000 := by have h := GetX_few17 (a, f) l; rw [← hy] at h; exact Nat.le_trans h hf
 have HG : ∀ W, Below w.heap.size w W → Hid (Calls Try.prog 22 #[.agg (cN a (.slice A f.len c)), .slice B l.length m] W (RTreP (ya, yf) (.bool false) W)) := fun W hW => hHd (by have h := rget_any W.heap.size l (a, f) _ _ W (Nat.le_refl _) (hx0.below hW) (hw.below hW) hf; rw [← hy, his] at h; exact h.mono fun _ _ k => k.r)
 have HS : ∀ W cs, LieN W cs (ya, yf) → Below w.heap.size w W → Hid (Calls Try.prog 12 #[.agg cs.toArray, .agg (cN o (.slice O og.len oc))] W (Ans9 (.bool (decide ((ya, yf) = (o, og)))) W)) := fun W cs hc hW => hHd (by have h := rsamet_any (ya, yf) (o, og) cs _ W hc (ho0.below hW) hyf hog; exact h)
 generalize decide ((ya, yf) = (o, og)) = sm at HS
 have B0 := hHd (bx3_new w (cN a (.slice A f.len c)) #[.int .i64 (3), .slice B l.length m, .string (txt p.name), .string (txt p.key), .int .i64 p.kind, .int .u64 (p.num : Int), .string (txt p.text), .slice P pf.len pc, .string (txt o.name), .string (txt o.key), .int .i64 o.kind, .int .u64 (o.num : Int), .string (txt o.text), .slice O og.len oc] #[.string ⟨#[]⟩, .string ⟨#[]⟩, .int .i64 0, .int .u64 0, .string ⟨#[]⟩, .slice none 0 0])
 have qx0 : (((w.alloc (.cells (cN a (.slice A f.len c)) 27)).alloc (.cells #[.int .i64 (3), .slice B l.length m, .string (txt p.name), .string (txt p.key), .int .i64 p.kind, .int .u64 (p.num : Int), .string (txt p.text), .slice P pf.len pc, .string (txt o.name), .string (txt o.key), .int .i64 o.kind, .int .u64 (o.num : Int), .string (txt o.text), .slice O og.len oc] 37)).alloc (.cells #[.string ⟨#[]⟩, .string ⟨#[]⟩, .int .i64 0, .int .u64 0, .string ⟨#[]⟩, .slice none 0 0] 27)).cell? ⟨w.heap.size + 1, 0, none⟩ = some (.int .i64 (3)) := (B0.out.2.2.1.cell 0).trans rfl
 clear hx hw hp ho hf hpf hog hl hd hx0 ho0 hne hhn hho his hy hyf
 go_enter Try.func11, Try.ntmps11
 go_upto_region 1 with (fail)
 go_cut [6] (fun t6 wx => t6 = .bool false ∧ Hid (Bx3 w w.heap.size (w.heap.size + 1) (w.heap.size + 1 + 1) (cN a (.slice A f.len c)) #[.int .i64 (3), .slice B l.length m, .string (txt p.name), .string (txt p.key), .int .i64 p.kind, .int .u64 (p.num : Int), .string (txt p.text), .slice P pf.len pc, .string (txt o.name), .string (txt o.key), .int .i64 o.kind, .int .u64 (o.num : Int), .string (txt o.text), .slice O og.len oc] #[.string ⟨#[]⟩, .string ⟨#[]⟩, .int .i64 0, .int .u64 0, .string ⟨#[]⟩, .slice none 0 0] wx))
 case first =>
  go_wp2
  go_meet
  exact ⟨rfl, B0⟩
 case rest =>
  obtain ⟨rfl, S0⟩ := hcut
  obtain ⟨w0, hw0⟩ : ∃ w0, w0 = wc := ⟨_, rfl⟩
  subst hw0
  clear qx0 B0
  have qx0 : (w0).cell? ⟨w.heap.size + 1, 0, none⟩ = some (.int .i64 (3)) := (S0.out.2.2.1.cell 0).trans rfl
  have qx1 : (w0).cell? ⟨w.heap.size + 1, 1, none⟩ = some (.slice B l.length m) := (S0.out.2.2.1.cell 1).trans rfl
  have qx2 : (w0).cell? ⟨w.heap.size + 1, 2, none⟩ = some (.string (txt p.name)) := (S0.out.2.2.1.cell 2).trans rfl
  have qx3 : (w0).cell? ⟨w.heap.size + 1, 3, none⟩ = some (.string (txt p.key)) := (S0.out.2.2.1.cell 3).trans rfl
  have qx4 : (w0).cell? ⟨w.heap.size + 1, 4, none⟩ = some (.int .i64 p.kind) := (S0.out.2.2.1.cell 4).trans rfl
  have qx5 : (w0).cell? ⟨w.heap.size + 1, 5, none⟩ = some (.int .u64 (p.num : Int)) := (S0.out.2.2.1.cell 5).trans rfl
  have qx6 : (w0).cell? ⟨w.heap.size + 1, 6, none⟩ = some (.string (txt p.text)) := (S0.out.2.2.1.cell 6).trans rfl
  have qx7 : (w0).cell? ⟨w.heap.size + 1, 7, none⟩ = some (.slice P pf.len pc) := (S0.out.2.2.1.cell 7).trans rfl
  go_wp2_with fail
  refine (HN _ S0.out.1).out.mono ?_
  rintro r w1 ⟨rfl, hb⟩
  have S1 := hHd (S0.out.go hb)
  clear hb
  clear qx0 qx1 qx2 qx3 qx4 qx5 qx6 qx7
  have qx1 : (w1).cell? ⟨w.heap.size + 1, 1, none⟩ = some (.slice B l.length m) := (S1.out.2.2.1.cell 1).trans rfl
  have qx8 : (w1).cell? ⟨w.heap.size + 1, 8, none⟩ = some (.string (txt o.name)) := (S1.out.2.2.1.cell 8).trans rfl
  have qx9 : (w1).cell? ⟨w.heap.size + 1, 9, none⟩ = some (.string (txt o.key)) := (S1.out.2.2.1.cell 9).trans rfl
  have qx10 : (w1).cell? ⟨w.heap.size + 1, 10, none⟩ = some (.int .i64 o.kind) := (S1.out.2.2.1.cell 10).trans rfl
  have qx11 : (w1).cell? ⟨w.heap.size + 1, 11, none⟩ = some (.int .u64 (o.num : Int)) := (S1.out.2.2.1.cell 11).trans rfl
  have qx12 : (w1).cell? ⟨w.heap.size + 1, 12, none⟩ = some (.string (txt o.text)) := (S1.out.2.2.1.cell 12).trans rfl
  have qx13 : (w1).cell? ⟨w.heap.size + 1, 13, none⟩ = some (.slice O og.len oc) := (S1.out.2.2.1.cell 13).trans rfl
  go_wp2_with fail
  refine (HO _ S1.out.1).out.mono ?_
  rintro r w2 ⟨rfl, hb⟩
  have S2 := hHd (S1.out.go hb)
  clear hb
  clear qx1 qx8 qx9 qx10 qx11 qx12 qx13
  have qx1 : (w2).cell? ⟨w.heap.size + 1, 1, none⟩ = some (.slice B l.length m) := (S2.out.2.2.1.cell 1).trans rfl
  have qn0 : (w2).cell? ⟨w.heap.size, 0, none⟩ = some (.string (txt a.name)) := (S2.out.2.1.cell 0).trans rfl
  have qn1 : (w2).cell? ⟨w.heap.size, 1, none⟩ = some (.string (txt a.key)) := (S2.out.2.1.cell 1).trans rfl
  have qn2 : (w2).cell? ⟨w.heap.size, 2, none⟩ = some (.int .i64 a.kind) := (S2.out.2.1.cell 2).trans rfl
  have qn3 : (w2).cell? ⟨w.heap.size, 3, none⟩ = some (.int .u64 (a.num : Int)) := (S2.out.2.1.cell 3).trans rfl
  have qn4 : (w2).cell? ⟨w.heap.size, 4, none⟩ = some (.string (txt a.text)) := (S2.out.2.1.cell 4).trans rfl
  have qn5 : (w2).cell? ⟨w.heap.size, 5, none⟩ = some (.slice A f.len c) := (S2.out.2.1.cell 5).trans rfl
  go_wp2_with fail
  refine (HG _ S2.out.1).out.mono ?_
  intro r w6 hr
  obtain ⟨A6, c6, rfl, hl6, hb6⟩ := hr.flatR
  have SA := hHd ((S2.out.go hb6).go ((Below.refl _ _).alloc (Nat.le_refl _) (.cells (cN ya (.slice A6 yf.len c6)) 27)))
  have LY : Hid (LieN (w6.alloc (.cells (cN ya (.slice A6 yf.len c6)) 27)) (ndC ya (.slice A6 yf.len c6)) (ya, yf)) := hHd (hl6.below bAl)
  have YB : Hid (Blk (w6.alloc (.cells (cN ya (.slice A6 yf.len c6)) 27)) w6.heap.size 27 (cN ya (.slice A6 yf.len c6))) := hHd (Blk.new _ _ _)
  have C7 := HS _ _ LY.out SA.out.1
  clear hr hl6 hb6
  clear qx1 qn0 qn1 qn2 qn3 qn4 qn5
  have qy0 : (w6.alloc (.cells (cN ya (.slice A6 yf.len c6)) 27)).cell? ⟨w6.heap.size, 0, none⟩ = some (.string (txt ya.name)) := (YB.out.cell 0).trans rfl
  have qy1 : (w6.alloc (.cells (cN ya (.slice A6 yf.len c6)) 27)).cell? ⟨w6.heap.size, 1, none⟩ = some (.string (txt ya.key)) := (YB.out.cell 1).trans rfl
  have qy2 : (w6.alloc (.cells (cN ya (.slice A6 yf.len c6)) 27)).cell? ⟨w6.heap.size, 2, none⟩ = some (.int .i64 ya.kind) := (YB.out.cell 2).trans rfl
  have qy3 : (w6.alloc (.cells (cN ya (.slice A6 yf.len c6)) 27)).cell? ⟨w6.heap.size, 3, none⟩ = some (.int .u64 (ya.num : Int)) := (YB.out.cell 3).trans rfl
  have qy4 : (w6.alloc (.cells (cN ya (.slice A6 yf.len c6)) 27)).cell? ⟨w6.heap.size, 4, none⟩ = some (.string (txt ya.text)) := (YB.out.cell 4).trans rfl
  have qy5 : (w6.alloc (.cells (cN ya (.slice A6 yf.len c6)) 27)).cell? ⟨w6.heap.size, 5, none⟩ = some (.slice A6 yf.len c6) := (YB.out.cell 5).trans rfl
  have qx8 : (w6.alloc (.cells (cN ya (.slice A6 yf.len c6)) 27)).cell? ⟨w.heap.size + 1, 8, none⟩ = some (.string (txt o.name)) := (SA.out.2.2.1.cell 8).trans rfl
  have qx9 : (w6.alloc (.cells (cN ya (.slice A6 yf.len c6)) 27)).cell? ⟨w.heap.size + 1, 9, none⟩ = some (.string (txt o.key)) := (SA.out.2.2.1.cell 9).trans rfl
  have qx10 : (w6.alloc (.cells (cN ya (.slice A6 yf.len c6)) 27)).cell? ⟨w.heap.size + 1, 10, none⟩ = some (.int .i64 o.kind) := (SA.out.2.2.1.cell 10).trans rfl
  have qx11 : (w6.alloc (.cells (cN ya (.slice A6 yf.len c6)) 27)).cell? ⟨w.heap.size + 1, 11, none⟩ = some (.int .u64 (o.num : Int)) := (SA.out.2.2.1.cell 11).trans rfl
  have qx12 : (w6.alloc (.cells (cN ya (.slice A6 yf.len c6)) 27)).cell? ⟨w.heap.size + 1, 12, none⟩ = some (.string (txt o.text)) := (SA.out.2.2.1.cell 12).trans rfl
  have qx13 : (w6.alloc (.cells (cN ya (.slice A6 yf.len c6)) 27)).cell? ⟨w.heap.size + 1, 13, none⟩ = some (.slice O og.len oc) := (SA.out.2.2.1.cell 13).trans rfl
  go_wp2_with fail
  refine C7.out.mono ?_
  rintro r w7 ⟨rfl, hb⟩
  have S7 := hHd (SA.out.go hb)
  clear hb C7
  clear qy0 qy1 qy2 qy3 qy4 qy5 qx8 qx9 qx10 qx11 qx12 qx13
  have fz0 : (w7).frozen? ⟨w.heap.size + 1 + 1, 0, none⟩ = false := S7.out.2.2.2.1.frozen 0
  have qz0 : (w7).cell? ⟨w.heap.size + 1 + 1, 0, none⟩ = some (.string ⟨#[]⟩) := (S7.out.2.2.2.1.cell 0).trans rfl
  have fz1 : (w7).frozen? ⟨w.heap.size + 1 + 1, 1, none⟩ = false := S7.out.2.2.2.1.frozen 1
  have qz1 : (w7).cell? ⟨w.heap.size + 1 + 1, 1, none⟩ = some (.string ⟨#[]⟩) := (S7.out.2.2.2.1.cell 1).trans rfl
  have fz2 : (w7).frozen? ⟨w.heap.size + 1 + 1, 2, none⟩ = false := S7.out.2.2.2.1.frozen 2
  have qz2 : (w7).cell? ⟨w.heap.size + 1 + 1, 2, none⟩ = some (.int .i64 0) := (S7.out.2.2.2.1.cell 2).trans rfl
  have fz3 : (w7).frozen? ⟨w.heap.size + 1 + 1, 3, none⟩ = false := S7.out.2.2.2.1.frozen 3
  have qz3 : (w7).cell? ⟨w.heap.size + 1 + 1, 3, none⟩ = some (.int .u64 0) := (S7.out.2.2.2.1.cell 3).trans rfl
  have fz4 : (w7).frozen? ⟨w.heap.size + 1 + 1, 4, none⟩ = false := S7.out.2.2.2.1.frozen 4
  have qz4 : (w7).cell? ⟨w.heap.size + 1 + 1, 4, none⟩ = some (.string ⟨#[]⟩) := (S7.out.2.2.2.1.cell 4).trans rfl
  have fz5 : (w7).frozen? ⟨w.heap.size + 1 + 1, 5, none⟩ = false := S7.out.2.2.2.1.frozen 5
  have qz5 : (w7).cell? ⟨w.heap.size + 1 + 1, 5, none⟩ = some (.slice none 0 0) := (S7.out.2.2.2.1.cell 5).trans rfl
  have HE := hHd (S7.out.end_ (.string ⟨#[]⟩) (.string ⟨#[]⟩) (.int .i64 0) (.int .u64 0) (.string ⟨#[]⟩) (.slice none 0 0))
  go_wp2
  refine bodyPost_ret (res_ct9 rfl _ _ (w.heap.size + 1 + 1) 27 _ (0, 0) _ rfl HE.out.1 Try.underlying27 rfl (by kernel_rfl)) rfl ?_
  exact ⟨ndC zeroT (.slice none 0 0), rfl, (LieZ.zero _ _).p _, HE.out.2⟩
theorem rone17_3d (a p o : NdD) (f pf og : NdF) (A P O B : Option Addr) (c pc oc m : Nat) (l : List Stp) (d : Nat → Prop) (w : World) (hd : UndZ d w) (hx : LieZ d w (ndC a (.slice A f.len c)) (a, f)) (hw : WayV w.heap.size w (.slice B l.length m) l) (hp : LieZ d w (ndC p (.slice P pf.len pc)) (p, pf)) (ho : LieZ d w (ndC o (.slice O og.len oc)) (o, og)) (hf : f.size ≤ 1000000) (hpf : pf.size ≤ 1000000) (hog : og.size ≤ 1000000) (hl : l.length ≤ 1000000) (hne : l ≠ []) (hhn : hasX p l = true) (hho : hasX o l = true) (his : (GetX (a, f) l).2 = true) (hsm : (GetX (a, f) l).1 ≠ (o, og)) :
  Calls Try.prog 11 #[.agg (cN a (.slice A f.len c)), .agg #[.int .i64 (3), .slice B l.length m, .string (txt p.name), .string (txt p.key), .int .i64 p.kind, .int .u64 (p.num : Int), .string (txt p.text), .slice P pf.len pc, .string (txt o.name), .string (txt o.key), .int .i64 o.kind, .int .u64 (o.num : Int), .string (txt o.text), .slice O og.len oc]] w (PTreZ d (oneX (a, f) ⟨3, l, (p, pf), (o, og)⟩).1 (.int .i64 ((oneX (a, f) ⟨3, l, (p, pf), (o, og)⟩).2 : Int)) w) := by
 have hx0 := hx.lie hd
 have ho0 := ho.lie hd
 have HD := hHd hd
 have hr : oneX (a, f) ⟨3, l, (p, pf), (o, og)⟩ = (noN, 23) := by
  have e1 := hasX_is hhn; have e2 := hasX_is hho; unfold oneX; rw [if_neg (by rintro (⟨_, _, h⟩ | h | ⟨_, h⟩ | ⟨_, h⟩); exact h rfl; exact hne h; exact h e1; exact h e2), if_neg (by rintro ⟨h, _⟩; exact absurd h (by simp))]; rw [if_neg (by rintro ⟨_, h⟩; rw [his] at h; cases h)]; rw [if_pos (.inl ⟨by simp, hsm⟩)]
 rw [hr]
 clear hr
 have hps : 0 < l.length := List.length_pos_iff.2 hne
 have y0 : ((l.length : Int) == 0) = false := beq_eq_false_iff_ne.2 (by omega)
 have y1 : (l.length == 0) = false := beq_eq_false_iff_ne.2 (by omega)
 have HN : ∀ W, Below w.heap.size w W → Hid (Calls Try.prog 21 #[.agg (cN p (.slice P pf.len pc)), .slice B l.length m] W (Ans9 (.bool true) W)) := fun W hW => hHd (by have h := rhas17_any p P pf.len pc l _ W (hw.below hW) hne hl; rw [hhn] at h; exact h)
 have HO : ∀ W, Below w.heap.size w W → Hid (Calls Try.prog 21 #[.agg (cN o (.slice O og.len oc)), .slice B l.length m] W (Ans9 (.bool true) W)) := fun W hW => hHd (by have h := rhas17_any o O og.len oc l _ W (hw.below hW) hne hl; rw [hho] at h; exact h)
 obtain ⟨⟨ya, yf⟩, hy⟩ : ∃ y, y = (GetX (a, f) l).1 := ⟨_, rfl⟩
 have hyf : yf.size ≤ 1000000 := by have h := GetX_few17 (a, f) l; rw [← hy] at h; exact Nat.le_trans h hf
 have HG : ∀ W, Below w.heap.size w W → Hid (Calls Try.prog 22 #[.agg (cN a (.slice A f.len c)), .slice B l.length m] W (RTreP (ya, yf) (.bool true) W)) := fun W hW => hHd (by have h := rget_any W.heap.size l (a, f) _ _ W (Nat.le_refl _) (hx0.below hW) (hw.below hW) hf; rw [← hy, his] at h; exact h.mono fun _ _ k => k.r)
 have HS : ∀ W cs, LieN W cs (ya, yf) → Below w.heap.size w W → Hid (Calls Try.prog 12 #[.agg cs.toArray, .agg (cN o (.slice O og.len oc))] W (Ans9 (.bool false) W)) := fun W cs hc hW => hHd (by have h := rsamet_any (ya, yf) (o, og) cs _ W hc (ho0.below hW) hyf hog; rw [decide_eq_false (by rw [hy]; exact hsm)] at h; exact h)
 have B0 := hHd (bx3_new w (cN a (.slice A f.len c)) #[.int .i64 (3), .slice B l.length m, .string (txt p.name), .string (txt p.key), .int .i64 p.kind, .int .u64 (p.num : Int), .string (txt p.text), .slice P pf.len pc, .string (txt o.name), .string (txt o.key), .int .i64 o.kind, .int .u64 (o.num : Int), .string (txt o.text), .slice O og.len oc] #[.string ⟨#[]⟩, .string ⟨#[]⟩, .int .i64 0, .int .u64 0, .string ⟨#[]⟩, .slice none 0 0])
 have qx0 : (((w.alloc (.cells (cN a (.slice A f.len c)) 27)).alloc (.cells #[.int .i64 (3), .slice B l.length m, .string (txt p.name), .string (txt p.key), .int .i64 p.kind, .int .u64 (p.num : Int), .string (txt p.text), .slice P pf.len pc, .string (txt o.name), .string (txt o.key), .int .i64 o.kind, .int .u64 (o.num : Int), .string (txt o.text), .slice O og.len oc] 37)).alloc (.cells #[.string ⟨#[]⟩, .string ⟨#[]⟩, .int .i64 0, .int .u64 0, .string ⟨#[]⟩, .slice none 0 0] 27)).cell? ⟨w.heap.size + 1, 0, none⟩ = some (.int .i64 (3)) := (B0.out.2.2.1.cell 0).trans rfl
 clear hx hw hp ho hf hpf hog hl hd hx0 ho0 hne hhn hho his hy hyf hsm
 go_enter Try.func11, Try.ntmps11
 go_upto_region 1 with (fail)
 go_cut [6] (fun t6 wx => t6 = .bool false ∧ Hid (Bx3 w w.heap.size (w.heap.size + 1) (w.heap.size + 1 + 1) (cN a (.slice A f.len c)) #[.int .i64 (3), .slice B l.length m, .string (txt p.name), .string (txt p.key), .int .i64 p.kind, .int .u64 (p.num : Int), .string (txt p.text), .slice P pf.len pc, .string (txt o.name), .string (txt o.key), .int .i64 o.kind, .int .u64 (o.num : Int), .string (txt o.text), .slice O og.len oc] #[.string ⟨#[]⟩, .string ⟨#[]⟩, .int .i64 0, .int .u64 0, .string ⟨#[]⟩, .slice none 0 0] wx))
 case first =>
  go_wp2
  go_meet
  exact ⟨rfl, B0⟩
 case rest =>
  obtain ⟨rfl, S0⟩ := hcut
  obtain ⟨w0, hw0⟩ : ∃ w0, w0 = wc := ⟨_, rfl⟩
  subst hw0
  clear qx0 B0
  have qx0 : (w0).cell? ⟨w.heap.size + 1, 0, none⟩ = some (.int .i64 (3)) := (S0.out.2.2.1.cell 0).trans rfl
  have qx1 : (w0).cell? ⟨w.heap.size + 1, 1, none⟩ = some (.slice B l.length m) := (S0.out.2.2.1.cell 1).trans rfl
  have qx2 : (w0).cell? ⟨w.heap.size + 1, 2, none⟩ = some (.string (txt p.name)) := (S0.out.2.2.1.cell 2).trans rfl
  have qx3 : (w0).cell? ⟨w.heap.size + 1, 3, none⟩ = some (.string (txt p.key)) := (S0.out.2.2.1.cell 3).trans rfl
  have qx4 : (w0).cell? ⟨w.heap.size + 1, 4, none⟩ = some (.int .i64 p.kind) := (S0.out.2.2.1.cell 4).trans rfl
  have qx5 : (w0).cell? ⟨w.heap.size + 1, 5, none⟩ = some (.int .u64 (p.num : Int)) := (S0.out.2.2.1.cell 5).trans rfl
  have qx6 : (w0).cell? ⟨w.heap.size + 1, 6, none⟩ = some (.string (txt p.text)) := (S0.out.2.2.1.cell 6).trans rfl
  have qx7 : (w0).cell? ⟨w.heap.size + 1, 7, none⟩ = some (.slice P pf.len pc) := (S0.out.2.2.1.cell 7).trans rfl
  go_wp2_with fail
  refine (HN _ S0.out.1).out.mono ?_
  rintro r w1 ⟨rfl, hb⟩
  have S1 := hHd (S0.out.go hb)
  clear hb
  clear qx0 qx1 qx2 qx3 qx4 qx5 qx6 qx7
  have qx1 : (w1).cell? ⟨w.heap.size + 1, 1, none⟩ = some (.slice B l.length m) := (S1.out.2.2.1.cell 1).trans rfl
  have qx8 : (w1).cell? ⟨w.heap.size + 1, 8, none⟩ = some (.string (txt o.name)) := (S1.out.2.2.1.cell 8).trans rfl
  have qx9 : (w1).cell? ⟨w.heap.size + 1, 9, none⟩ = some (.string (txt o.key)) := (S1.out.2.2.1.cell 9).trans rfl
  have qx10 : (w1).cell? ⟨w.heap.size + 1, 10, none⟩ = some (.int .i64 o.kind) := (S1.out.2.2.1.cell 10).trans rfl
  have qx11 : (w1).cell? ⟨w.heap.size + 1, 11, none⟩ = some (.int .u64 (o.num : Int)) := (S1.out.2.2.1.cell 11).trans rfl
  have qx12 : (w1).cell? ⟨w.heap.size + 1, 12, none⟩ = some (.string (txt o.text)) := (S1.out.2.2.1.cell 12).trans rfl
  have qx13 : (w1).cell? ⟨w.heap.size + 1, 13, none⟩ = some (.slice O og.len oc) := (S1.out.2.2.1.cell 13).trans rfl
  go_wp2_with fail
  refine (HO _ S1.out.1).out.mono ?_
  rintro r w2 ⟨rfl, hb⟩
  have S2 := hHd (S1.out.go hb)
  clear hb
  clear qx1 qx8 qx9 qx10 qx11 qx12 qx13
  have qx1 : (w2).cell? ⟨w.heap.size + 1, 1, none⟩ = some (.slice B l.length m) := (S2.out.2.2.1.cell 1).trans rfl
  have qn0 : (w2).cell? ⟨w.heap.size, 0, none⟩ = some (.string (txt a.name)) := (S2.out.2.1.cell 0).trans rfl
  have qn1 : (w2).cell? ⟨w.heap.size, 1, none⟩ = some (.string (txt a.key)) := (S2.out.2.1.cell 1).trans rfl
  have qn2 : (w2).cell? ⟨w.heap.size, 2, none⟩ = some (.int .i64 a.kind) := (S2.out.2.1.cell 2).trans rfl
  have qn3 : (w2).cell? ⟨w.heap.size, 3, none⟩ = some (.int .u64 (a.num : Int)) := (S2.out.2.1.cell 3).trans rfl
  have qn4 : (w2).cell? ⟨w.heap.size, 4, none⟩ = some (.string (txt a.text)) := (S2.out.2.1.cell 4).trans rfl
  have qn5 : (w2).cell? ⟨w.heap.size, 5, none⟩ = some (.slice A f.len c) := (S2.out.2.1.cell 5).trans rfl
  go_wp2_with fail
  refine (HG _ S2.out.1).out.mono ?_
  intro r w6 hr
  obtain ⟨A6, c6, rfl, hl6, hb6⟩ := hr.flatR
  have SA := hHd ((S2.out.go hb6).go ((Below.refl _ _).alloc (Nat.le_refl _) (.cells (cN ya (.slice A6 yf.len c6)) 27)))
  have LY : Hid (LieN (w6.alloc (.cells (cN ya (.slice A6 yf.len c6)) 27)) (ndC ya (.slice A6 yf.len c6)) (ya, yf)) := hHd (hl6.below bAl)
  have YB : Hid (Blk (w6.alloc (.cells (cN ya (.slice A6 yf.len c6)) 27)) w6.heap.size 27 (cN ya (.slice A6 yf.len c6))) := hHd (Blk.new _ _ _)
  have C7 := HS _ _ LY.out SA.out.1
  clear hr hl6 hb6
  clear qx1 qn0 qn1 qn2 qn3 qn4 qn5
  have qy0 : (w6.alloc (.cells (cN ya (.slice A6 yf.len c6)) 27)).cell? ⟨w6.heap.size, 0, none⟩ = some (.string (txt ya.name)) := (YB.out.cell 0).trans rfl
  have qy1 : (w6.alloc (.cells (cN ya (.slice A6 yf.len c6)) 27)).cell? ⟨w6.heap.size, 1, none⟩ = some (.string (txt ya.key)) := (YB.out.cell 1).trans rfl
  have qy2 : (w6.alloc (.cells (cN ya (.slice A6 yf.len c6)) 27)).cell? ⟨w6.heap.size, 2, none⟩ = some (.int .i64 ya.kind) := (YB.out.cell 2).trans rfl
  have qy3 : (w6.alloc (.cells (cN ya (.slice A6 yf.len c6)) 27)).cell? ⟨w6.heap.size, 3, none⟩ = some (.int .u64 (ya.num : Int)) := (YB.out.cell 3).trans rfl
  have qy4 : (w6.alloc (.cells (cN ya (.slice A6 yf.len c6)) 27)).cell? ⟨w6.heap.size, 4, none⟩ = some (.string (txt ya.text)) := (YB.out.cell 4).trans rfl
  have qy5 : (w6.alloc (.cells (cN ya (.slice A6 yf.len c6)) 27)).cell? ⟨w6.heap.size, 5, none⟩ = some (.slice A6 yf.len c6) := (YB.out.cell 5).trans rfl
  have qx8 : (w6.alloc (.cells (cN ya (.slice A6 yf.len c6)) 27)).cell? ⟨w.heap.size + 1, 8, none⟩ = some (.string (txt o.name)) := (SA.out.2.2.1.cell 8).trans rfl
  have qx9 : (w6.alloc (.cells (cN ya (.slice A6 yf.len c6)) 27)).cell? ⟨w.heap.size + 1, 9, none⟩ = some (.string (txt o.key)) := (SA.out.2.2.1.cell 9).trans rfl
  have qx10 : (w6.alloc (.cells (cN ya (.slice A6 yf.len c6)) 27)).cell? ⟨w.heap.size + 1, 10, none⟩ = some (.int .i64 o.kind) := (SA.out.2.2.1.cell 10).trans rfl
  have qx11 : (w6.alloc (.cells (cN ya (.slice A6 yf.len c6)) 27)).cell? ⟨w.heap.size + 1, 11, none⟩ = some (.int .u64 (o.num : Int)) := (SA.out.2.2.1.cell 11).trans rfl
  have qx12 : (w6.alloc (.cells (cN ya (.slice A6 yf.len c6)) 27)).cell? ⟨w.heap.size + 1, 12, none⟩ = some (.string (txt o.text)) := (SA.out.2.2.1.cell 12).trans rfl
  have qx13 : (w6.alloc (.cells (cN ya (.slice A6 yf.len c6)) 27)).cell? ⟨w.heap.size + 1, 13, none⟩ = some (.slice O og.len oc) := (SA.out.2.2.1.cell 13).trans rfl
  go_wp2_with fail
  refine C7.out.mono ?_
  rintro r w7 ⟨rfl, hb⟩
  have S7 := hHd (SA.out.go hb)
  clear hb C7
  clear qy0 qy1 qy2 qy3 qy4 qy5 qx8 qx9 qx10 qx11 qx12 qx13
  have fz0 : (w7).frozen? ⟨w.heap.size + 1 + 1, 0, none⟩ = false := S7.out.2.2.2.1.frozen 0
  have qz0 : (w7).cell? ⟨w.heap.size + 1 + 1, 0, none⟩ = some (.string ⟨#[]⟩) := (S7.out.2.2.2.1.cell 0).trans rfl
  have fz1 : (w7).frozen? ⟨w.heap.size + 1 + 1, 1, none⟩ = false := S7.out.2.2.2.1.frozen 1
  have qz1 : (w7).cell? ⟨w.heap.size + 1 + 1, 1, none⟩ = some (.string ⟨#[]⟩) := (S7.out.2.2.2.1.cell 1).trans rfl
  have fz2 : (w7).frozen? ⟨w.heap.size + 1 + 1, 2, none⟩ = false := S7.out.2.2.2.1.frozen 2
  have qz2 : (w7).cell? ⟨w.heap.size + 1 + 1, 2, none⟩ = some (.int .i64 0) := (S7.out.2.2.2.1.cell 2).trans rfl
  have fz3 : (w7).frozen? ⟨w.heap.size + 1 + 1, 3, none⟩ = false := S7.out.2.2.2.1.frozen 3
  have qz3 : (w7).cell? ⟨w.heap.size + 1 + 1, 3, none⟩ = some (.int .u64 0) := (S7.out.2.2.2.1.cell 3).trans rfl
  have fz4 : (w7).frozen? ⟨w.heap.size + 1 + 1, 4, none⟩ = false := S7.out.2.2.2.1.frozen 4
  have qz4 : (w7).cell? ⟨w.heap.size + 1 + 1, 4, none⟩ = some (.string ⟨#[]⟩) := (S7.out.2.2.2.1.cell 4).trans rfl
  have fz5 : (w7).frozen? ⟨w.heap.size + 1 + 1, 5, none⟩ = false := S7.out.2.2.2.1.frozen 5
  have qz5 : (w7).cell? ⟨w.heap.size + 1 + 1, 5, none⟩ = some (.slice none 0 0) := (S7.out.2.2.2.1.cell 5).trans rfl
  have HE := hHd (S7.out.end_ (.string ⟨#[]⟩) (.string ⟨#[]⟩) (.int .i64 0) (.int .u64 0) (.string ⟨#[]⟩) (.slice none 0 0))
  go_wp2
  refine bodyPost_ret (res_ct9 rfl _ _ (w.heap.size + 1 + 1) 27 _ (0, 0) _ rfl HE.out.1 Try.underlying27 rfl (by kernel_rfl)) rfl ?_
  exact ⟨ndC zeroT (.slice none 0 0), rfl, (LieZ.zero _ _).p _, HE.out.2⟩
theorem rone17_3e (a p o : NdD) (f pf og : NdF) (A P O B : Option Addr) (c pc oc m : Nat) (l : List Stp) (d : Nat → Prop) (w : World) (hd : UndZ d w) (hx : LieZ d w (ndC a (.slice A f.len c)) (a, f)) (hw : WayV w.heap.size w (.slice B l.length m) l) (hp : LieZ d w (ndC p (.slice P pf.len pc)) (p, pf)) (ho : LieZ d w (ndC o (.slice O og.len oc)) (o, og)) (hf : f.size ≤ 1000000) (hpf : pf.size ≤ 1000000) (hog : og.size ≤ 1000000) (hl : l.length ≤ 1000000) (hne : l ≠ []) (hhn : hasX p l = true) (hho : hasX o l = true) (his : (GetX (a, f) l).2 = true) (hsm : (GetX (a, f) l).1 = (o, og)) (hpk : p.kind = 0) :
  Calls Try.prog 11 #[.agg (cN a (.slice A f.len c)), .agg #[.int .i64 (3), .slice B l.length m, .string (txt p.name), .string (txt p.key), .int .i64 p.kind, .int .u64 (p.num : Int), .string (txt p.text), .slice P pf.len pc, .string (txt o.name), .string (txt o.key), .int .i64 o.kind, .int .u64 (o.num : Int), .string (txt o.text), .slice O og.len oc]] w (PTreZ d (oneX (a, f) ⟨3, l, (p, pf), (o, og)⟩).1 (.int .i64 ((oneX (a, f) ⟨3, l, (p, pf), (o, og)⟩).2 : Int)) w) := by
 have hx0 := hx.lie hd
 have ho0 := ho.lie hd
 have HD := hHd hd
 have hr : oneX (a, f) ⟨3, l, (p, pf), (o, og)⟩ = (noN, 23) := by
  have e1 := hasX_is hhn; have e2 := hasX_is hho; unfold oneX; rw [if_neg (by rintro (⟨_, _, h⟩ | h | ⟨_, h⟩ | ⟨_, h⟩); exact h rfl; exact hne h; exact h e1; exact h e2), if_neg (by rintro ⟨h, _⟩; exact absurd h (by simp))]; rw [if_neg (by rintro ⟨_, h⟩; rw [his] at h; cases h)]; rw [if_pos (.inr ⟨rfl, .inl hpk⟩)]
 rw [hr]
 clear hr
 have hps : 0 < l.length := List.length_pos_iff.2 hne
 have y0 : ((l.length : Int) == 0) = false := beq_eq_false_iff_ne.2 (by omega)
 have y1 : (l.length == 0) = false := beq_eq_false_iff_ne.2 (by omega)
 have HN : ∀ W, Below w.heap.size w W → Hid (Calls Try.prog 21 #[.agg (cN p (.slice P pf.len pc)), .slice B l.length m] W (Ans9 (.bool true) W)) := fun W hW => hHd (by have h := rhas17_any p P pf.len pc l _ W (hw.below hW) hne hl; rw [hhn] at h; exact h)
 have HO : ∀ W, Below w.heap.size w W → Hid (Calls Try.prog 21 #[.agg (cN o (.slice O og.len oc)), .slice B l.length m] W (Ans9 (.bool true) W)) := fun W hW => hHd (by have h := rhas17_any o O og.len oc l _ W (hw.below hW) hne hl; rw [hho] at h; exact h)
 obtain ⟨⟨ya, yf⟩, hy⟩ : ∃ y, y = (GetX (a, f) l).1 := ⟨_, rfl⟩
 have hyf : yf.size ≤ 1000000 := by have h := GetX_few17 (a, f) l; rw [← hy] at h; exact Nat.le_trans h hf
 have HG : ∀ W, Below w.heap.size w W → Hid (Calls Try.prog 22 #[.agg (cN a (.slice A f.len c)), .slice B l.length m] W (RTreP (ya, yf) (.bool true) W)) := fun W hW => hHd (by have h := rget_any W.heap.size l (a, f) _ _ W (Nat.le_refl _) (hx0.below hW) (hw.below hW) hf; rw [← hy, his] at h; exact h.mono fun _ _ k => k.r)
 have HS : ∀ W cs, LieN W cs (ya, yf) → Below w.heap.size w W → Hid (Calls Try.prog 12 #[.agg cs.toArray, .agg (cN o (.slice O og.len oc))] W (Ans9 (.bool true) W)) := fun W cs hc hW => hHd (by have h := rsamet_any (ya, yf) (o, og) cs _ W hc (ho0.below hW) hyf hog; rw [decide_eq_true (by rw [hy]; exact hsm)] at h; exact h)
 have HPK := hHd hpk
 have B0 := hHd (bx3_new w (cN a (.slice A f.len c)) #[.int .i64 (3), .slice B l.length m, .string (txt p.name), .string (txt p.key), .int .i64 p.kind, .int .u64 (p.num : Int), .string (txt p.text), .slice P pf.len pc, .string (txt o.name), .string (txt o.key), .int .i64 o.kind, .int .u64 (o.num : Int), .string (txt o.text), .slice O og.len oc] #[.string ⟨#[]⟩, .string ⟨#[]⟩, .int .i64 0, .int .u64 0, .string ⟨#[]⟩, .slice none 0 0])
 have qx0 : (((w.alloc (.cells (cN a (.slice A f.len c)) 27)).alloc (.cells #[.int .i64 (3), .slice B l.length m, .string (txt p.name), .string (txt p.key), .int .i64 p.kind, .int .u64 (p.num : Int), .string (txt p.text), .slice P pf.len pc, .string (txt o.name), .string (txt o.key), .int .i64 o.kind, .int .u64 (o.num : Int), .string (txt o.text), .slice O og.len oc] 37)).alloc (.cells #[.string ⟨#[]⟩, .string ⟨#[]⟩, .int .i64 0, .int .u64 0, .string ⟨#[]⟩, .slice none 0 0] 27)).cell? ⟨w.heap.size + 1, 0, none⟩ = some (.int .i64 (3)) := (B0.out.2.2.1.cell 0).trans rfl
 clear hx hw hp ho hf hpf hog hl hd hx0 ho0 hne hhn hho his hy hyf hsm hpk
 go_enter Try.func11, Try.ntmps11
 go_upto_region 1 with (fail)
 go_cut [6] (fun t6 wx => t6 = .bool false ∧ Hid (Bx3 w w.heap.size (w.heap.size + 1) (w.heap.size + 1 + 1) (cN a (.slice A f.len c)) #[.int .i64 (3), .slice B l.length m, .string (txt p.name), .string (txt p.key), .int .i64 p.kind, .int .u64 (p.num : Int), .string (txt p.text), .slice P pf.len pc, .string (txt o.name), .string (txt o.key), .int .i64 o.kind, .int .u64 (o.num : Int), .string (txt o.text), .slice O og.len oc] #[.string ⟨#[]⟩, .string ⟨#[]⟩, .int .i64 0, .int .u64 0, .string ⟨#[]⟩, .slice none 0 0] wx))
 case first =>
  go_wp2
  go_meet
  exact ⟨rfl, B0⟩
 case rest =>
  obtain ⟨rfl, S0⟩ := hcut
  obtain ⟨w0, hw0⟩ : ∃ w0, w0 = wc := ⟨_, rfl⟩
  subst hw0
  clear qx0 B0
  have qx0 : (w0).cell? ⟨w.heap.size + 1, 0, none⟩ = some (.int .i64 (3)) := (S0.out.2.2.1.cell 0).trans rfl
  have qx1 : (w0).cell? ⟨w.heap.size + 1, 1, none⟩ = some (.slice B l.length m) := (S0.out.2.2.1.cell 1).trans rfl
  have qx2 : (w0).cell? ⟨w.heap.size + 1, 2, none⟩ = some (.string (txt p.name)) := (S0.out.2.2.1.cell 2).trans rfl
  have qx3 : (w0).cell? ⟨w.heap.size + 1, 3, none⟩ = some (.string (txt p.key)) := (S0.out.2.2.1.cell 3).trans rfl
  have qx4 : (w0).cell? ⟨w.heap.size + 1, 4, none⟩ = some (.int .i64 p.kind) := (S0.out.2.2.1.cell 4).trans rfl
  have qx5 : (w0).cell? ⟨w.heap.size + 1, 5, none⟩ = some (.int .u64 (p.num : Int)) := (S0.out.2.2.1.cell 5).trans rfl
  have qx6 : (w0).cell? ⟨w.heap.size + 1, 6, none⟩ = some (.string (txt p.text)) := (S0.out.2.2.1.cell 6).trans rfl
  have qx7 : (w0).cell? ⟨w.heap.size + 1, 7, none⟩ = some (.slice P pf.len pc) := (S0.out.2.2.1.cell 7).trans rfl
  go_wp2_with fail
  refine (HN _ S0.out.1).out.mono ?_
  rintro r w1 ⟨rfl, hb⟩
  have S1 := hHd (S0.out.go hb)
  clear hb
  clear qx0 qx1 qx2 qx3 qx4 qx5 qx6 qx7
  have qx1 : (w1).cell? ⟨w.heap.size + 1, 1, none⟩ = some (.slice B l.length m) := (S1.out.2.2.1.cell 1).trans rfl
  have qx8 : (w1).cell? ⟨w.heap.size + 1, 8, none⟩ = some (.string (txt o.name)) := (S1.out.2.2.1.cell 8).trans rfl
  have qx9 : (w1).cell? ⟨w.heap.size + 1, 9, none⟩ = some (.string (txt o.key)) := (S1.out.2.2.1.cell 9).trans rfl
  have qx10 : (w1).cell? ⟨w.heap.size + 1, 10, none⟩ = some (.int .i64 o.kind) := (S1.out.2.2.1.cell 10).trans rfl
  have qx11 : (w1).cell? ⟨w.heap.size + 1, 11, none⟩ = some (.int .u64 (o.num : Int)) := (S1.out.2.2.1.cell 11).trans rfl
  have qx12 : (w1).cell? ⟨w.heap.size + 1, 12, none⟩ = some (.string (txt o.text)) := (S1.out.2.2.1.cell 12).trans rfl
  have qx13 : (w1).cell? ⟨w.heap.size + 1, 13, none⟩ = some (.slice O og.len oc) := (S1.out.2.2.1.cell 13).trans rfl
  go_wp2_with fail
  refine (HO _ S1.out.1).out.mono ?_
  rintro r w2 ⟨rfl, hb⟩
  have S2 := hHd (S1.out.go hb)
  clear hb
  clear qx1 qx8 qx9 qx10 qx11 qx12 qx13
  have qx1 : (w2).cell? ⟨w.heap.size + 1, 1, none⟩ = some (.slice B l.length m) := (S2.out.2.2.1.cell 1).trans rfl
  have qn0 : (w2).cell? ⟨w.heap.size, 0, none⟩ = some (.string (txt a.name)) := (S2.out.2.1.cell 0).trans rfl
  have qn1 : (w2).cell? ⟨w.heap.size, 1, none⟩ = some (.string (txt a.key)) := (S2.out.2.1.cell 1).trans rfl
  have qn2 : (w2).cell? ⟨w.heap.size, 2, none⟩ = some (.int .i64 a.kind) := (S2.out.2.1.cell 2).trans rfl
  have qn3 : (w2).cell? ⟨w.heap.size, 3, none⟩ = some (.int .u64 (a.num : Int)) := (S2.out.2.1.cell 3).trans rfl
  have qn4 : (w2).cell? ⟨w.heap.size, 4, none⟩ = some (.string (txt a.text)) := (S2.out.2.1.cell 4).trans rfl
  have qn5 : (w2).cell? ⟨w.heap.size, 5, none⟩ = some (.slice A f.len c) := (S2.out.2.1.cell 5).trans rfl
  go_wp2_with fail
  refine (HG _ S2.out.1).out.mono ?_
  intro r w6 hr
  obtain ⟨A6, c6, rfl, hl6, hb6⟩ := hr.flatR
  have SA := hHd ((S2.out.go hb6).go ((Below.refl _ _).alloc (Nat.le_refl _) (.cells (cN ya (.slice A6 yf.len c6)) 27)))
  have LY : Hid (LieN (w6.alloc (.cells (cN ya (.slice A6 yf.len c6)) 27)) (ndC ya (.slice A6 yf.len c6)) (ya, yf)) := hHd (hl6.below bAl)
  have YB : Hid (Blk (w6.alloc (.cells (cN ya (.slice A6 yf.len c6)) 27)) w6.heap.size 27 (cN ya (.slice A6 yf.len c6))) := hHd (Blk.new _ _ _)
  have C7 := HS _ _ LY.out SA.out.1
  clear hr hl6 hb6
  clear qx1 qn0 qn1 qn2 qn3 qn4 qn5
  have qy0 : (w6.alloc (.cells (cN ya (.slice A6 yf.len c6)) 27)).cell? ⟨w6.heap.size, 0, none⟩ = some (.string (txt ya.name)) := (YB.out.cell 0).trans rfl
  have qy1 : (w6.alloc (.cells (cN ya (.slice A6 yf.len c6)) 27)).cell? ⟨w6.heap.size, 1, none⟩ = some (.string (txt ya.key)) := (YB.out.cell 1).trans rfl
  have qy2 : (w6.alloc (.cells (cN ya (.slice A6 yf.len c6)) 27)).cell? ⟨w6.heap.size, 2, none⟩ = some (.int .i64 ya.kind) := (YB.out.cell 2).trans rfl
  have qy3 : (w6.alloc (.cells (cN ya (.slice A6 yf.len c6)) 27)).cell? ⟨w6.heap.size, 3, none⟩ = some (.int .u64 (ya.num : Int)) := (YB.out.cell 3).trans rfl
  have qy4 : (w6.alloc (.cells (cN ya (.slice A6 yf.len c6)) 27)).cell? ⟨w6.heap.size, 4, none⟩ = some (.string (txt ya.text)) := (YB.out.cell 4).trans rfl
  have qy5 : (w6.alloc (.cells (cN ya (.slice A6 yf.len c6)) 27)).cell? ⟨w6.heap.size, 5, none⟩ = some (.slice A6 yf.len c6) := (YB.out.cell 5).trans rfl
  have qx8 : (w6.alloc (.cells (cN ya (.slice A6 yf.len c6)) 27)).cell? ⟨w.heap.size + 1, 8, none⟩ = some (.string (txt o.name)) := (SA.out.2.2.1.cell 8).trans rfl
  have qx9 : (w6.alloc (.cells (cN ya (.slice A6 yf.len c6)) 27)).cell? ⟨w.heap.size + 1, 9, none⟩ = some (.string (txt o.key)) := (SA.out.2.2.1.cell 9).trans rfl
  have qx10 : (w6.alloc (.cells (cN ya (.slice A6 yf.len c6)) 27)).cell? ⟨w.heap.size + 1, 10, none⟩ = some (.int .i64 o.kind) := (SA.out.2.2.1.cell 10).trans rfl
  have qx11 : (w6.alloc (.cells (cN ya (.slice A6 yf.len c6)) 27)).cell? ⟨w.heap.size + 1, 11, none⟩ = some (.int .u64 (o.num : Int)) := (SA.out.2.2.1.cell 11).trans rfl
  have qx12 : (w6.alloc (.cells (cN ya (.slice A6 yf.len c6)) 27)).cell? ⟨w.heap.size + 1, 12, none⟩ = some (.string (txt o.text)) := (SA.out.2.2.1.cell 12).trans rfl
  have qx13 : (w6.alloc (.cells (cN ya (.slice A6 yf.len c6)) 27)).cell? ⟨w.heap.size + 1, 13, none⟩ = some (.slice O og.len oc) := (SA.out.2.2.1.cell 13).trans rfl
  go_wp2_with fail
  refine C7.out.mono ?_
  rintro r w7 ⟨rfl, hb⟩
  have S7 := hHd (SA.out.go hb)
  clear hb C7
  clear qy0 qy1 qy2 qy3 qy4 qy5 qx8 qx9 qx10 qx11 qx12 qx13
  have kp0 : (p.kind == 0) = true := beq_iff_eq.2 HPK.out
  have qx4 : (w7).cell? ⟨w.heap.size + 1, 4, none⟩ = some (.int .i64 p.kind) := (S7.out.2.2.1.cell 4).trans rfl
  have qx10 : (w7).cell? ⟨w.heap.size + 1, 10, none⟩ = some (.int .i64 o.kind) := (S7.out.2.2.1.cell 10).trans rfl
  have fz0 : (w7).frozen? ⟨w.heap.size + 1 + 1, 0, none⟩ = false := S7.out.2.2.2.1.frozen 0
  have qz0 : (w7).cell? ⟨w.heap.size + 1 + 1, 0, none⟩ = some (.string ⟨#[]⟩) := (S7.out.2.2.2.1.cell 0).trans rfl
  have fz1 : (w7).frozen? ⟨w.heap.size + 1 + 1, 1, none⟩ = false := S7.out.2.2.2.1.frozen 1
  have qz1 : (w7).cell? ⟨w.heap.size + 1 + 1, 1, none⟩ = some (.string ⟨#[]⟩) := (S7.out.2.2.2.1.cell 1).trans rfl
  have fz2 : (w7).frozen? ⟨w.heap.size + 1 + 1, 2, none⟩ = false := S7.out.2.2.2.1.frozen 2
  have qz2 : (w7).cell? ⟨w.heap.size + 1 + 1, 2, none⟩ = some (.int .i64 0) := (S7.out.2.2.2.1.cell 2).trans rfl
  have fz3 : (w7).frozen? ⟨w.heap.size + 1 + 1, 3, none⟩ = false := S7.out.2.2.2.1.frozen 3
  have qz3 : (w7).cell? ⟨w.heap.size + 1 + 1, 3, none⟩ = some (.int .u64 0) := (S7.out.2.2.2.1.cell 3).trans rfl
  have fz4 : (w7).frozen? ⟨w.heap.size + 1 + 1, 4, none⟩ = false := S7.out.2.2.2.1.frozen 4
  have qz4 : (w7).cell? ⟨w.heap.size + 1 + 1, 4, none⟩ = some (.string ⟨#[]⟩) := (S7.out.2.2.2.1.cell 4).trans rfl
  have fz5 : (w7).frozen? ⟨w.heap.size + 1 + 1, 5, none⟩ = false := S7.out.2.2.2.1.frozen 5
  have qz5 : (w7).cell? ⟨w.heap.size + 1 + 1, 5, none⟩ = some (.slice none 0 0) := (S7.out.2.2.2.1.cell 5).trans rfl
  have HE := hHd (S7.out.end_ (.string ⟨#[]⟩) (.string ⟨#[]⟩) (.int .i64 0) (.int .u64 0) (.string ⟨#[]⟩) (.slice none 0 0))
  go_wp2
  refine bodyPost_ret (res_ct9 rfl _ _ (w.heap.size + 1 + 1) 27 _ (0, 0) _ rfl HE.out.1 Try.underlying27 rfl (by kernel_rfl)) rfl ?_
  exact ⟨ndC zeroT (.slice none 0 0), rfl, (LieZ.zero _ _).p _, HE.out.2⟩
theorem rone17_3f (a p o : NdD) (f pf og : NdF) (A P O B : Option Addr) (c pc oc m : Nat) (l : List Stp) (d : Nat → Prop) (w : World) (hd : UndZ d w) (hx : LieZ d w (ndC a (.slice A f.len c)) (a, f)) (hw : WayV w.heap.size w (.slice B l.length m) l) (hp : LieZ d w (ndC p (.slice P pf.len pc)) (p, pf)) (ho : LieZ d w (ndC o (.slice O og.len oc)) (o, og)) (hf : f.size ≤ 1000000) (hpf : pf.size ≤ 1000000) (hog : og.size ≤ 1000000) (hl : l.length ≤ 1000000) (hne : l ≠ []) (hhn : hasX p l = true) (hho : hasX o l = true) (his : (GetX (a, f) l).2 = true) (hsm : (GetX (a, f) l).1 = (o, og)) (hpk : p.kind ≠ 0) (hok : o.kind = 0) :
  Calls Try.prog 11 #[.agg (cN a (.slice A f.len c)), .agg #[.int .i64 (3), .slice B l.length m, .string (txt p.name), .string (txt p.key), .int .i64 p.kind, .int .u64 (p.num : Int), .string (txt p.text), .slice P pf.len pc, .string (txt o.name), .string (txt o.key), .int .i64 o.kind, .int .u64 (o.num : Int), .string (txt o.text), .slice O og.len oc]] w (PTreZ d (oneX (a, f) ⟨3, l, (p, pf), (o, og)⟩).1 (.int .i64 ((oneX (a, f) ⟨3, l, (p, pf), (o, og)⟩).2 : Int)) w) := by
 have hx0 := hx.lie hd
 have ho0 := ho.lie hd
 have HD := hHd hd
 have hr : oneX (a, f) ⟨3, l, (p, pf), (o, og)⟩ = (noN, 23) := by
  have e1 := hasX_is hhn; have e2 := hasX_is hho; unfold oneX; rw [if_neg (by rintro (⟨_, _, h⟩ | h | ⟨_, h⟩ | ⟨_, h⟩); exact h rfl; exact hne h; exact h e1; exact h e2), if_neg (by rintro ⟨h, _⟩; exact absurd h (by simp))]; rw [if_neg (by rintro ⟨_, h⟩; rw [his] at h; cases h)]; rw [if_pos (.inr ⟨rfl, .inr hok⟩)]
 rw [hr]
 clear hr
 have hps : 0 < l.length := List.length_pos_iff.2 hne
 have y0 : ((l.length : Int) == 0) = false := beq_eq_false_iff_ne.2 (by omega)
 have y1 : (l.length == 0) = false := beq_eq_false_iff_ne.2 (by omega)
 have HN : ∀ W, Below w.heap.size w W → Hid (Calls Try.prog 21 #[.agg (cN p (.slice P pf.len pc)), .slice B l.length m] W (Ans9 (.bool true) W)) := fun W hW => hHd (by have h := rhas17_any p P pf.len pc l _ W (hw.below hW) hne hl; rw [hhn] at h; exact h)
 have HO : ∀ W, Below w.heap.size w W → Hid (Calls Try.prog 21 #[.agg (cN o (.slice O og.len oc)), .slice B l.length m] W (Ans9 (.bool true) W)) := fun W hW => hHd (by have h := rhas17_any o O og.len oc l _ W (hw.below hW) hne hl; rw [hho] at h; exact h)
 obtain ⟨⟨ya, yf⟩, hy⟩ : ∃ y, y = (GetX (a, f) l).1 := ⟨_, rfl⟩
 have hyf : yf.size ≤ 1000000 := by have h := GetX_few17 (a, f) l; rw [← hy] at h; exact Nat.le_trans h hf
 have HG : ∀ W, Below w.heap.size w W → Hid (Calls Try.prog 22 #[.agg (cN a (.slice A f.len c)), .slice B l.length m] W (RTreP (ya, yf) (.bool true) W)) := fun W hW => hHd (by have h := rget_any W.heap.size l (a, f) _ _ W (Nat.le_refl _) (hx0.below hW) (hw.below hW) hf; rw [← hy, his] at h; exact h.mono fun _ _ k => k.r)
 have HS : ∀ W cs, LieN W cs (ya, yf) → Below w.heap.size w W → Hid (Calls Try.prog 12 #[.agg cs.toArray, .agg (cN o (.slice O og.len oc))] W (Ans9 (.bool true) W)) := fun W cs hc hW => hHd (by have h := rsamet_any (ya, yf) (o, og) cs _ W hc (ho0.below hW) hyf hog; rw [decide_eq_true (by rw [hy]; exact hsm)] at h; exact h)
 have HPK := hHd hpk
 have HOK := hHd hok
 have B0 := hHd (bx3_new w (cN a (.slice A f.len c)) #[.int .i64 (3), .slice B l.length m, .string (txt p.name), .string (txt p.key), .int .i64 p.kind, .int .u64 (p.num : Int), .string (txt p.text), .slice P pf.len pc, .string (txt o.name), .string (txt o.key), .int .i64 o.kind, .int .u64 (o.num : Int), .string (txt o.text), .slice O og.len oc] #[.string ⟨#[]⟩, .string ⟨#[]⟩, .int .i64 0, .int .u64 0, .string ⟨#[]⟩, .slice none 0 0])
 have qx0 : (((w.alloc (.cells (cN a (.slice A f.len c)) 27)).alloc (.cells #[.int .i64 (3), .slice B l.length m, .string (txt p.name), .string (txt p.key), .int .i64 p.kind, .int .u64 (p.num : Int), .string (txt p.text), .slice P pf.len pc, .string (txt o.name), .string (txt o.key), .int .i64 o.kind, .int .u64 (o.num : Int), .string (txt o.text), .slice O og.len oc] 37)).alloc (.cells #[.string ⟨#[]⟩, .string ⟨#[]⟩, .int .i64 0, .int .u64 0, .string ⟨#[]⟩, .slice none 0 0] 27)).cell? ⟨w.heap.size + 1, 0, none⟩ = some (.int .i64 (3)) := (B0.out.2.2.1.cell 0).trans rfl
 clear hx hw hp ho hf hpf hog hl hd hx0 ho0 hne hhn hho his hy hyf hsm hpk hok
 go_enter Try.func11, Try.ntmps11
 go_upto_region 1 with (fail)
 go_cut [6] (fun t6 wx => t6 = .bool false ∧ Hid (Bx3 w w.heap.size (w.heap.size + 1) (w.heap.size + 1 + 1) (cN a (.slice A f.len c)) #[.int .i64 (3), .slice B l.length m, .string (txt p.name), .string (txt p.key), .int .i64 p.kind, .int .u64 (p.num : Int), .string (txt p.text), .slice P pf.len pc, .string (txt o.name), .string (txt o.key), .int .i64 o.kind, .int .u64 (o.num : Int), .string (txt o.text), .slice O og.len oc] #[.string ⟨#[]⟩, .string ⟨#[]⟩, .int .i64 0, .int .u64 0, .string ⟨#[]⟩, .slice none 0 0] wx))
 case first =>
  go_wp2
  go_meet
  exact ⟨rfl, B0⟩
 case rest =>
  obtain ⟨rfl, S0⟩ := hcut
  obtain ⟨w0, hw0⟩ : ∃ w0, w0 = wc := ⟨_, rfl⟩
  subst hw0
  clear qx0 B0
  have qx0 : (w0).cell? ⟨w.heap.size + 1, 0, none⟩ = some (.int .i64 (3)) := (S0.out.2.2.1.cell 0).trans rfl
  have qx1 : (w0).cell? ⟨w.heap.size + 1, 1, none⟩ = some (.slice B l.length m) := (S0.out.2.2.1.cell 1).trans rfl
  have qx2 : (w0).cell? ⟨w.heap.size + 1, 2, none⟩ = some (.string (txt p.name)) := (S0.out.2.2.1.cell 2).trans rfl
  have qx3 : (w0).cell? ⟨w.heap.size + 1, 3, none⟩ = some (.string (txt p.key)) := (S0.out.2.2.1.cell 3).trans rfl
  have qx4 : (w0).cell? ⟨w.heap.size + 1, 4, none⟩ = some (.int .i64 p.kind) := (S0.out.2.2.1.cell 4).trans rfl
  have qx5 : (w0).cell? ⟨w.heap.size + 1, 5, none⟩ = some (.int .u64 (p.num : Int)) := (S0.out.2.2.1.cell 5).trans rfl
  have qx6 : (w0).cell? ⟨w.heap.size + 1, 6, none⟩ = some (.string (txt p.text)) := (S0.out.2.2.1.cell 6).trans rfl
  have qx7 : (w0).cell? ⟨w.heap.size + 1, 7, none⟩ = some (.slice P pf.len pc) := (S0.out.2.2.1.cell 7).trans rfl
  go_wp2_with fail
  refine (HN _ S0.out.1).out.mono ?_
  rintro r w1 ⟨rfl, hb⟩
  have S1 := hHd (S0.out.go hb)
  clear hb
  clear qx0 qx1 qx2 qx3 qx4 qx5 qx6 qx7
  have qx1 : (w1).cell? ⟨w.heap.size + 1, 1, none⟩ = some (.slice B l.length m) := (S1.out.2.2.1.cell 1).trans rfl
  have qx8 : (w1).cell? ⟨w.heap.size + 1, 8, none⟩ = some (.string (txt o.name)) := (S1.out.2.2.1.cell 8).trans rfl
  have qx9 : (w1).cell? ⟨w.heap.size + 1, 9, none⟩ = some (.string (txt o.key)) := (S1.out.2.2.1.cell 9).trans rfl
  have qx10 : (w1).cell? ⟨w.heap.size + 1, 10, none⟩ = some (.int .i64 o.kind) := (S1.out.2.2.1.cell 10).trans rfl
  have qx11 : (w1).cell? ⟨w.heap.size + 1, 11, none⟩ = some (.int .u64 (o.num : Int)) := (S1.out.2.2.1.cell 11).trans rfl
  have qx12 : (w1).cell? ⟨w.heap.size + 1, 12, none⟩ = some (.string (txt o.text)) := (S1.out.2.2.1.cell 12).trans rfl
  have qx13 : (w1).cell? ⟨w.heap.size + 1, 13, none⟩ = some (.slice O og.len oc) := (S1.out.2.2.1.cell 13).trans rfl
  go_wp2_with fail
  refine (HO _ S1.out.1).out.mono ?_
  rintro r w2 ⟨rfl, hb⟩
  have S2 := hHd (S1.out.go hb)
  clear hb
  clear qx1 qx8 qx9 qx10 qx11 qx12 qx13
  have qx1 : (w2).cell? ⟨w.heap.size + 1, 1, none⟩ = some (.slice B l.length m) := (S2.out.2.2.1.cell 1).trans rfl
  have qn0 : (w2).cell? ⟨w.heap.size, 0, none⟩ = some (.string (txt a.name)) := (S2.out.2.1.cell 0).trans rfl
  have qn1 : (w2).cell? ⟨w.heap.size, 1, none⟩ = some (.string (txt a.key)) := (S2.out.2.1.cell 1).trans rfl
  have qn2 : (w2).cell? ⟨w.heap.size, 2, none⟩ = some (.int .i64 a.kind) := (S2.out.2.1.cell 2).trans rfl
  have qn3 : (w2).cell? ⟨w.heap.size, 3, none⟩ = some (.int .u64 (a.num : Int)) := (S2.out.2.1.cell 3).trans rfl
  have qn4 : (w2).cell? ⟨w.heap.size, 4, none⟩ = some (.string (txt a.text)) := (S2.out.2.1.cell 4).trans rfl
  have qn5 : (w2).cell? ⟨w.heap.size, 5, none⟩ = some (.slice A f.len c) := (S2.out.2.1.cell 5).trans rfl
  go_wp2_with fail
  refine (HG _ S2.out.1).out.mono ?_
  intro r w6 hr
  obtain ⟨A6, c6, rfl, hl6, hb6⟩ := hr.flatR
  have SA := hHd ((S2.out.go hb6).go ((Below.refl _ _).alloc (Nat.le_refl _) (.cells (cN ya (.slice A6 yf.len c6)) 27)))
  have LY : Hid (LieN (w6.alloc (.cells (cN ya (.slice A6 yf.len c6)) 27)) (ndC ya (.slice A6 yf.len c6)) (ya, yf)) := hHd (hl6.below bAl)
  have YB : Hid (Blk (w6.alloc (.cells (cN ya (.slice A6 yf.len c6)) 27)) w6.heap.size 27 (cN ya (.slice A6 yf.len c6))) := hHd (Blk.new _ _ _)
  have C7 := HS _ _ LY.out SA.out.1
  clear hr hl6 hb6
  clear qx1 qn0 qn1 qn2 qn3 qn4 qn5
  have qy0 : (w6.alloc (.cells (cN ya (.slice A6 yf.len c6)) 27)).cell? ⟨w6.heap.size, 0, none⟩ = some (.string (txt ya.name)) := (YB.out.cell 0).trans rfl
  have qy1 : (w6.alloc (.cells (cN ya (.slice A6 yf.len c6)) 27)).cell? ⟨w6.heap.size, 1, none⟩ = some (.string (txt ya.key)) := (YB.out.cell 1).trans rfl
  have qy2 : (w6.alloc (.cells (cN ya (.slice A6 yf.len c6)) 27)).cell? ⟨w6.heap.size, 2, none⟩ = some (.int .i64 ya.kind) := (YB.out.cell 2).trans rfl
  have qy3 : (w6.alloc (.cells (cN ya (.slice A6 yf.len c6)) 27)).cell? ⟨w6.heap.size, 3, none⟩ = some (.int .u64 (ya.num : Int)) := (YB.out.cell 3).trans rfl
  have qy4 : (w6.alloc (.cells (cN ya (.slice A6 yf.len c6)) 27)).cell? ⟨w6.heap.size, 4, none⟩ = some (.string (txt ya.text)) := (YB.out.cell 4).trans rfl
  have qy5 : (w6.alloc (.cells (cN ya (.slice A6 yf.len c6)) 27)).cell? ⟨w6.heap.size, 5, none⟩ = some (.slice A6 yf.len c6) := (YB.out.cell 5).trans rfl
  have qx8 : (w6.alloc (.cells (cN ya (.slice A6 yf.len c6)) 27)).cell? ⟨w.heap.size + 1, 8, none⟩ = some (.string (txt o.name)) := (SA.out.2.2.1.cell 8).trans rfl
  have qx9 : (w6.alloc (.cells (cN ya (.slice A6 yf.len c6)) 27)).cell? ⟨w.heap.size + 1, 9, none⟩ = some (.string (txt o.key)) := (SA.out.2.2.1.cell 9).trans rfl
  have qx10 : (w6.alloc (.cells (cN ya (.slice A6 yf.len c6)) 27)).cell? ⟨w.heap.size + 1, 10, none⟩ = some (.int .i64 o.kind) := (SA.out.2.2.1.cell 10).trans rfl
  have qx11 : (w6.alloc (.cells (cN ya (.slice A6 yf.len c6)) 27)).cell? ⟨w.heap.size + 1, 11, none⟩ = some (.int .u64 (o.num : Int)) := (SA.out.2.2.1.cell 11).trans rfl
  have qx12 : (w6.alloc (.cells (cN ya (.slice A6 yf.len c6)) 27)).cell? ⟨w.heap.size + 1, 12, none⟩ = some (.string (txt o.text)) := (SA.out.2.2.1.cell 12).trans rfl
  have qx13 : (w6.alloc (.cells (cN ya (.slice A6 yf.len c6)) 27)).cell? ⟨w.heap.size + 1, 13, none⟩ = some (.slice O og.len oc) := (SA.out.2.2.1.cell 13).trans rfl
  go_wp2_with fail
  refine C7.out.mono ?_
  rintro r w7 ⟨rfl, hb⟩
  have S7 := hHd (SA.out.go hb)
  clear hb C7
  clear qy0 qy1 qy2 qy3 qy4 qy5 qx8 qx9 qx10 qx11 qx12 qx13
  have kp0 : (p.kind == 0) = false := beq_eq_false_iff_ne.2 HPK.out
  have ko0 : (o.kind == 0) = true := beq_iff_eq.2 HOK.out
  have qx4 : (w7).cell? ⟨w.heap.size + 1, 4, none⟩ = some (.int .i64 p.kind) := (S7.out.2.2.1.cell 4).trans rfl
  have qx10 : (w7).cell? ⟨w.heap.size + 1, 10, none⟩ = some (.int .i64 o.kind) := (S7.out.2.2.1.cell 10).trans rfl
  have fz0 : (w7).frozen? ⟨w.heap.size + 1 + 1, 0, none⟩ = false := S7.out.2.2.2.1.frozen 0
  have qz0 : (w7).cell? ⟨w.heap.size + 1 + 1, 0, none⟩ = some (.string ⟨#[]⟩) := (S7.out.2.2.2.1.cell 0).trans rfl
  have fz1 : (w7).frozen? ⟨w.heap.size + 1 + 1, 1, none⟩ = false := S7.out.2.2.2.1.frozen 1
  have qz1 : (w7).cell? ⟨w.heap.size + 1 + 1, 1, none⟩ = some (.string ⟨#[]⟩) := (S7.out.2.2.2.1.cell 1).trans rfl
  have fz2 : (w7).frozen? ⟨w.heap.size + 1 + 1, 2, none⟩ = false := S7.out.2.2.2.1.frozen 2
  have qz2 : (w7).cell? ⟨w.heap.size + 1 + 1, 2, none⟩ = some (.int .i64 0) := (S7.out.2.2.2.1.cell 2).trans rfl
  have fz3 : (w7).frozen? ⟨w.heap.size + 1 + 1, 3, none⟩ = false := S7.out.2.2.2.1.frozen 3
  have qz3 : (w7).cell? ⟨w.heap.size + 1 + 1, 3, none⟩ = some (.int .u64 0) := (S7.out.2.2.2.1.cell 3).trans rfl
  have fz4 : (w7).frozen? ⟨w.heap.size + 1 + 1, 4, none⟩ = false := S7.out.2.2.2.1.frozen 4
  have qz4 : (w7).cell? ⟨w.heap.size + 1 + 1, 4, none⟩ = some (.string ⟨#[]⟩) := (S7.out.2.2.2.1.cell 4).trans rfl
  have fz5 : (w7).frozen? ⟨w.heap.size + 1 + 1, 5, none⟩ = false := S7.out.2.2.2.1.frozen 5
  have qz5 : (w7).cell? ⟨w.heap.size + 1 + 1, 5, none⟩ = some (.slice none 0 0) := (S7.out.2.2.2.1.cell 5).trans rfl
  have HE := hHd (S7.out.end_ (.string ⟨#[]⟩) (.string ⟨#[]⟩) (.int .i64 0) (.int .u64 0) (.string ⟨#[]⟩) (.slice none 0 0))
  go_wp2
  refine bodyPost_ret (res_ct9 rfl _ _ (w.heap.size + 1 + 1) 27 _ (0, 0) _ rfl HE.out.1 Try.underlying27 rfl (by kernel_rfl)) rfl ?_
  exact ⟨ndC zeroT (.slice none 0 0), rfl, (LieZ.zero _ _).p _, HE.out.2⟩
theorem rone17_3g (a p o : NdD) (f pf og : NdF) (A P O B : Option Addr) (c pc oc m : Nat) (l : List Stp) (d : Nat → Prop) (w : World) (hd : UndZ d w) (hx : LieZ d w (ndC a (.slice A f.len c)) (a, f)) (hw : WayV w.heap.size w (.slice B l.length m) l) (hp : LieZ d w (ndC p (.slice P pf.len pc)) (p, pf)) (ho : LieZ d w (ndC o (.slice O og.len oc)) (o, og)) (hf : f.size ≤ 1000000) (hpf : pf.size ≤ 1000000) (hog : og.size ≤ 1000000) (hl : l.length ≤ 1000000) (hne : l ≠ []) (hhn : hasX p l = true) (hho : hasX o l = true) (his : (GetX (a, f) l).2 = true) (hsm : (GetX (a, f) l).1 = (o, og)) (hpk : p.kind ≠ 0) (hok : o.kind ≠ 0) :
  Calls Try.prog 11 #[.agg (cN a (.slice A f.len c)), .agg #[.int .i64 (3), .slice B l.length m, .string (txt p.name), .string (txt p.key), .int .i64 p.kind, .int .u64 (p.num : Int), .string (txt p.text), .slice P pf.len pc, .string (txt o.name), .string (txt o.key), .int .i64 o.kind, .int .u64 (o.num : Int), .string (txt o.text), .slice O og.len oc]] w (PTreZ d (oneX (a, f) ⟨3, l, (p, pf), (o, og)⟩).1 (.int .i64 ((oneX (a, f) ⟨3, l, (p, pf), (o, og)⟩).2 : Int)) w) := by
 have hx0 := hx.lie hd
 have ho0 := ho.lie hd
 have HD := hHd hd
 have hr : oneX (a, f) ⟨3, l, (p, pf), (o, og)⟩ = SetX (a, f) l (p, pf) := by
  have e1 := hasX_is hhn; have e2 := hasX_is hho; unfold oneX; rw [if_neg (by rintro (⟨_, _, h⟩ | h | ⟨_, h⟩ | ⟨_, h⟩); exact h rfl; exact hne h; exact h e1; exact h e2), if_neg (by rintro ⟨h, _⟩; exact absurd h (by simp))]; rw [if_neg (by rintro ⟨_, h⟩; rw [his] at h; cases h)]; rw [if_neg (by rintro (⟨_, h⟩ | ⟨_, h | h⟩); exact h hsm; exact hpk h; exact hok h), if_neg (by simp)]
 rw [hr]
 clear hr
 have hps : 0 < l.length := List.length_pos_iff.2 hne
 have y0 : ((l.length : Int) == 0) = false := beq_eq_false_iff_ne.2 (by omega)
 have y1 : (l.length == 0) = false := beq_eq_false_iff_ne.2 (by omega)
 have HN : ∀ W, Below w.heap.size w W → Hid (Calls Try.prog 21 #[.agg (cN p (.slice P pf.len pc)), .slice B l.length m] W (Ans9 (.bool true) W)) := fun W hW => hHd (by have h := rhas17_any p P pf.len pc l _ W (hw.below hW) hne hl; rw [hhn] at h; exact h)
 have HO : ∀ W, Below w.heap.size w W → Hid (Calls Try.prog 21 #[.agg (cN o (.slice O og.len oc)), .slice B l.length m] W (Ans9 (.bool true) W)) := fun W hW => hHd (by have h := rhas17_any o O og.len oc l _ W (hw.below hW) hne hl; rw [hho] at h; exact h)
 obtain ⟨⟨ya, yf⟩, hy⟩ : ∃ y, y = (GetX (a, f) l).1 := ⟨_, rfl⟩
 have hyf : yf.size ≤ 1000000 := by have h := GetX_few17 (a, f) l; rw [← hy] at h; exact Nat.le_trans h hf
 have HG : ∀ W, Below w.heap.size w W → Hid (Calls Try.prog 22 #[.agg (cN a (.slice A f.len c)), .slice B l.length m] W (RTreP (ya, yf) (.bool true) W)) := fun W hW => hHd (by have h := rget_any W.heap.size l (a, f) _ _ W (Nat.le_refl _) (hx0.below hW) (hw.below hW) hf; rw [← hy, his] at h; exact h.mono fun _ _ k => k.r)
 have HS : ∀ W cs, LieN W cs (ya, yf) → Below w.heap.size w W → Hid (Calls Try.prog 12 #[.agg cs.toArray, .agg (cN o (.slice O og.len oc))] W (Ans9 (.bool true) W)) := fun W cs hc hW => hHd (by have h := rsamet_any (ya, yf) (o, og) cs _ W hc (ho0.below hW) hyf hog; rw [decide_eq_true (by rw [hy]; exact hsm)] at h; exact h)
 have HPK := hHd hpk
 have HOK := hHd hok
 obtain ⟨⟨⟨sa, sf⟩, se⟩, hs⟩ : ∃ y, y = SetX (a, f) l (p, pf) := ⟨_, rfl⟩
 have HT : ∀ W, Below w.heap.size w W → Hid (Calls Try.prog 24 #[.agg (cN a (.slice A f.len c)), .slice B l.length m, .agg (cN p (.slice P pf.len pc))] W (PTreZ d (sa, sf) (.int .i64 (se : Int)) W)) := fun W hW => hHd (by have h := zSet_any d (a, f) (p, pf) l _ _ _ W (und_le hd hW.size) (hx.under hW hd) (hp.under hW hd) (hw.below hW) hf hl; rw [← hs] at h; exact h)
 rw [← hs]
 clear hs
 have B0 := hHd (bx3_new w (cN a (.slice A f.len c)) #[.int .i64 (3), .slice B l.length m, .string (txt p.name), .string (txt p.key), .int .i64 p.kind, .int .u64 (p.num : Int), .string (txt p.text), .slice P pf.len pc, .string (txt o.name), .string (txt o.key), .int .i64 o.kind, .int .u64 (o.num : Int), .string (txt o.text), .slice O og.len oc] #[.string ⟨#[]⟩, .string ⟨#[]⟩, .int .i64 0, .int .u64 0, .string ⟨#[]⟩, .slice none 0 0])
 have qx0 : (((w.alloc (.cells (cN a (.slice A f.len c)) 27)).alloc (.cells #[.int .i64 (3), .slice B l.length m, .string (txt p.name), .string (txt p.key), .int .i64 p.kind, .int .u64 (p.num : Int), .string (txt p.text), .slice P pf.len pc, .string (txt o.name), .string (txt o.key), .int .i64 o.kind, .int .u64 (o.num : Int), .string (txt o.text), .slice O og.len oc] 37)).alloc (.cells #[.string ⟨#[]⟩, .string ⟨#[]⟩, .int .i64 0, .int .u64 0, .string ⟨#[]⟩, .slice none 0 0] 27)).cell? ⟨w.heap.size + 1, 0, none⟩ = some (.int .i64 (3)) := (B0.out.2.2.1.cell 0).trans rfl
 clear hx hw hp ho hf hpf hog hl hd hx0 ho0 hne hhn hho his hy hyf hsm hpk hok
 go_enter Try.func11, Try.ntmps11
 go_upto_region 1 with (fail)
 go_cut [6] (fun t6 wx => t6 = .bool false ∧ Hid (Bx3 w w.heap.size (w.heap.size + 1) (w.heap.size + 1 + 1) (cN a (.slice A f.len c)) #[.int .i64 (3), .slice B l.length m, .string (txt p.name), .string (txt p.key), .int .i64 p.kind, .int .u64 (p.num : Int), .string (txt p.text), .slice P pf.len pc, .string (txt o.name), .string (txt o.key), .int .i64 o.kind, .int .u64 (o.num : Int), .string (txt o.text), .slice O og.len oc] #[.string ⟨#[]⟩, .string ⟨#[]⟩, .int .i64 0, .int .u64 0, .string ⟨#[]⟩, .slice none 0 0] wx))
 case first =>
  go_wp2
  go_meet
  exact ⟨rfl, B0⟩
 case rest =>
  obtain ⟨rfl, S0⟩ := hcut
  obtain ⟨w0, hw0⟩ : ∃ w0, w0 = wc := ⟨_, rfl⟩
  subst hw0
  clear qx0 B0
  have qx0 : (w0).cell? ⟨w.heap.size + 1, 0, none⟩ = some (.int .i64 (3)) := (S0.out.2.2.1.cell 0).trans rfl
  have qx1 : (w0).cell? ⟨w.heap.size + 1, 1, none⟩ = some (.slice B l.length m) := (S0.out.2.2.1.cell 1).trans rfl
  have qx2 : (w0).cell? ⟨w.heap.size + 1, 2, none⟩ = some (.string (txt p.name)) := (S0.out.2.2.1.cell 2).trans rfl
  have qx3 : (w0).cell? ⟨w.heap.size + 1, 3, none⟩ = some (.string (txt p.key)) := (S0.out.2.2.1.cell 3).trans rfl
  have qx4 : (w0).cell? ⟨w.heap.size + 1, 4, none⟩ = some (.int .i64 p.kind) := (S0.out.2.2.1.cell 4).trans rfl
  have qx5 : (w0).cell? ⟨w.heap.size + 1, 5, none⟩ = some (.int .u64 (p.num : Int)) := (S0.out.2.2.1.cell 5).trans rfl
  have qx6 : (w0).cell? ⟨w.heap.size + 1, 6, none⟩ = some (.string (txt p.text)) := (S0.out.2.2.1.cell 6).trans rfl
  have qx7 : (w0).cell? ⟨w.heap.size + 1, 7, none⟩ = some (.slice P pf.len pc) := (S0.out.2.2.1.cell 7).trans rfl
  go_wp2_with fail
  refine (HN _ S0.out.1).out.mono ?_
  rintro r w1 ⟨rfl, hb⟩
  have S1 := hHd (S0.out.go hb)
  clear hb
  clear qx0 qx1 qx2 qx3 qx4 qx5 qx6 qx7
  have qx1 : (w1).cell? ⟨w.heap.size + 1, 1, none⟩ = some (.slice B l.length m) := (S1.out.2.2.1.cell 1).trans rfl
  have qx8 : (w1).cell? ⟨w.heap.size + 1, 8, none⟩ = some (.string (txt o.name)) := (S1.out.2.2.1.cell 8).trans rfl
  have qx9 : (w1).cell? ⟨w.heap.size + 1, 9, none⟩ = some (.string (txt o.key)) := (S1.out.2.2.1.cell 9).trans rfl
  have qx10 : (w1).cell? ⟨w.heap.size + 1, 10, none⟩ = some (.int .i64 o.kind) := (S1.out.2.2.1.cell 10).trans rfl
  have qx11 : (w1).cell? ⟨w.heap.size + 1, 11, none⟩ = some (.int .u64 (o.num : Int)) := (S1.out.2.2.1.cell 11).trans rfl
  have qx12 : (w1).cell? ⟨w.heap.size + 1, 12, none⟩ = some (.string (txt o.text)) := (S1.out.2.2.1.cell 12).trans rfl
  have qx13 : (w1).cell? ⟨w.heap.size + 1, 13, none⟩ = some (.slice O og.len oc) := (S1.out.2.2.1.cell 13).trans rfl
  go_wp2_with fail
  refine (HO _ S1.out.1).out.mono ?_
  rintro r w2 ⟨rfl, hb⟩
  have S2 := hHd (S1.out.go hb)
  clear hb
  clear qx1 qx8 qx9 qx10 qx11 qx12 qx13
  have qx1 : (w2).cell? ⟨w.heap.size + 1, 1, none⟩ = some (.slice B l.length m) := (S2.out.2.2.1.cell 1).trans rfl
  have qn0 : (w2).cell? ⟨w.heap.size, 0, none⟩ = some (.string (txt a.name)) := (S2.out.2.1.cell 0).trans rfl
  have qn1 : (w2).cell? ⟨w.heap.size, 1, none⟩ = some (.string (txt a.key)) := (S2.out.2.1.cell 1).trans rfl
  have qn2 : (w2).cell? ⟨w.heap.size, 2, none⟩ = some (.int .i64 a.kind) := (S2.out.2.1.cell 2).trans rfl
  have qn3 : (w2).cell? ⟨w.heap.size, 3, none⟩ = some (.int .u64 (a.num : Int)) := (S2.out.2.1.cell 3).trans rfl
  have qn4 : (w2).cell? ⟨w.heap.size, 4, none⟩ = some (.string (txt a.text)) := (S2.out.2.1.cell 4).trans rfl
  have qn5 : (w2).cell? ⟨w.heap.size, 5, none⟩ = some (.slice A f.len c) := (S2.out.2.1.cell 5).trans rfl
  go_wp2_with fail
  refine (HG _ S2.out.1).out.mono ?_
  intro r w6 hr
  obtain ⟨A6, c6, rfl, hl6, hb6⟩ := hr.flatR
  have SA := hHd ((S2.out.go hb6).go ((Below.refl _ _).alloc (Nat.le_refl _) (.cells (cN ya (.slice A6 yf.len c6)) 27)))
  have LY : Hid (LieN (w6.alloc (.cells (cN ya (.slice A6 yf.len c6)) 27)) (ndC ya (.slice A6 yf.len c6)) (ya, yf)) := hHd (hl6.below bAl)
  have YB : Hid (Blk (w6.alloc (.cells (cN ya (.slice A6 yf.len c6)) 27)) w6.heap.size 27 (cN ya (.slice A6 yf.len c6))) := hHd (Blk.new _ _ _)
  have C7 := HS _ _ LY.out SA.out.1
  clear hr hl6 hb6
  clear qx1 qn0 qn1 qn2 qn3 qn4 qn5
  have qy0 : (w6.alloc (.cells (cN ya (.slice A6 yf.len c6)) 27)).cell? ⟨w6.heap.size, 0, none⟩ = some (.string (txt ya.name)) := (YB.out.cell 0).trans rfl
  have qy1 : (w6.alloc (.cells (cN ya (.slice A6 yf.len c6)) 27)).cell? ⟨w6.heap.size, 1, none⟩ = some (.string (txt ya.key)) := (YB.out.cell 1).trans rfl
  have qy2 : (w6.alloc (.cells (cN ya (.slice A6 yf.len c6)) 27)).cell? ⟨w6.heap.size, 2, none⟩ = some (.int .i64 ya.kind) := (YB.out.cell 2).trans rfl
  have qy3 : (w6.alloc (.cells (cN ya (.slice A6 yf.len c6)) 27)).cell? ⟨w6.heap.size, 3, none⟩ = some (.int .u64 (ya.num : Int)) := (YB.out.cell 3).trans rfl
  have qy4 : (w6.alloc (.cells (cN ya (.slice A6 yf.len c6)) 27)).cell? ⟨w6.heap.size, 4, none⟩ = some (.string (txt ya.text)) := (YB.out.cell 4).trans rfl
  have qy5 : (w6.alloc (.cells (cN ya (.slice A6 yf.len c6)) 27)).cell? ⟨w6.heap.size, 5, none⟩ = some (.slice A6 yf.len c6) := (YB.out.cell 5).trans rfl
  have qx8 : (w6.alloc (.cells (cN ya (.slice A6 yf.len c6)) 27)).cell? ⟨w.heap.size + 1, 8, none⟩ = some (.string (txt o.name)) := (SA.out.2.2.1.cell 8).trans rfl
  have qx9 : (w6.alloc (.cells (cN ya (.slice A6 yf.len c6)) 27)).cell? ⟨w.heap.size + 1, 9, none⟩ = some (.string (txt o.key)) := (SA.out.2.2.1.cell 9).trans rfl
  have qx10 : (w6.alloc (.cells (cN ya (.slice A6 yf.len c6)) 27)).cell? ⟨w.heap.size + 1, 10, none⟩ = some (.int .i64 o.kind) := (SA.out.2.2.1.cell 10).trans rfl
  have qx11 : (w6.alloc (.cells (cN ya (.slice A6 yf.len c6)) 27)).cell? ⟨w.heap.size + 1, 11, none⟩ = some (.int .u64 (o.num : Int)) := (SA.out.2.2.1.cell 11).trans rfl
  have qx12 : (w6.alloc (.cells (cN ya (.slice A6 yf.len c6)) 27)).cell? ⟨w.heap.size + 1, 12, none⟩ = some (.string (txt o.text)) := (SA.out.2.2.1.cell 12).trans rfl
  have qx13 : (w6.alloc (.cells (cN ya (.slice A6 yf.len c6)) 27)).cell? ⟨w.heap.size + 1, 13, none⟩ = some (.slice O og.len oc) := (SA.out.2.2.1.cell 13).trans rfl
  go_wp2_with fail
  refine C7.out.mono ?_
  rintro r w7 ⟨rfl, hb⟩
  have S7 := hHd (SA.out.go hb)
  clear hb C7
  clear qy0 qy1 qy2 qy3 qy4 qy5 qx8 qx9 qx10 qx11 qx12 qx13
  have kp0 : (p.kind == 0) = false := beq_eq_false_iff_ne.2 HPK.out
  have ko0 : (o.kind == 0) = false := beq_eq_false_iff_ne.2 HOK.out
  have qx1 : (w7).cell? ⟨w.heap.size + 1, 1, none⟩ = some (.slice B l.length m) := (S7.out.2.2.1.cell 1).trans rfl
  have qx2 : (w7).cell? ⟨w.heap.size + 1, 2, none⟩ = some (.string (txt p.name)) := (S7.out.2.2.1.cell 2).trans rfl
  have qx3 : (w7).cell? ⟨w.heap.size + 1, 3, none⟩ = some (.string (txt p.key)) := (S7.out.2.2.1.cell 3).trans rfl
  have qx4 : (w7).cell? ⟨w.heap.size + 1, 4, none⟩ = some (.int .i64 p.kind) := (S7.out.2.2.1.cell 4).trans rfl
  have qx5 : (w7).cell? ⟨w.heap.size + 1, 5, none⟩ = some (.int .u64 (p.num : Int)) := (S7.out.2.2.1.cell 5).trans rfl
  have qx6 : (w7).cell? ⟨w.heap.size + 1, 6, none⟩ = some (.string (txt p.text)) := (S7.out.2.2.1.cell 6).trans rfl
  have qx7 : (w7).cell? ⟨w.heap.size + 1, 7, none⟩ = some (.slice P pf.len pc) := (S7.out.2.2.1.cell 7).trans rfl
  have qn0 : (w7).cell? ⟨w.heap.size, 0, none⟩ = some (.string (txt a.name)) := (S7.out.2.1.cell 0).trans rfl
  have qn1 : (w7).cell? ⟨w.heap.size, 1, none⟩ = some (.string (txt a.key)) := (S7.out.2.1.cell 1).trans rfl
  have qn2 : (w7).cell? ⟨w.heap.size, 2, none⟩ = some (.int .i64 a.kind) := (S7.out.2.1.cell 2).trans rfl
  have qn3 : (w7).cell? ⟨w.heap.size, 3, none⟩ = some (.int .u64 (a.num : Int)) := (S7.out.2.1.cell 3).trans rfl
  have qn4 : (w7).cell? ⟨w.heap.size, 4, none⟩ = some (.string (txt a.text)) := (S7.out.2.1.cell 4).trans rfl
  have qn5 : (w7).cell? ⟨w.heap.size, 5, none⟩ = some (.slice A f.len c) := (S7.out.2.1.cell 5).trans rfl
  have qk10 : (w7).cell? ⟨w.heap.size + 1, 10, none⟩ = some (.int .i64 o.kind) := (S7.out.2.2.1.cell 10).trans rfl
  have Z7 : Hid (w.heap.size + 1 + 1 < w7.heap.size) := hHd S7.out.2.2.2.1.lt
  go_wp2_with fail
  refine (HT _ S7.out.1).out.mono ?_
  intro r w8 hr
  obtain ⟨A8, c8, rfl, hl8, hb8⟩ := hr.flat
  have S8 := hHd (S7.out.go hb8)
  have HL := hHd ((hl8.set6 (fun h9 => by have := HD.out _ h9; omega) Z7.out (.string (txt sa.name)) (.string (txt sa.key)) (.int .i64 sa.kind) (.int .u64 (sa.num : Int)) (.string (txt sa.text)) (.slice A8 sf.len c8)).after S7.out.1.size)
  clear hr hl8 hb8
  clear qx1 qx2 qx3 qx4 qx5 qx6 qx7 qn0 qn1 qn2 qn3 qn4 qn5 qk10
  have fz0 : (w8).frozen? ⟨w.heap.size + 1 + 1, 0, none⟩ = false := S8.out.2.2.2.1.frozen 0
  have qz0 : (w8).cell? ⟨w.heap.size + 1 + 1, 0, none⟩ = some (.string ⟨#[]⟩) := (S8.out.2.2.2.1.cell 0).trans rfl
  have fz1 : (w8).frozen? ⟨w.heap.size + 1 + 1, 1, none⟩ = false := S8.out.2.2.2.1.frozen 1
  have qz1 : (w8).cell? ⟨w.heap.size + 1 + 1, 1, none⟩ = some (.string ⟨#[]⟩) := (S8.out.2.2.2.1.cell 1).trans rfl
  have fz2 : (w8).frozen? ⟨w.heap.size + 1 + 1, 2, none⟩ = false := S8.out.2.2.2.1.frozen 2
  have qz2 : (w8).cell? ⟨w.heap.size + 1 + 1, 2, none⟩ = some (.int .i64 0) := (S8.out.2.2.2.1.cell 2).trans rfl
  have fz3 : (w8).frozen? ⟨w.heap.size + 1 + 1, 3, none⟩ = false := S8.out.2.2.2.1.frozen 3
  have qz3 : (w8).cell? ⟨w.heap.size + 1 + 1, 3, none⟩ = some (.int .u64 0) := (S8.out.2.2.2.1.cell 3).trans rfl
  have fz4 : (w8).frozen? ⟨w.heap.size + 1 + 1, 4, none⟩ = false := S8.out.2.2.2.1.frozen 4
  have qz4 : (w8).cell? ⟨w.heap.size + 1 + 1, 4, none⟩ = some (.string ⟨#[]⟩) := (S8.out.2.2.2.1.cell 4).trans rfl
  have fz5 : (w8).frozen? ⟨w.heap.size + 1 + 1, 5, none⟩ = false := S8.out.2.2.2.1.frozen 5
  have qz5 : (w8).cell? ⟨w.heap.size + 1 + 1, 5, none⟩ = some (.slice none 0 0) := (S8.out.2.2.2.1.cell 5).trans rfl
  have HE := hHd (S8.out.end_ (.string (txt sa.name)) (.string (txt sa.key)) (.int .i64 sa.kind) (.int .u64 (sa.num : Int)) (.string (txt sa.text)) (.slice A8 sf.len c8))
  go_wp2
  refine bodyPost_ret (res_ct9 rfl _ _ (w.heap.size + 1 + 1) 27 _ (0, 0) _ rfl HE.out.1 Try.underlying27 rfl (by kernel_rfl)) rfl ?_
  exact ⟨_, rfl, HL.out, HE.out.2⟩
end Go.Proofs.Ythmobcaidhgeaaa
