/- DfvG DfvM -/
import Derived.Test.YthdhchhpjoghlaaAM0
import Derived.Test.YthdhchhpjoghlaaAM19
import Derived.Test.YthdhchhpjoghlaaAM23
import Derived.Test.YthdhchhpjoghlaaAM9
import Derived.Test.YthdhchhpjoghlaaAM26
import Derived.Deep.DeepCutAuto
set_option linter.unusedSimpArgs false
set_option linter.unusedVariables false
namespace Go.Proofs.Ythdhchhpjoghlaa
open Go.RowKit
attribute [local go_sem] Oper.semAt_some
theorem wpIn_act16 {F : Fence} {n : Nat} {P : Program} {c : Code} {Q : Exit → Act → World → Prop} {a : Act} {w : World} (h : ∀ act, act = a → c.wpIn F n P Q act w) : c.wpIn F n P Q a w := h a rfl
def InvA (m : Nat) (T : Array Value) (x : EltE) (a : Act) (W : World) : Prop := ∃ Bx, m ≤ Bx ∧ Blk W Bx 42 x.cs.toArray ∧ a = { tmps := ((T.setIfInBounds 8 (.int .i64 (x.i : Int))).setIfInBounds 9 (.agg x.cs.toArray)).setIfInBounds 5 (.pointer (some ⟨Bx, 0, none⟩)), defers := [] }
theorem invA_own (m : Nat) (T : Array Value) (x : EltE) (a : Act) : OwnFrom m (fun (_ : Unit) W => InvA m T x a W) := by
 rintro _ A B row ⟨Bx, h1, h2, h3⟩ hg hr
 refine ⟨Bx, h1, (hg.block Bx h2.lt (fun e => ?_)).trans h2, h3⟩
 obtain ⟨_, o, ho, hcc⟩ := hr Bx e.symm
 rw [show A.heap[Bx]? = some _ from h2] at ho
 injection ho with ho
 subst ho
 cases hcc
set_option maxRecDepth 100000 in
set_option maxHeartbeats 8000000 in
theorem dinv16_any (l : List EdD) (v : Value) (w : World) (hv : EdsV (Bel w) w v l) (hl : FewE l) :
  Calls Try.prog 13 #[v] w (InvP (invX l) w) := by
 obtain ⟨A0, c0, rfl⟩ := hv.shape
 have HV := Lib.hid hv
 have HL := Lib.hid hl
 clear hv hl
 refine (callsIn_wide (n := 9)).1 ?_
 refine callsIn_of_wp_marks Try.func13 rfl trivial ?_ rfl
 simp only [Try.ntmps13, List.size_toArray, List.length_cons, List.length_nil, Nat.reduceAdd, Nat.reduceSub, Array.replicate_succ, Array.replicate_zero, List.push_toArray, List.append_toArray, List.nil_append, List.cons_append]
 gi_wp2_with fail
 refine ⟨trivial, calls_wideR (ro := none) ((back_any _ _ _ _).mono ?_)⟩
 rintro e w' ⟨rfl, rfl⟩
 gi_wp2_with fail
 refine wpIn_act16 ?_
 intro act hact
 obtain ⟨V0, hV0⟩ : ∃ V0, V0 = (w.alloc (.cells #[.slice none 0 0] 31)).alloc (.cells #[.slice A0 l.length c0] 31) := ⟨_, rfl⟩
 rw [← hV0]
 have hs : V0.heap.size = w.heap.size + 2 := by rw [hV0]; simp
 have hbt : Below w.heap.size w V0 := by rw [hV0]; exact ((Below.refl _ _).alloc (Nat.le_refl _) _).alloc (by simp) _
 have hgR : Blk V0 w.heap.size 31 #[.slice none 0 0] := by rw [hV0]; exact (Blk.new w _ _).alloc _
 have hgB : Blk V0 (w.heap.size + 1) 31 #[.slice A0 l.length c0] := by rw [hV0]; exact Blk.newA (by simp) _ _
 have hvV : EdsV (fun g => g < w.heap.size) V0 (.slice A0 l.length c0) l := HV.out.keep (fun g hg => hbt.block g hg) (fun _ h => h)
 have hseq := back_seq (9 - 1) (by decide) (w.heap.size + 1) w.heap.size (w.heap.size + 2) w.heap.size l A0 c0 (by omega) (by omega) (by omega) (Nat.le_refl _) V0 (Nat.le_of_eq hs.symm) hgB hvV HL.out.1
 have h0 : InvI (w.heap.size + 2) w.heap.size V0 [] V0 := ⟨_, fun _ => False, hgR, OwnE.nil _ _ (fun g h => h.elim), fun g h => h.elim, KpE.refl _ _ _, Nat.le_of_eq hs.symm⟩
 have HACT := Lib.hid hact
 have HS := Lib.hid hs
 have HBT := Lib.hid hbt
 rw [← hs] at hseq h0
 have hRm : w.heap.size < V0.heap.size := by omega
 have HRM := Lib.hid hRm
 refine wpIn_range_mem (F := Fence.wide) rfl (by decide) (gf := 46) (lb := #[.pointer (some ⟨w.heap.size + 1, 0, none⟩)]) (by rw [hact]; rfl) trivial (enters_of Try.func46 (by kernel_rfl) rfl)
  hseq (fun h k => KpE.trans h k) (fun W l o o' h _ _ _ => KpE.putObj _ _ _ h) (Below.refl _ _) (fun _ => rfl)
  (InvI V0.heap.size w.heap.size V0) (fun _ _ _ => False) (invI_own V0 hRm) (fun _ => fun _ _ _ _ h _ _ => h.elim) (gE_own l (Nat.le_of_lt hRm)) (fun _ _ _ _ h _ _ => h) (fun _ _ _ _ h _ _ => h) h0
  (InvA V0.heap.size act.tmps) (fun x a' => invA_own _ _ x a') ?assign ?body ?done ?stop
 all_goals clear hact hs hbt hgR hgB hvV hseq h0 hRm hV0
 case stop => rintro D c ys W hD _ h _; exact h.elim
 case assign =>
  rintro l' pre x W K hI hG hK
  obtain ⟨e, cs, i⟩ := x
  have hG2 : EdS (fun g => g < w.heap.size) W cs e := hG.2.1
  obtain ⟨Aw, cw, An, cn, Ao, co, rfl, hw, hn, ho⟩ := hG2.shape
  clear hG2
  rw [HACT.out] at hK ⊢
  simp only [encE]
  gi_wp2
  have hal : Below W.heap.size W (W.alloc (.cells #[.int .i64 e.kind, .slice Aw e.way.length cw, .string (txt e.node.1.name), .string (txt e.node.1.key), .int .i64 e.node.1.kind, .int .u64 (e.node.1.num : Int), .string (txt e.node.1.text), .slice An e.node.2.len cn, .string (txt e.old.1.name), .string (txt e.old.1.key), .int .i64 e.old.1.kind, .int .u64 (e.old.1.num : Int), .string (txt e.old.1.text), .slice Ao e.old.2.len co] 42)) := (Below.refl _ _).alloc (Nat.le_refl _) _
  refine hK _ _ ((KeepsOthers.alloc _ _).from _) (KpE.below hal) ((invI_own V0 HRM.out).alloc _ hI) ((gE_own l (Nat.le_of_lt HRM.out)).alloc _ hG) ⟨W.heap.size, by obtain ⟨_, _, _, _, _, _, h⟩ := hI; exact h, Blk.new _ _ _, rfl⟩
 case done =>
  rintro D ys W hD hS ⟨u, S, h1, h2, h3, h4, h5⟩ hK
  rw [HACT.out]
  obtain ⟨Au, cu, rfl⟩ := h2.shape
  have hz : (ys.map (·.e)).filterMap inv1 = invX l := by rw [hS]; rfl
  rw [hz] at h1 h2
  have q0 : W.cell? ⟨w.heap.size, 0, none⟩ = some (.slice Au (invX l).length cu) := (h1.cell 0).trans rfl
  have HQ : Hid (InvP (invX l) w (.returned (.slice Au (invX l).length cu)) (W.putObj D (.deferred none))) := Lib.hid (by
   have hkk : ∀ g, g < V0.heap.size ∨ (∃ cs t, W.heap[g]? = some (.cells cs t (0, 0))) → (W.putObj D (.deferred none)).heap[g]? = W.heap[g]? := fun g hg => World.putObj_heap_other (by
    rintro rfl
    rcases hg with hg | ⟨cs, t, hg⟩
    ·omega
    ·rw [hK] at hg; cases hg)
   have hzz : (W.putObj D (.deferred none)).heap.size = W.heap.size := by simp
   refine ⟨_, rfl, h2.eds.keep (fun g hg => hkk g ?_) (fun g hg => ?_), ?_⟩
   ·rcases hg with hg | hg
    ·obtain ⟨_, cs, t, h⟩ := h3 g hg; exact .inr ⟨cs, t, h⟩
    ·obtain ⟨cs, h⟩ := own_cells h2 hg; exact .inr ⟨cs, _, h⟩
   ·show g < _
    rw [hzz]
    rcases hg with hg | hg
    ·exact (h2.1 g hg).1
    ·exact (h2.lt g hg).2
   ·refine ⟨h4.1.trans HBT.out.os, h4.2.1.trans HBT.out.tape, h4.2.2.1.trans HBT.out.output, Nat.le_trans HBT.out.size (by rw [hzz]; exact h4.2.2.2.1), fun g hg => (hkk g (.inl (by have := HS.out; omega))).trans ((h4.2.2.2.2 g (by have := HS.out; omega) (by have := HS.out; omega) (by omega)).trans (HBT.out.block g hg))⟩)
  clear h1 h2 h3 h4 hS hz
  gi_wp2
  refine ⟨by simp, .inl ⟨_, _, rfl, run_takeDeferred hK, ?_⟩⟩
  exact ⟨_, results_tmp (t := 2) rfl _ _ _, HQ.out⟩
 case body =>
  rintro l' pre x a' W hl hI hG ⟨Bx, hBx, hblk, rfl⟩ hlen
  obtain ⟨e, cs, i⟩ := x
  have hG2 : EdS (fun g => g < w.heap.size) W cs e := hG.2.1
  obtain ⟨Aw, cw, An, cn, Ao, co, rfl, hw, hn, ho⟩ := hG2.shape
  clear hG2
  rw [HACT.out]
  simp only [List.setIfInBounds_toArray, List.set_cons_succ, List.set_cons_zero]
  have hblk2 : Blk W Bx 42 #[.int .i64 e.kind, .slice Aw e.way.length cw, .string (txt e.node.1.name), .string (txt e.node.1.key), .int .i64 e.node.1.kind, .int .u64 (e.node.1.num : Int), .string (txt e.node.1.text), .slice An e.node.2.len cn, .string (txt e.old.1.name), .string (txt e.old.1.key), .int .i64 e.old.1.kind, .int .u64 (e.old.1.num : Int), .string (txt e.old.1.text), .slice Ao e.old.2.len co] := hblk
  have HX := Lib.hid hblk2
  have hfe := HL.out.2 e (List.mem_of_getElem? hG.1)
  have HI := Lib.hid hI
  have y0 : W.cell? ⟨Bx, 0, none⟩ = some (.int .i64 e.kind) := (hblk2.cell 0).trans rfl
  have hbl : ∀ W', Below W.heap.size W W' → ∀ g, g < w.heap.size → W'.heap[g]? = W.heap[g]? := fun W' h g hg => h.block g (by have := hG.2.2; omega)
  have hbs : ∀ W', Below W.heap.size W W' → ∀ g, g < w.heap.size → Bel W' g := fun W' h g hg => Nat.lt_of_lt_of_le hg (Nat.le_trans hG.2.2 h.size)
  obtain ⟨u, S, hR, hO, hS, hK, hm⟩ := hI
  obtain ⟨Au, cu, rfl⟩ := hO.shape
  obtain ⟨M, hM⟩ : ∃ M, M = (pre.map (·.e)).filterMap inv1 := ⟨_, rfl⟩
  rw [← hM] at hR hO
  have hml : M.length ≤ 100000000 := by
   rw [hM]
   refine Nat.le_trans (List.length_filterMap_le _ _) ?_
   rw [List.length_map]
   have := HL.out.1
   omega
  have HR := Lib.hid hR
  have HO := Lib.hid hO
  have HSF := Lib.hid hS
  have HKK := Lib.hid hK
  have HMM := Lib.hid hm
  have HM := Lib.hid hM
  have HML := Lib.hid hml
  by_cases hk : e.kind = 1
  ·have HX1 : Hid (inv1 e = some (⟨2, e.way, noN, e.node⟩)) := Lib.hid (by unfold inv1; rw [if_pos hk])
   have HC : Hid (∀ W', Below W.heap.size W W' → Calls Try.prog 26 #[.slice Aw e.way.length cw, .agg #[.string (txt e.node.1.name), .string (txt e.node.1.key), .int .i64 e.node.1.kind, .int .u64 (e.node.1.num : Int), .string (txt e.node.1.text), .slice An e.node.2.len cn]] W' (EditP (⟨2, e.way, noN, e.node⟩) W')) := Lib.hid fun W' h => deleted_any e.way _ e.node An cn W' (hw.keep (hbl W' h) (hbs W' h)).v hfe.1 (RowS.lie (RowS.keep hn (hbl W' h) (hbs W' h))) hfe.2.1
   have k1 : (e.kind == 1) = true := beq_iff_eq.2 hk
   have HB0 : Hid (Below W.heap.size W W.drew) := Lib.hid (Below.refl _ _).drew
   have HS0 : Hid (Blk W.drew Bx 42 #[.int .i64 e.kind, .slice Aw e.way.length cw, .string (txt e.node.1.name), .string (txt e.node.1.key), .int .i64 e.node.1.kind, .int .u64 (e.node.1.num : Int), .string (txt e.node.1.text), .slice An e.node.2.len cn, .string (txt e.old.1.name), .string (txt e.old.1.key), .int .i64 e.old.1.kind, .int .u64 (e.old.1.num : Int), .string (txt e.old.1.text), .slice Ao e.old.2.len co] ∧ Blk W.drew w.heap.size 31 #[.slice Au M.length cu]) := Lib.hid ⟨HX.out, HR.out⟩
   clear hk hw hn ho hfe hbl hbs hR hO hS hK hm hM hml hblk hblk2 hG
   gi_wp2_with fail
   refine wpIn_region_calm (ro := (some l')) ?_
   refine wpIn_region_heldI [7] (S := fun _ => True) (by kernel_rfl) trivial (fun hS => ?_)
   refine heldI_more (S' := fun w' => Blk w' Bx 42 #[.int .i64 e.kind, .slice Aw e.way.length cw, .string (txt e.node.1.name), .string (txt e.node.1.key), .int .i64 e.node.1.kind, .int .u64 (e.node.1.num : Int), .string (txt e.node.1.text), .slice An e.node.2.len cn, .string (txt e.old.1.name), .string (txt e.old.1.key), .int .i64 e.old.1.kind, .int .u64 (e.old.1.num : Int), .string (txt e.old.1.text), .slice Ao e.old.2.len co] ∧ Blk w' w.heap.size 31 #[.slice Au M.length cu]) (fun _ _ => trivial) _ _ _ _ ?_
   replace hS := HS0.out
   refine tkI 0 [0, 7, 8] hS ?_ (hy := fun w hSw => by have z0 := (hSw.2.cell 0).trans rfl; (go_simp <;> with_reducible rfl))
   refine tkI 1 [1, 2, 5, 6, 7, 8] hS ?_
   refine tkI 2 [2, 5, 6, 7, 8] hS ?_ (hy := fun w hSw => by have z1 := (hSw.1.cell 1).trans rfl; (go_simp <;> with_reducible rfl))
   refine tkI 3 [3, 4, 5, 6, 7, 8] hS ?_
   refine tkI 4 [4, 5, 6, 7, 8] hS ?_ (hy := fun w hSw => by have z0n := (hSw.1.cell 2).trans rfl; have z1n := (hSw.1.cell 3).trans rfl; have z2n := (hSw.1.cell 4).trans rfl; have z3n := (hSw.1.cell 5).trans rfl; have z4n := (hSw.1.cell 6).trans rfl; have z5n := (hSw.1.cell 7).trans rfl; (go_simp <;> with_reducible rfl))
   refine heldI_ready (rs := [5]) (by kernel_rfl) (by simp) ?_
   refine (ReadyI.cons (o := ?or_0) ?ir_0 (by kernel_rfl) (fun K hK => ?str_0) ReadyI.nil)
   case ir_0 => simp only [layG]; rfl
   rw [if_pos (by rfl)]
   refine opIn_of (by kernel_rfl) ?_
   go_simp
   refine (HC.out _ HB0.out).mono ?_
   rintro r w5 ⟨A1, c1, A2, c2, A3, c3, hr, hE, hb⟩
   have hr2 : r = .returned (.agg #[.int .i64 2, .slice A1 e.way.length c1, .string ⟨#[]⟩, .string ⟨#[]⟩, .int .i64 0, .int .u64 0, .string ⟨#[]⟩, .slice A2 0 c2, .string (txt e.node.1.name), .string (txt e.node.1.key), .int .i64 e.node.1.kind, .int .u64 (e.node.1.num : Int), .string (txt e.node.1.text), .slice A3 e.node.2.len c3]) := hr
   subst hr2
   have HB5 := Lib.hid (HB0.out.trans (hb.mono HB0.out.size))
   have HE5 := Lib.hid hE
   have HS5 := Lib.hid (And.intro (HS0.out.1.below hb HS0.out.1.lt) (HS0.out.2.below hb HS0.out.2.lt))
   clear hr hE hb
   go_wp2_with fail
   refine hK.out _ _ ?sr_0 (fun hS => ?_)
   case sr_0 => (exact HS5.out)
   clear hK K
   (try simp only [Act.put, layS])
   refine heldI_ready (rs := [6]) (by kernel_rfl) (by simp) ?_
   refine (ReadyI.cons (o := ?or_1) ?ir_1 (by kernel_rfl) (fun K hK => ?str_1) ReadyI.nil)
   case ir_1 => simp only [layG]; rfl
   rw [if_pos (by rfl)]
   refine opIn_of (by kernel_rfl) ?_
   go_simp
   refine hK.out _ _ ?sr_1 (fun hS => ?_)
   case sr_1 => (exact And.intro (HS5.out.1.alloc _) (HS5.out.2.alloc _))
   clear hK K
   (try simp only [Act.put, layS])
   have HOW := Lib.hid (inv_own (cs := [.int .i64 2, .slice A1 e.way.length c1, .string ⟨#[]⟩, .string ⟨#[]⟩, .int .i64 0, .int .u64 0, .string ⟨#[]⟩, .slice A2 0 c2, .string (txt e.node.1.name), .string (txt e.node.1.key), .int .i64 e.node.1.kind, .int .u64 (e.node.1.num : Int), .string (txt e.node.1.text), .slice A3 e.node.2.len c3]) HO.out HB5.out HE5.out HMM.out)
   refine heldI_ready (rs := [7]) (by kernel_rfl) (by simp) ?_
   refine (ReadyI.consD (o := ?or_2) ?ir_2 (by kernel_rfl) (fun K hK => ?str_2) ReadyI.nil)
   case ir_2 => simp only [layG]; rfl
   rw [if_pos (by rfl)]
   refine opIn_of (by kernel_rfl) ?_
   refine wp_append_e (.tmp 14) (.tmp 20) (by rfl) (by rfl) (by rfl) HOW.out.1 (by rfl) HOW.out.2.2.1 HOW.out.2.1 HML.out HOW.out.2.2.2 ?_
   intro v7 w7 hap
   obtain ⟨A7, c7, rfl⟩ : ∃ A c, v7 = .slice A (M.length + 1) c := by have h := hap.2.2; simpa using h
   have HAP := Lib.hid (inv_app (x := ⟨e, edC e.kind (.slice Aw e.way.length cw) e.node.1 (.slice An e.node.2.len cn) e.old.1 (.slice Ao e.old.2.len co), i⟩) HM.out HR.out HO.out HSF.out HKK.out HRM.out HMM.out HB5.out HX1.out hap)
   have HR7 : Hid (Blk w7 w.heap.size 31 #[.slice Au M.length cu]) := Lib.hid ((hap.2.1.block _ (Nat.lt_of_lt_of_le HS5.out.2.lt (by simp)) (fun e => by have := (HO.out.lt _ e.symm).1; have := HRM.out; omega)).trans (HS5.out.2.alloc _))
   clear hap
   refine hK.out _ _ ?_
   have hS : True := trivial
   clear hK K
   (try simp only [Act.put, layS])
   refine heldI_ready (rs := [8]) (by kernel_rfl) (by simp) ?_
   refine (ReadyI.cons (o := ?or_3) ?ir_3 (by kernel_rfl) (fun K hK => ?str_3) ReadyI.nil)
   case ir_3 => simp only [layG]; rfl
   rw [if_pos (by rfl)]
   refine opIn_of (by kernel_rfl) ?_
   have z0 : w7.cell? ⟨w.heap.size, 0, none⟩ = _ := (HR7.out.cell 0).trans rfl
   have z1 : w7.frozen? ⟨w.heap.size, 0, none⟩ = false := HR7.out.frozen 0
   go_simp
   refine hK.out _ _ ?sr_3 (fun hS => ?_)
   case sr_3 => (trivial)
   clear hK K
   (try simp only [Act.put, layS])
   refine heldI_done (by kernel_rfl) ?_ _
   refine NoPanic.normal ?_
   clear hS
   gi_wp2
   exact HAP.out
  have hk1 : (e.kind == 1) = false := beq_eq_false_iff_ne.2 hk
  by_cases hkk : e.kind = 2
  ·clear hk
   have hk := hkk
   clear hkk
   have HX1 : Hid (inv1 e = some (⟨1, e.way, e.old, noN⟩)) := Lib.hid (by unfold inv1; rw [if_neg (by rw [hk]; decide), if_pos hk])
   have HC : Hid (∀ W', Below W.heap.size W W' → Calls Try.prog 27 #[.slice Aw e.way.length cw, .agg #[.string (txt e.old.1.name), .string (txt e.old.1.key), .int .i64 e.old.1.kind, .int .u64 (e.old.1.num : Int), .string (txt e.old.1.text), .slice Ao e.old.2.len co]] W' (EditP (⟨1, e.way, e.old, noN⟩) W')) := Lib.hid fun W' h => created_any e.way _ e.old Ao co W' (hw.keep (hbl W' h) (hbs W' h)).v hfe.1 (RowS.lie (RowS.keep ho (hbl W' h) (hbs W' h))) hfe.2.2
   have k1 : (e.kind == 1) = false := beq_eq_false_iff_ne.2 (by rw [hk]; decide)
   have k2 : (e.kind == 2) = true := beq_iff_eq.2 hk
   have HB0 : Hid (Below W.heap.size W W.drew) := Lib.hid (Below.refl _ _).drew
   have HS0 : Hid (Blk W.drew Bx 42 #[.int .i64 e.kind, .slice Aw e.way.length cw, .string (txt e.node.1.name), .string (txt e.node.1.key), .int .i64 e.node.1.kind, .int .u64 (e.node.1.num : Int), .string (txt e.node.1.text), .slice An e.node.2.len cn, .string (txt e.old.1.name), .string (txt e.old.1.key), .int .i64 e.old.1.kind, .int .u64 (e.old.1.num : Int), .string (txt e.old.1.text), .slice Ao e.old.2.len co] ∧ Blk W.drew w.heap.size 31 #[.slice Au M.length cu]) := Lib.hid ⟨HX.out, HR.out⟩
   clear hk hw hn ho hfe hbl hbs hR hO hS hK hm hM hml hblk hblk2 hG
   gi_wp2_with fail
   refine wpIn_region_calm (ro := (some l')) ?_
   refine wpIn_region_heldI [7] (S := fun _ => True) (by kernel_rfl) trivial (fun hS => ?_)
   refine heldI_more (S' := fun w' => Blk w' Bx 42 #[.int .i64 e.kind, .slice Aw e.way.length cw, .string (txt e.node.1.name), .string (txt e.node.1.key), .int .i64 e.node.1.kind, .int .u64 (e.node.1.num : Int), .string (txt e.node.1.text), .slice An e.node.2.len cn, .string (txt e.old.1.name), .string (txt e.old.1.key), .int .i64 e.old.1.kind, .int .u64 (e.old.1.num : Int), .string (txt e.old.1.text), .slice Ao e.old.2.len co] ∧ Blk w' w.heap.size 31 #[.slice Au M.length cu]) (fun _ _ => trivial) _ _ _ _ ?_
   replace hS := HS0.out
   refine tkI 0 [0, 7, 8] hS ?_ (hy := fun w hSw => by have z0 := (hSw.2.cell 0).trans rfl; (go_simp <;> with_reducible rfl))
   refine tkI 1 [1, 2, 5, 6, 7, 8] hS ?_
   refine tkI 2 [2, 5, 6, 7, 8] hS ?_ (hy := fun w hSw => by have z1 := (hSw.1.cell 1).trans rfl; (go_simp <;> with_reducible rfl))
   refine tkI 3 [3, 4, 5, 6, 7, 8] hS ?_
   refine tkI 4 [4, 5, 6, 7, 8] hS ?_ (hy := fun w hSw => by have z0o := (hSw.1.cell 8).trans rfl; have z1o := (hSw.1.cell 9).trans rfl; have z2o := (hSw.1.cell 10).trans rfl; have z3o := (hSw.1.cell 11).trans rfl; have z4o := (hSw.1.cell 12).trans rfl; have z5o := (hSw.1.cell 13).trans rfl; (go_simp <;> with_reducible rfl))
   refine heldI_ready (rs := [5]) (by kernel_rfl) (by simp) ?_
   refine (ReadyI.cons (o := ?or_4) ?ir_4 (by kernel_rfl) (fun K hK => ?str_4) ReadyI.nil)
   case ir_4 => simp only [layG]; rfl
   rw [if_pos (by rfl)]
   refine opIn_of (by kernel_rfl) ?_
   go_simp
   refine (HC.out _ HB0.out).mono ?_
   rintro r w5 ⟨A1, c1, A2, c2, A3, c3, hr, hE, hb⟩
   have hr2 : r = .returned (.agg #[.int .i64 1, .slice A1 e.way.length c1, .string (txt e.old.1.name), .string (txt e.old.1.key), .int .i64 e.old.1.kind, .int .u64 (e.old.1.num : Int), .string (txt e.old.1.text), .slice A2 e.old.2.len c2, .string ⟨#[]⟩, .string ⟨#[]⟩, .int .i64 0, .int .u64 0, .string ⟨#[]⟩, .slice A3 0 c3]) := hr
   subst hr2
   have HB5 := Lib.hid (HB0.out.trans (hb.mono HB0.out.size))
   have HE5 := Lib.hid hE
   have HS5 := Lib.hid (And.intro (HS0.out.1.below hb HS0.out.1.lt) (HS0.out.2.below hb HS0.out.2.lt))
   clear hr hE hb
   go_wp2_with fail
   refine hK.out _ _ ?sr_4 (fun hS => ?_)
   case sr_4 => (exact HS5.out)
   clear hK K
   (try simp only [Act.put, layS])
   refine heldI_ready (rs := [6]) (by kernel_rfl) (by simp) ?_
   refine (ReadyI.cons (o := ?or_5) ?ir_5 (by kernel_rfl) (fun K hK => ?str_5) ReadyI.nil)
   case ir_5 => simp only [layG]; rfl
   rw [if_pos (by rfl)]
   refine opIn_of (by kernel_rfl) ?_
   go_simp
   refine hK.out _ _ ?sr_5 (fun hS => ?_)
   case sr_5 => (exact And.intro (HS5.out.1.alloc _) (HS5.out.2.alloc _))
   clear hK K
   (try simp only [Act.put, layS])
   have HOW := Lib.hid (inv_own (cs := [.int .i64 1, .slice A1 e.way.length c1, .string (txt e.old.1.name), .string (txt e.old.1.key), .int .i64 e.old.1.kind, .int .u64 (e.old.1.num : Int), .string (txt e.old.1.text), .slice A2 e.old.2.len c2, .string ⟨#[]⟩, .string ⟨#[]⟩, .int .i64 0, .int .u64 0, .string ⟨#[]⟩, .slice A3 0 c3]) HO.out HB5.out HE5.out HMM.out)
   refine heldI_ready (rs := [7]) (by kernel_rfl) (by simp) ?_
   refine (ReadyI.consD (o := ?or_6) ?ir_6 (by kernel_rfl) (fun K hK => ?str_6) ReadyI.nil)
   case ir_6 => simp only [layG]; rfl
   rw [if_pos (by rfl)]
   refine opIn_of (by kernel_rfl) ?_
   refine wp_append_e (.tmp 24) (.tmp 30) (by rfl) (by rfl) (by rfl) HOW.out.1 (by rfl) HOW.out.2.2.1 HOW.out.2.1 HML.out HOW.out.2.2.2 ?_
   intro v7 w7 hap
   obtain ⟨A7, c7, rfl⟩ : ∃ A c, v7 = .slice A (M.length + 1) c := by have h := hap.2.2; simpa using h
   have HAP := Lib.hid (inv_app (x := ⟨e, edC e.kind (.slice Aw e.way.length cw) e.node.1 (.slice An e.node.2.len cn) e.old.1 (.slice Ao e.old.2.len co), i⟩) HM.out HR.out HO.out HSF.out HKK.out HRM.out HMM.out HB5.out HX1.out hap)
   have HR7 : Hid (Blk w7 w.heap.size 31 #[.slice Au M.length cu]) := Lib.hid ((hap.2.1.block _ (Nat.lt_of_lt_of_le HS5.out.2.lt (by simp)) (fun e => by have := (HO.out.lt _ e.symm).1; have := HRM.out; omega)).trans (HS5.out.2.alloc _))
   clear hap
   refine hK.out _ _ ?_
   have hS : True := trivial
   clear hK K
   (try simp only [Act.put, layS])
   refine heldI_ready (rs := [8]) (by kernel_rfl) (by simp) ?_
   refine (ReadyI.cons (o := ?or_7) ?ir_7 (by kernel_rfl) (fun K hK => ?str_7) ReadyI.nil)
   case ir_7 => simp only [layG]; rfl
   rw [if_pos (by rfl)]
   refine opIn_of (by kernel_rfl) ?_
   have z0 : w7.cell? ⟨w.heap.size, 0, none⟩ = _ := (HR7.out.cell 0).trans rfl
   have z1 : w7.frozen? ⟨w.heap.size, 0, none⟩ = false := HR7.out.frozen 0
   go_simp
   refine hK.out _ _ ?sr_7 (fun hS => ?_)
   case sr_7 => (trivial)
   clear hK K
   (try simp only [Act.put, layS])
   refine heldI_done (by kernel_rfl) ?_ _
   refine NoPanic.normal ?_
   clear hS
   gi_wp2
   exact HAP.out
  have hk2 : (e.kind == 2) = false := beq_eq_false_iff_ne.2 hkk
  by_cases hkkk : e.kind = 3
  ·clear hk hkk
   have hk := hkkk
   clear hkkk
   have HX1 : Hid (inv1 e = some (⟨3, e.way, e.old, e.node⟩)) := Lib.hid (by unfold inv1; rw [if_neg (by rw [hk]; decide), if_neg (by rw [hk]; decide), if_pos hk])
   have HC : Hid (∀ W', Below W.heap.size W W' → Calls Try.prog 29 #[.slice Aw e.way.length cw, .agg #[.string (txt e.old.1.name), .string (txt e.old.1.key), .int .i64 e.old.1.kind, .int .u64 (e.old.1.num : Int), .string (txt e.old.1.text), .slice Ao e.old.2.len co], .agg #[.string (txt e.node.1.name), .string (txt e.node.1.key), .int .i64 e.node.1.kind, .int .u64 (e.node.1.num : Int), .string (txt e.node.1.text), .slice An e.node.2.len cn]] W' (EditP (⟨3, e.way, e.old, e.node⟩) W')) := Lib.hid fun W' h => replaced_any e.way _ e.old e.node Ao An co cn W' (hw.keep (hbl W' h) (hbs W' h)).v hfe.1 (RowS.lie (RowS.keep ho (hbl W' h) (hbs W' h))) hfe.2.2 (RowS.lie (RowS.keep hn (hbl W' h) (hbs W' h))) hfe.2.1
   have k1 : (e.kind == 1) = false := beq_eq_false_iff_ne.2 (by rw [hk]; decide)
   have k2 : (e.kind == 2) = false := beq_eq_false_iff_ne.2 (by rw [hk]; decide)
   have k3 : (e.kind == 3) = true := beq_iff_eq.2 hk
   have HB0 : Hid (Below W.heap.size W W.drew) := Lib.hid (Below.refl _ _).drew
   have HS0 : Hid (Blk W.drew Bx 42 #[.int .i64 e.kind, .slice Aw e.way.length cw, .string (txt e.node.1.name), .string (txt e.node.1.key), .int .i64 e.node.1.kind, .int .u64 (e.node.1.num : Int), .string (txt e.node.1.text), .slice An e.node.2.len cn, .string (txt e.old.1.name), .string (txt e.old.1.key), .int .i64 e.old.1.kind, .int .u64 (e.old.1.num : Int), .string (txt e.old.1.text), .slice Ao e.old.2.len co] ∧ Blk W.drew w.heap.size 31 #[.slice Au M.length cu]) := Lib.hid ⟨HX.out, HR.out⟩
   clear hk hw hn ho hfe hbl hbs hR hO hS hK hm hM hml hblk hblk2 hG
   gi_wp2_with fail
   refine wpIn_region_calm (ro := (some l')) ?_
   refine wpIn_region_heldI [9] (S := fun _ => True) (by kernel_rfl) trivial (fun hS => ?_)
   refine heldI_more (S' := fun w' => Blk w' Bx 42 #[.int .i64 e.kind, .slice Aw e.way.length cw, .string (txt e.node.1.name), .string (txt e.node.1.key), .int .i64 e.node.1.kind, .int .u64 (e.node.1.num : Int), .string (txt e.node.1.text), .slice An e.node.2.len cn, .string (txt e.old.1.name), .string (txt e.old.1.key), .int .i64 e.old.1.kind, .int .u64 (e.old.1.num : Int), .string (txt e.old.1.text), .slice Ao e.old.2.len co] ∧ Blk w' w.heap.size 31 #[.slice Au M.length cu]) (fun _ _ => trivial) _ _ _ _ ?_
   replace hS := HS0.out
   refine tkI 0 [0, 9, 10] hS ?_ (hy := fun w hSw => by have z0 := (hSw.2.cell 0).trans rfl; (go_simp <;> with_reducible rfl))
   refine tkI 1 [1, 2, 7, 8, 9, 10] hS ?_
   refine tkI 2 [2, 7, 8, 9, 10] hS ?_ (hy := fun w hSw => by have z1 := (hSw.1.cell 1).trans rfl; (go_simp <;> with_reducible rfl))
   refine tkI 3 [3, 4, 7, 8, 9, 10] hS ?_
   refine tkI 4 [4, 7, 8, 9, 10] hS ?_ (hy := fun w hSw => by have z0o := (hSw.1.cell 8).trans rfl; have z1o := (hSw.1.cell 9).trans rfl; have z2o := (hSw.1.cell 10).trans rfl; have z3o := (hSw.1.cell 11).trans rfl; have z4o := (hSw.1.cell 12).trans rfl; have z5o := (hSw.1.cell 13).trans rfl; (go_simp <;> with_reducible rfl))
   refine tkI 5 [5, 6, 7, 8, 9, 10] hS ?_
   refine tkI 6 [6, 7, 8, 9, 10] hS ?_ (hy := fun w hSw => by have z0n := (hSw.1.cell 2).trans rfl; have z1n := (hSw.1.cell 3).trans rfl; have z2n := (hSw.1.cell 4).trans rfl; have z3n := (hSw.1.cell 5).trans rfl; have z4n := (hSw.1.cell 6).trans rfl; have z5n := (hSw.1.cell 7).trans rfl; (go_simp <;> with_reducible rfl))
   refine heldI_ready (rs := [7]) (by kernel_rfl) (by simp) ?_
   refine (ReadyI.cons (o := ?or_8) ?ir_8 (by kernel_rfl) (fun K hK => ?str_8) ReadyI.nil)
   case ir_8 => simp only [layG]; rfl
   rw [if_pos (by rfl)]
   refine opIn_of (by kernel_rfl) ?_
   go_simp
   refine (HC.out _ HB0.out).mono ?_
   rintro r w5 ⟨A1, c1, A2, c2, A3, c3, hr, hE, hb⟩
   have hr2 : r = .returned (.agg #[.int .i64 3, .slice A1 e.way.length c1, .string (txt e.old.1.name), .string (txt e.old.1.key), .int .i64 e.old.1.kind, .int .u64 (e.old.1.num : Int), .string (txt e.old.1.text), .slice A2 e.old.2.len c2, .string (txt e.node.1.name), .string (txt e.node.1.key), .int .i64 e.node.1.kind, .int .u64 (e.node.1.num : Int), .string (txt e.node.1.text), .slice A3 e.node.2.len c3]) := hr
   subst hr2
   have HB5 := Lib.hid (HB0.out.trans (hb.mono HB0.out.size))
   have HE5 := Lib.hid hE
   have HS5 := Lib.hid (And.intro (HS0.out.1.below hb HS0.out.1.lt) (HS0.out.2.below hb HS0.out.2.lt))
   clear hr hE hb
   go_wp2_with fail
   refine hK.out _ _ ?sr_8 (fun hS => ?_)
   case sr_8 => (exact HS5.out)
   clear hK K
   (try simp only [Act.put, layS])
   refine heldI_ready (rs := [8]) (by kernel_rfl) (by simp) ?_
   refine (ReadyI.cons (o := ?or_9) ?ir_9 (by kernel_rfl) (fun K hK => ?str_9) ReadyI.nil)
   case ir_9 => simp only [layG]; rfl
   rw [if_pos (by rfl)]
   refine opIn_of (by kernel_rfl) ?_
   go_simp
   refine hK.out _ _ ?sr_9 (fun hS => ?_)
   case sr_9 => (exact And.intro (HS5.out.1.alloc _) (HS5.out.2.alloc _))
   clear hK K
   (try simp only [Act.put, layS])
   have HOW := Lib.hid (inv_own (cs := [.int .i64 3, .slice A1 e.way.length c1, .string (txt e.old.1.name), .string (txt e.old.1.key), .int .i64 e.old.1.kind, .int .u64 (e.old.1.num : Int), .string (txt e.old.1.text), .slice A2 e.old.2.len c2, .string (txt e.node.1.name), .string (txt e.node.1.key), .int .i64 e.node.1.kind, .int .u64 (e.node.1.num : Int), .string (txt e.node.1.text), .slice A3 e.node.2.len c3]) HO.out HB5.out HE5.out HMM.out)
   refine heldI_ready (rs := [9]) (by kernel_rfl) (by simp) ?_
   refine (ReadyI.consD (o := ?or_a) ?ir_a (by kernel_rfl) (fun K hK => ?str_a) ReadyI.nil)
   case ir_a => simp only [layG]; rfl
   rw [if_pos (by rfl)]
   refine opIn_of (by kernel_rfl) ?_
   refine wp_append_e (.tmp 34) (.tmp 42) (by rfl) (by rfl) (by rfl) HOW.out.1 (by rfl) HOW.out.2.2.1 HOW.out.2.1 HML.out HOW.out.2.2.2 ?_
   intro v7 w7 hap
   obtain ⟨A7, c7, rfl⟩ : ∃ A c, v7 = .slice A (M.length + 1) c := by have h := hap.2.2; simpa using h
   have HAP := Lib.hid (inv_app (x := ⟨e, edC e.kind (.slice Aw e.way.length cw) e.node.1 (.slice An e.node.2.len cn) e.old.1 (.slice Ao e.old.2.len co), i⟩) HM.out HR.out HO.out HSF.out HKK.out HRM.out HMM.out HB5.out HX1.out hap)
   have HR7 : Hid (Blk w7 w.heap.size 31 #[.slice Au M.length cu]) := Lib.hid ((hap.2.1.block _ (Nat.lt_of_lt_of_le HS5.out.2.lt (by simp)) (fun e => by have := (HO.out.lt _ e.symm).1; have := HRM.out; omega)).trans (HS5.out.2.alloc _))
   clear hap
   refine hK.out _ _ ?_
   have hS : True := trivial
   clear hK K
   (try simp only [Act.put, layS])
   refine heldI_ready (rs := [10]) (by kernel_rfl) (by simp) ?_
   refine (ReadyI.cons (o := ?or_b) ?ir_b (by kernel_rfl) (fun K hK => ?str_b) ReadyI.nil)
   case ir_b => simp only [layG]; rfl
   rw [if_pos (by rfl)]
   refine opIn_of (by kernel_rfl) ?_
   have z0 : w7.cell? ⟨w.heap.size, 0, none⟩ = _ := (HR7.out.cell 0).trans rfl
   have z1 : w7.frozen? ⟨w.heap.size, 0, none⟩ = false := HR7.out.frozen 0
   go_simp
   refine hK.out _ _ ?sr_b (fun hS => ?_)
   case sr_b => (trivial)
   clear hK K
   (try simp only [Act.put, layS])
   refine heldI_done (by kernel_rfl) ?_ _
   refine NoPanic.normal ?_
   clear hS
   gi_wp2
   exact HAP.out
  ·have hk3 : (e.kind == 3) = false := beq_eq_false_iff_ne.2 hkkk
   have HAP := Lib.hid (inv_skip (x := ⟨e, edC e.kind (.slice Aw e.way.length cw) e.node.1 (.slice An e.node.2.len cn) e.old.1 (.slice Ao e.old.2.len co), i⟩) HI.out (by show inv1 e = none; unfold inv1; rw [if_neg hk, if_neg hkk, if_neg hkkk]))
   clear hk hkk hkkk hw hn ho hfe hbl hbs hR hO hS hK hm hM hml hblk hblk2 hG
   gi_wp2
   exact HAP.out
end Go.Proofs.Ythdhchhpjoghlaa
namespace Go.Proofs.Ythdhchhpjoghlaa
open Go.RowKit
attribute [local go_sem] Oper.semAt_some
theorem edits_env (w : World) (X Y : Array Value) : Below w.heap.size w ((((((w.alloc (.cells X 27)).alloc (.cells Y 27)).alloc (.cells #[.slice none 0 0] 31)).alloc (.cells #[.func (.func 23) #[] #[.pointer (some ⟨w.heap.size + 2, 0, none⟩)]] 46)).alloc (.cells #[.func (.func 30) #[] #[.pointer (some ⟨w.heap.size + 3, 0, none⟩), .pointer (some ⟨w.heap.size + 5, 0, none⟩)]] 47)).alloc (.cells #[.func (.func 24) #[] #[.pointer (some ⟨w.heap.size + 3, 0, none⟩), .pointer (some ⟨w.heap.size + 4, 0, none⟩)]] 50)) ∧ StE w.heap.size (fun _ => False) ((((((w.alloc (.cells X 27)).alloc (.cells Y 27)).alloc (.cells #[.slice none 0 0] 31)).alloc (.cells #[.func (.func 23) #[] #[.pointer (some ⟨w.heap.size + 2, 0, none⟩)]] 46)).alloc (.cells #[.func (.func 30) #[] #[.pointer (some ⟨w.heap.size + 3, 0, none⟩), .pointer (some ⟨w.heap.size + 5, 0, none⟩)]] 47)).alloc (.cells #[.func (.func 24) #[] #[.pointer (some ⟨w.heap.size + 3, 0, none⟩), .pointer (some ⟨w.heap.size + 4, 0, none⟩)]] 50)) (.slice none 0 0) [] (.slice none 0 0) [] ∧ Blk ((((((w.alloc (.cells X 27)).alloc (.cells Y 27)).alloc (.cells #[.slice none 0 0] 31)).alloc (.cells #[.func (.func 23) #[] #[.pointer (some ⟨w.heap.size + 2, 0, none⟩)]] 46)).alloc (.cells #[.func (.func 30) #[] #[.pointer (some ⟨w.heap.size + 3, 0, none⟩), .pointer (some ⟨w.heap.size + 5, 0, none⟩)]] 47)).alloc (.cells #[.func (.func 24) #[] #[.pointer (some ⟨w.heap.size + 3, 0, none⟩), .pointer (some ⟨w.heap.size + 4, 0, none⟩)]] 50)) w.heap.size 27 X ∧ Blk ((((((w.alloc (.cells X 27)).alloc (.cells Y 27)).alloc (.cells #[.slice none 0 0] 31)).alloc (.cells #[.func (.func 23) #[] #[.pointer (some ⟨w.heap.size + 2, 0, none⟩)]] 46)).alloc (.cells #[.func (.func 30) #[] #[.pointer (some ⟨w.heap.size + 3, 0, none⟩), .pointer (some ⟨w.heap.size + 5, 0, none⟩)]] 47)).alloc (.cells #[.func (.func 24) #[] #[.pointer (some ⟨w.heap.size + 3, 0, none⟩), .pointer (some ⟨w.heap.size + 4, 0, none⟩)]] 50)) (w.heap.size + 1) 27 Y := by
 refine ⟨((((((Below.refl _ _).alloc (Nat.le_refl _) _).alloc (by simp) _).alloc (by simp; omega) _).alloc (by simp; omega) _).alloc (by simp; omega) _).alloc (by simp; omega) _, ⟨⟨?_, ?_, ?_⟩, ?_, ?_, fun g h => h.elim, fun g h => h.elim, OwnS.nil _ _, .inl rfl⟩, ?_, ?_⟩
 ·exact ((Blk.newA (by simp) _ _).alloc _).alloc _
 ·exact (Blk.newA (by simp) _ _).alloc _
 ·exact Blk.newA (by simp) _ _
 ·exact (((Blk.newA (by simp) _ _).alloc _).alloc _).alloc _
 ·exact OwnE.nil _ _ (fun g h => h.elim)
 ·exact (((((Blk.new w _ _).alloc _).alloc _).alloc _).alloc _).alloc _
 ·exact ((((Blk.newA (by simp) _ _).alloc _).alloc _).alloc _).alloc _
set_option maxRecDepth 100000 in
set_option maxHeartbeats 8000000 in
theorem dedits16_any (a b : NdD) (f g : NdF) (A B : Option Addr) (c d : Nat) (w : World) (hx : LieN w (ndC a (.slice A f.len c)) (a, f)) (hy : LieN w (ndC b (.slice B g.len d)) (b, g)) (hz : f.size + g.size ≤ 1000000) :
  Calls Try.prog 10 #[.agg #[.string (txt a.name), .string (txt a.key), .int .i64 a.kind, .int .u64 (a.num : Int), .string (txt a.text), .slice A f.len c], .agg #[.string (txt b.name), .string (txt b.key), .int .i64 b.kind, .int .u64 (b.num : Int), .string (txt b.text), .slice B g.len d]] w (InvP (edF f g []) w) := by
 have hmf : ∀ (fn : Fn) (first cap : Array Value) (w : World), (Instr.makeFunc fn first cap).run Try.prog w = .ok (.func fn first cap) w := fun _ _ _ _ => rfl
 obtain ⟨hb, hst, hX, hY⟩ := edits_env w #[.string (txt a.name), .string (txt a.key), .int .i64 a.kind, .int .u64 (a.num : Int), .string (txt a.text), .slice A f.len c] #[.string (txt b.name), .string (txt b.key), .int .i64 b.kind, .int .u64 (b.num : Int), .string (txt b.text), .slice B g.len d]
 have hc := beside_any (f.size + g.size + 1) f g (Nat.lt_succ_self _) w.heap.size _ _ _ _ _ [] A B c d hst (RowS.keep (RowS.bel hx) (fun k hk => hb.block k hk) (fun _ h => h)) (RowS.keep (RowS.bel hy) (fun k hk => hb.block k hk) (fun _ h => h)) (by simpa using hz) (by simp; omega)
 have HC := Lib.hid hc
 have HB := Lib.hid hb
 clear hx hy hz hc hb hst hX hY
 go_enter Try.func10, Try.ntmps10
 go_wp2_with fail
 refine HC.out.mono ?_
 rintro r w7 ⟨⟨xr, rfl⟩, v7, S7, h7, ht, -, -⟩
 obtain ⟨A7, c7, rfl⟩ := h7.own.shape
 rw [List.nil_append] at h7
 have q0 : w7.cell? ⟨w.heap.size + 2, 0, none⟩ = some (.slice A7 (edF f g []).length c7) := (h7.res.cell 0).trans rfl
 have q1 : w7.cell? ⟨w.heap.size + 1 + 1, 0, none⟩ = some (.slice A7 (edF f g []).length c7) := q0
 have HQ : Hid (InvP (edF f g []) w (.returned (.slice A7 (edF f g []).length c7)) w7) := Lib.hid ⟨_, rfl, h7.own.bel, ht.1.trans HB.out.os, ht.2.1.trans HB.out.tape, ht.2.2.1.trans HB.out.output, Nat.le_trans HB.out.size ht.2.2.2.1, fun k hk => (ht.2.2.2.2 k (Nat.lt_of_lt_of_le hk HB.out.size) (by omega) (by simp [Value.ownBlock]) (by simp [Value.ownBlock])).trans (HB.out.block k hk)⟩
 clear h7 ht HC
 go_wp2
 go_ret
 exact HQ.out
theorem difC (W0 : World) : DifC W0 :=
 ⟨fun a b f g A B c d w hx hy hz _ _ _ _ _ => dedits16_any a b f g A B c d w hx hy hz, fun l v w hv hl _ => dinv16_any l v w hv hl, fun l m v u w hv hu hl hm _ => dunder16_any l m v u w hv hu hl hm, fun l m va vb w ha hb hl hm _ => dsame16_any l m va vb w ha hb hl hm⟩
end Go.Proofs.Ythdhchhpjoghlaa
