/- DifRefB -/
import Derived.Test.YtleidkpdpabkpaaGreatDoorAM12
set_option linter.unusedSimpArgs false
set_option linter.unusedVariables false
set_option maxRecDepth 100000
set_option maxHeartbeats 8000000
namespace Go.Proofs.YtleidkpdpabkpaaGreatDoor
open Go.RowKit
section
attribute [local go_sem] Oper.semAt_some
theorem rsame16_len (l m : List EdD) (va vb : Value) (w : World) (ha : EdsV (Bel w) w va l) (hb : EdsV (Bel w) w vb m) (hl : FewE l) (hm : FewE m) (hlm : l.length = m.length) :
  Calls Tryz.prog 14 #[va, vb] w (Ans9 (.bool (decide (l = m))) w) := by
 obtain ⟨A, c, rfl⟩ := ha.shape
 obtain ⟨B, c', rfl⟩ := hb.shape
 have HVA := hHd ha
 have HVB := hHd hb
 have HLA := hHd hl
 have HLB := hHd hm
 have HLM := hHd hlm
 obtain ⟨N, hN⟩ : ∃ N, N = l.length := ⟨_, rfl⟩
 have hM : m.length = N := by omega
 have l0 : N ≤ 1000000 := by rw [hN]; exact hl.1
 rw [← hN, hM]
 have HNN := hHd hN
 clear ha hb hl hm hlm hM
 have e0 : ((N : Int) != (N : Int)) = false := by simp
 rw [← hN] at HVA
 have HVB' : Hid (EdsV (Bel w) w (.slice B N c') m) := hHd (by have h := HVB.out; rwa [← HLM.out, ← hN] at h)
 clear hN HVB
 go_enter Tryz.func14, Tryz.ntmps14
 go_wp2_with fail
 go_loopw [5, 6, 7, 8] (fun v _ _ _ wr => ∃ j : Nat, j ≤ N ∧ v = .int .i64 (j : Int) ∧ Hid (∀ k, k < j → l[k]? = m[k]?) ∧ Hid (Below w.heap.size w wr)) (fun v _ _ _ _ => N - (intOf v).toNat)
 case atStart => exact ⟨0, Nat.zero_le _, rfl, hHd (fun k hk => absurd hk (Nat.not_lt_zero _)), hHd (Below.refl _ _)⟩
 case round =>
  obtain ⟨j, hj, rfl, HE, HB⟩ := hrel
  have i1 : (0 : Int) ≤ (j : Int) := by omega
  by_cases hlt : j < N
  ·have i2 : (j : Int) < (N : Int) := by omega
   obtain ⟨e, he⟩ : ∃ e, l[j]? = some e := ⟨_, List.getElem?_eq_getElem (by have := HNN.out; omega)⟩
   obtain ⟨d, hd⟩ : ∃ d, m[j]? = some d := ⟨_, List.getElem?_eq_getElem (by have := HNN.out; have := HLM.out; omega)⟩
   obtain ⟨g, o, Aw, cw, An, cn, Ao, co, rfl, -, -, hga, hwa, hna, hoa, hca⟩ := HVA.out.at he
   obtain ⟨g', o', Bw, dw, Bn, dn, Bo, do_, rfl, -, -, hgb, hwb, hnb, hob, hcb⟩ := HVB'.out.at hd
   have HCA := hHd (And.intro hga hca)
   have HCB := hHd (And.intro hgb hcb)
   have fa := HLA.out.2 e (List.mem_of_getElem? he)
   have fb := HLB.out.2 d (List.mem_of_getElem? hd)
   have hbel : ∀ W, Below w.heap.size w W → ∀ k, Bel w k → W.heap[k]? = w.heap[k]? := fun W h k hk => h.block k hk
   have CW : Hid (∀ W, Below w.heap.size w W → Hid (Calls Tryz.prog 31 #[.slice Aw e.way.length cw, .slice Bw d.way.length dw] W (Ans9 (.bool (decide (e.way = d.way))) W))) := hHd (fun W h => hHd (rsteps10_any _ _ _ _ W (WayV.below hwa.v h) (WayV.below hwb.v h) fa.1 fb.1))
   have CN : Hid (∀ W, Below w.heap.size w W → Hid (Calls Tryz.prog 32 #[.agg (ndC e.node.1 (.slice An e.node.2.len cn)).toArray, .agg (ndC d.node.1 (.slice Bn d.node.2.len dn)).toArray] W (Ans9 (.bool (decide (e.node = d.node))) W))) := hHd (fun W h => hHd (rsamet_any e.node d.node _ _ W (LieB.below (LieB.make hna) h) (LieB.below (LieB.make hnb) h) fa.2.1 fb.2.1))
   have CO : Hid (∀ W, Below w.heap.size w W → Hid (Calls Tryz.prog 32 #[.agg (ndC e.old.1 (.slice Ao e.old.2.len co)).toArray, .agg (ndC d.old.1 (.slice Bo d.old.2.len do_)).toArray] W (Ans9 (.bool (decide (e.old = d.old))) W))) := hHd (fun W h => hHd (rsamet_any e.old d.old _ _ W (LieB.below (LieB.make hoa) h) (LieB.below (LieB.make hob) h) fa.2.2 fb.2.2))
   have HED := hHd (And.intro he hd)
   have HLT := hHd hlt
   clear hga hgb hwa hwb hna hnb hoa hob hca hcb fa fb hbel he hd
   by_cases hed : e = d
   ·have b1 : decide (e.way = d.way) = true := decide_eq_true (by rw [hed])
    have b2 : decide (e.node = d.node) = true := decide_eq_true (by rw [hed])
    have b3 : decide (e.old = d.old) = true := decide_eq_true (by rw [hed])
    have b0 : e.kind = d.kind := by rw [hed]
    have n0 : (e.kind != d.kind) = false := by rw [b0]; simp
    have HQ := hHd hed
    rw [b1] at CW
    rw [b2] at CN
    rw [b3] at CO
    clear hed b1 b2 b3 b0
    go_wp2_with fail
    refine wp_region_noPanic ?_
    refine wp_region_held_drew (S := fun _ => True) (by kernel_rfl) trivial (fun hS => ?_)
    refine held_more (S' := fun w' => Below w.heap.size w w') (fun _ _ => trivial) _ _ _ _ ?_
    replace hS := HB.out.drew
    refine tkH 0 hS ?_
    refine tkH 1 hS ?_
    refine tkH 2 hS ?_
    refine tkH 3 hS ?_
    refine tkH 4 hS ?_ (hy := fun w hSw => by have z1a := (hSw.cell (p := ⟨g, o + j * 14 + 1, none⟩) HCA.out.1).trans (HCA.out.2 1 _ rfl); (go_simp <;> with_reducible rfl))
    refine tkH 5 hS ?_
    refine tkH 6 hS ?_
    refine tkH 7 hS ?_
    refine tkH 8 hS ?_
    refine tkH 9 hS ?_ (hy := fun w hSw => by have z1b := (hSw.cell (p := ⟨g', o' + j * 14 + 1, none⟩) HCB.out.1).trans (HCB.out.2 1 _ rfl); (go_simp <;> with_reducible rfl))
    refine rdy1 10 fun K hK => ?_
    go_simp
    refine (CW.out _ HB.out.drew).out.mono ?_
    rintro r w3 ⟨rfl, hb⟩
    have HBw3 := hHd (HB.out.drew.trans (hb.mono HB.out.drew.size))
    clear hb
    go_wp2_with fail
    refine hK.out _ _ ?sr_0 (fun hS => ?_)
    case sr_0 => (exact HBw3.out)
    clear hK K
    (try simp only [Act.put, layS])
    refine tkH 11 hS ?_
    refine wpAnyH_done (by kernel_rfl) ?_ _
    refine NoPanic.normal ?_
    clear hS
    go_wp2_with fail
    refine wp_region_noPanic ?_
    refine wp_region_held_drew (S := fun _ => True) (by kernel_rfl) trivial (fun hS => ?_)
    refine held_more (S' := fun w' => Below w.heap.size w w') (fun _ _ => trivial) _ _ _ _ ?_
    replace hS := HBw3.out.drew
    refine tkH 0 hS ?_
    refine tkH 1 hS ?_
    refine tkH 2 hS ?_
    refine tkH 3 hS ?_
    refine tkH 4 hS ?_ (hy := fun w hSw => by have z2a := (hSw.cell (p := ⟨g, o + j * 14 + 2, none⟩) HCA.out.1).trans (HCA.out.2 2 _ rfl); have z3a := (hSw.cell (p := ⟨g, o + j * 14 + 3, none⟩) HCA.out.1).trans (HCA.out.2 3 _ rfl); have z4a := (hSw.cell (p := ⟨g, o + j * 14 + 4, none⟩) HCA.out.1).trans (HCA.out.2 4 _ rfl); have z5a := (hSw.cell (p := ⟨g, o + j * 14 + 5, none⟩) HCA.out.1).trans (HCA.out.2 5 _ rfl); have z6a := (hSw.cell (p := ⟨g, o + j * 14 + 6, none⟩) HCA.out.1).trans (HCA.out.2 6 _ rfl); have z7a := (hSw.cell (p := ⟨g, o + j * 14 + 7, none⟩) HCA.out.1).trans (HCA.out.2 7 _ rfl); (go_simp <;> with_reducible rfl))
    refine tkH 5 hS ?_
    refine tkH 6 hS ?_
    refine tkH 7 hS ?_
    refine tkH 8 hS ?_
    refine tkH 9 hS ?_ (hy := fun w hSw => by have z2b := (hSw.cell (p := ⟨g', o' + j * 14 + 2, none⟩) HCB.out.1).trans (HCB.out.2 2 _ rfl); have z3b := (hSw.cell (p := ⟨g', o' + j * 14 + 3, none⟩) HCB.out.1).trans (HCB.out.2 3 _ rfl); have z4b := (hSw.cell (p := ⟨g', o' + j * 14 + 4, none⟩) HCB.out.1).trans (HCB.out.2 4 _ rfl); have z5b := (hSw.cell (p := ⟨g', o' + j * 14 + 5, none⟩) HCB.out.1).trans (HCB.out.2 5 _ rfl); have z6b := (hSw.cell (p := ⟨g', o' + j * 14 + 6, none⟩) HCB.out.1).trans (HCB.out.2 6 _ rfl); have z7b := (hSw.cell (p := ⟨g', o' + j * 14 + 7, none⟩) HCB.out.1).trans (HCB.out.2 7 _ rfl); (go_simp <;> with_reducible rfl))
    refine rdy1 10 fun K hK => ?_
    go_simp
    refine (CN.out _ HBw3.out.drew).out.mono ?_
    rintro r w4 ⟨rfl, hb⟩
    have HBw4 := hHd (HBw3.out.drew.trans (hb.mono HBw3.out.drew.size))
    clear hb
    go_wp2_with fail
    refine hK.out _ _ ?sr_1 (fun hS => ?_)
    case sr_1 => (exact HBw4.out)
    clear hK K
    (try simp only [Act.put, layS])
    refine tkH 11 hS ?_
    refine wpAnyH_done (by kernel_rfl) ?_ _
    refine NoPanic.normal ?_
    clear hS
    go_wp2_with fail
    refine wp_region_noPanic ?_
    refine wp_region_held_drew (S := fun _ => True) (by kernel_rfl) trivial (fun hS => ?_)
    refine held_more (S' := fun w' => Below w.heap.size w w') (fun _ _ => trivial) _ _ _ _ ?_
    replace hS := HBw4.out.drew
    refine tkH 0 hS ?_
    refine tkH 1 hS ?_
    refine tkH 2 hS ?_
    refine tkH 3 hS ?_
    refine tkH 4 hS ?_ (hy := fun w hSw => by have z8a := (hSw.cell (p := ⟨g, o + j * 14 + 8, none⟩) HCA.out.1).trans (HCA.out.2 8 _ rfl); have z9a := (hSw.cell (p := ⟨g, o + j * 14 + 9, none⟩) HCA.out.1).trans (HCA.out.2 9 _ rfl); have z10a := (hSw.cell (p := ⟨g, o + j * 14 + 10, none⟩) HCA.out.1).trans (HCA.out.2 10 _ rfl); have z11a := (hSw.cell (p := ⟨g, o + j * 14 + 11, none⟩) HCA.out.1).trans (HCA.out.2 11 _ rfl); have z12a := (hSw.cell (p := ⟨g, o + j * 14 + 12, none⟩) HCA.out.1).trans (HCA.out.2 12 _ rfl); have z13a := (hSw.cell (p := ⟨g, o + j * 14 + 13, none⟩) HCA.out.1).trans (HCA.out.2 13 _ rfl); (go_simp <;> with_reducible rfl))
    refine tkH 5 hS ?_
    refine tkH 6 hS ?_
    refine tkH 7 hS ?_
    refine tkH 8 hS ?_
    refine tkH 9 hS ?_ (hy := fun w hSw => by have z8b := (hSw.cell (p := ⟨g', o' + j * 14 + 8, none⟩) HCB.out.1).trans (HCB.out.2 8 _ rfl); have z9b := (hSw.cell (p := ⟨g', o' + j * 14 + 9, none⟩) HCB.out.1).trans (HCB.out.2 9 _ rfl); have z10b := (hSw.cell (p := ⟨g', o' + j * 14 + 10, none⟩) HCB.out.1).trans (HCB.out.2 10 _ rfl); have z11b := (hSw.cell (p := ⟨g', o' + j * 14 + 11, none⟩) HCB.out.1).trans (HCB.out.2 11 _ rfl); have z12b := (hSw.cell (p := ⟨g', o' + j * 14 + 12, none⟩) HCB.out.1).trans (HCB.out.2 12 _ rfl); have z13b := (hSw.cell (p := ⟨g', o' + j * 14 + 13, none⟩) HCB.out.1).trans (HCB.out.2 13 _ rfl); (go_simp <;> with_reducible rfl))
    refine rdy1 10 fun K hK => ?_
    go_simp
    refine (CO.out _ HBw4.out.drew).out.mono ?_
    rintro r w5 ⟨rfl, hb⟩
    have HBw5 := hHd (HBw4.out.drew.trans (hb.mono HBw4.out.drew.size))
    clear hb
    go_wp2_with fail
    refine hK.out _ _ ?sr_2 (fun hS => ?_)
    case sr_2 => (exact HBw5.out)
    clear hK K
    (try simp only [Act.put, layS])
    refine tkH 11 hS ?_
    refine wpAnyH_done (by kernel_rfl) ?_ _
    refine NoPanic.normal ?_
    clear hS
    go_wp2_with fail
    refine wp_region_noPanic ?_
    refine wp_region_held_drew (S := fun _ => True) (by kernel_rfl) trivial (fun hS => ?_)
    refine held_more (S' := fun w' => Below w.heap.size w w') (fun _ _ => trivial) _ _ _ _ ?_
    replace hS := HBw5.out.drew
    refine tkH 0 hS ?_
    refine tkH 1 hS ?_
    refine tkH 2 hS ?_
    refine tkH 3 hS ?_
    refine tkH 4 hS ?_ (hy := fun w hSw => by have z0a := (hSw.cell (p := ⟨g, o + j * 14, none⟩) HCA.out.1).trans (HCA.out.2 0 _ rfl); (go_simp <;> with_reducible rfl))
    refine tkH 5 hS ?_
    refine tkH 6 hS ?_
    refine tkH 7 hS ?_
    refine tkH 8 hS ?_
    refine tkH 9 hS ?_ (hy := fun w hSw => by have z0b := (hSw.cell (p := ⟨g', o' + j * 14, none⟩) HCB.out.1).trans (HCB.out.2 0 _ rfl); (go_simp <;> with_reducible rfl))
    refine tkH 10 hS ?_
    refine tkH 11 hS ?_
    refine tkH 12 hS ?_
    refine tkH 13 hS ?_
    refine tkH 14 hS ?_
    refine tkH 15 hS ?_
    refine tkH 16 hS ?_
    refine tkH 17 hS ?_
    refine tkH 18 hS ?_
    refine tkH 19 hS ?_
    refine tkH 20 hS ?_
    refine tkH 21 hS ?_
    refine tkH 22 hS ?_
    refine wpAnyH_done (by kernel_rfl) ?_ _
    refine NoPanic.normal ?_
    clear hS
    go_wp2
    go_roundw
    case rel => exact ⟨j + 1, HLT.out, by go_num, hHd (fun k hk => by
     by_cases hkj : k < j
     ·exact HE.out k hkj
     ·have e' : k = j := by omega
      subst e'
      rw [HED.out.1, HED.out.2, HQ.out]), hHd HBw5.out.drew⟩
    case measure => have := HLT.out; simp [intOf]; omega
   ·have HX : Hid (decide (l = m) = false) := hHd (decide_eq_false fun h => hed (by have h1 := HED.out.1; have h2 := HED.out.2; rw [h, h2] at h1; injection h1 with h1; exact h1.symm))
    have hq : e.kind ≠ d.kind ∨ e.kind = d.kind ∧ (e.way ≠ d.way ∨ e.way = d.way ∧ (e.node ≠ d.node ∨ e.node = d.node ∧ e.old ≠ d.old)) := by
     by_cases q0 : e.kind = d.kind
     ·by_cases q1 : e.way = d.way
      ·by_cases q2 : e.node = d.node
       ·exact .inr ⟨q0, .inr ⟨q1, .inr ⟨q2, fun q3 => hed (EdD.ext_ q0 q1 q2 q3)⟩⟩⟩
       ·exact .inr ⟨q0, .inr ⟨q1, .inl q2⟩⟩
      ·exact .inr ⟨q0, .inl q1⟩
     ·exact .inl q0
    clear hed
    rcases hq with q0 | ⟨q0, q1 | ⟨q1, q2 | ⟨q2, q3⟩⟩⟩
    ·have n0 : (e.kind != d.kind) = true := by simp [q0]
     clear q0
     generalize decide (e.way = d.way) = b1 at CW
     generalize decide (e.node = d.node) = b2 at CN
     generalize decide (e.old = d.old) = b3 at CO
     go_wp2_with fail
     refine wp_region_noPanic ?_
     refine wp_region_held_drew (S := fun _ => True) (by kernel_rfl) trivial (fun hS => ?_)
     refine held_more (S' := fun w' => Below w.heap.size w w') (fun _ _ => trivial) _ _ _ _ ?_
     replace hS := HB.out.drew
     refine tkH 0 hS ?_
     refine tkH 1 hS ?_
     refine tkH 2 hS ?_
     refine tkH 3 hS ?_
     refine tkH 4 hS ?_ (hy := fun w hSw => by have z1a := (hSw.cell (p := ⟨g, o + j * 14 + 1, none⟩) HCA.out.1).trans (HCA.out.2 1 _ rfl); (go_simp <;> with_reducible rfl))
     refine tkH 5 hS ?_
     refine tkH 6 hS ?_
     refine tkH 7 hS ?_
     refine tkH 8 hS ?_
     refine tkH 9 hS ?_ (hy := fun w hSw => by have z1b := (hSw.cell (p := ⟨g', o' + j * 14 + 1, none⟩) HCB.out.1).trans (HCB.out.2 1 _ rfl); (go_simp <;> with_reducible rfl))
     refine rdy1 10 fun K hK => ?_
     go_simp
     refine (CW.out _ HB.out.drew).out.mono ?_
     rintro r w3 ⟨rfl, hb⟩
     have HBw3 := hHd (HB.out.drew.trans (hb.mono HB.out.drew.size))
     clear hb
     go_wp2_with fail
     refine hK.out _ _ ?sr_3 (fun hS => ?_)
     case sr_3 => (exact HBw3.out)
     clear hK K
     (try simp only [Act.put, layS])
     refine tkH 11 hS ?_
     refine wpAnyH_done (by kernel_rfl) ?_ _
     refine NoPanic.normal ?_
     clear hS
     go_wp2_with fail
     refine wp_region_noPanic ?_
     refine wp_region_held_drew (S := fun _ => True) (by kernel_rfl) trivial (fun hS => ?_)
     refine held_more (S' := fun w' => Below w.heap.size w w') (fun _ _ => trivial) _ _ _ _ ?_
     replace hS := HBw3.out.drew
     refine tkH 0 hS ?_
     refine tkH 1 hS ?_
     refine tkH 2 hS ?_
     refine tkH 3 hS ?_
     refine tkH 4 hS ?_ (hy := fun w hSw => by have z2a := (hSw.cell (p := ⟨g, o + j * 14 + 2, none⟩) HCA.out.1).trans (HCA.out.2 2 _ rfl); have z3a := (hSw.cell (p := ⟨g, o + j * 14 + 3, none⟩) HCA.out.1).trans (HCA.out.2 3 _ rfl); have z4a := (hSw.cell (p := ⟨g, o + j * 14 + 4, none⟩) HCA.out.1).trans (HCA.out.2 4 _ rfl); have z5a := (hSw.cell (p := ⟨g, o + j * 14 + 5, none⟩) HCA.out.1).trans (HCA.out.2 5 _ rfl); have z6a := (hSw.cell (p := ⟨g, o + j * 14 + 6, none⟩) HCA.out.1).trans (HCA.out.2 6 _ rfl); have z7a := (hSw.cell (p := ⟨g, o + j * 14 + 7, none⟩) HCA.out.1).trans (HCA.out.2 7 _ rfl); (go_simp <;> with_reducible rfl))
     refine tkH 5 hS ?_
     refine tkH 6 hS ?_
     refine tkH 7 hS ?_
     refine tkH 8 hS ?_
     refine tkH 9 hS ?_ (hy := fun w hSw => by have z2b := (hSw.cell (p := ⟨g', o' + j * 14 + 2, none⟩) HCB.out.1).trans (HCB.out.2 2 _ rfl); have z3b := (hSw.cell (p := ⟨g', o' + j * 14 + 3, none⟩) HCB.out.1).trans (HCB.out.2 3 _ rfl); have z4b := (hSw.cell (p := ⟨g', o' + j * 14 + 4, none⟩) HCB.out.1).trans (HCB.out.2 4 _ rfl); have z5b := (hSw.cell (p := ⟨g', o' + j * 14 + 5, none⟩) HCB.out.1).trans (HCB.out.2 5 _ rfl); have z6b := (hSw.cell (p := ⟨g', o' + j * 14 + 6, none⟩) HCB.out.1).trans (HCB.out.2 6 _ rfl); have z7b := (hSw.cell (p := ⟨g', o' + j * 14 + 7, none⟩) HCB.out.1).trans (HCB.out.2 7 _ rfl); (go_simp <;> with_reducible rfl))
     refine rdy1 10 fun K hK => ?_
     go_simp
     refine (CN.out _ HBw3.out.drew).out.mono ?_
     rintro r w4 ⟨rfl, hb⟩
     have HBw4 := hHd (HBw3.out.drew.trans (hb.mono HBw3.out.drew.size))
     clear hb
     go_wp2_with fail
     refine hK.out _ _ ?sr_4 (fun hS => ?_)
     case sr_4 => (exact HBw4.out)
     clear hK K
     (try simp only [Act.put, layS])
     refine tkH 11 hS ?_
     refine wpAnyH_done (by kernel_rfl) ?_ _
     refine NoPanic.normal ?_
     clear hS
     go_wp2_with fail
     refine wp_region_noPanic ?_
     refine wp_region_held_drew (S := fun _ => True) (by kernel_rfl) trivial (fun hS => ?_)
     refine held_more (S' := fun w' => Below w.heap.size w w') (fun _ _ => trivial) _ _ _ _ ?_
     replace hS := HBw4.out.drew
     refine tkH 0 hS ?_
     refine tkH 1 hS ?_
     refine tkH 2 hS ?_
     refine tkH 3 hS ?_
     refine tkH 4 hS ?_ (hy := fun w hSw => by have z8a := (hSw.cell (p := ⟨g, o + j * 14 + 8, none⟩) HCA.out.1).trans (HCA.out.2 8 _ rfl); have z9a := (hSw.cell (p := ⟨g, o + j * 14 + 9, none⟩) HCA.out.1).trans (HCA.out.2 9 _ rfl); have z10a := (hSw.cell (p := ⟨g, o + j * 14 + 10, none⟩) HCA.out.1).trans (HCA.out.2 10 _ rfl); have z11a := (hSw.cell (p := ⟨g, o + j * 14 + 11, none⟩) HCA.out.1).trans (HCA.out.2 11 _ rfl); have z12a := (hSw.cell (p := ⟨g, o + j * 14 + 12, none⟩) HCA.out.1).trans (HCA.out.2 12 _ rfl); have z13a := (hSw.cell (p := ⟨g, o + j * 14 + 13, none⟩) HCA.out.1).trans (HCA.out.2 13 _ rfl); (go_simp <;> with_reducible rfl))
     refine tkH 5 hS ?_
     refine tkH 6 hS ?_
     refine tkH 7 hS ?_
     refine tkH 8 hS ?_
     refine tkH 9 hS ?_ (hy := fun w hSw => by have z8b := (hSw.cell (p := ⟨g', o' + j * 14 + 8, none⟩) HCB.out.1).trans (HCB.out.2 8 _ rfl); have z9b := (hSw.cell (p := ⟨g', o' + j * 14 + 9, none⟩) HCB.out.1).trans (HCB.out.2 9 _ rfl); have z10b := (hSw.cell (p := ⟨g', o' + j * 14 + 10, none⟩) HCB.out.1).trans (HCB.out.2 10 _ rfl); have z11b := (hSw.cell (p := ⟨g', o' + j * 14 + 11, none⟩) HCB.out.1).trans (HCB.out.2 11 _ rfl); have z12b := (hSw.cell (p := ⟨g', o' + j * 14 + 12, none⟩) HCB.out.1).trans (HCB.out.2 12 _ rfl); have z13b := (hSw.cell (p := ⟨g', o' + j * 14 + 13, none⟩) HCB.out.1).trans (HCB.out.2 13 _ rfl); (go_simp <;> with_reducible rfl))
     refine rdy1 10 fun K hK => ?_
     go_simp
     refine (CO.out _ HBw4.out.drew).out.mono ?_
     rintro r w5 ⟨rfl, hb⟩
     have HBw5 := hHd (HBw4.out.drew.trans (hb.mono HBw4.out.drew.size))
     clear hb
     go_wp2_with fail
     refine hK.out _ _ ?sr_5 (fun hS => ?_)
     case sr_5 => (exact HBw5.out)
     clear hK K
     (try simp only [Act.put, layS])
     refine tkH 11 hS ?_
     refine wpAnyH_done (by kernel_rfl) ?_ _
     refine NoPanic.normal ?_
     clear hS
     go_wp2_with fail
     refine wp_region_noPanic ?_
     refine wp_region_held_drew (S := fun _ => True) (by kernel_rfl) trivial (fun hS => ?_)
     refine held_more (S' := fun w' => Below w.heap.size w w') (fun _ _ => trivial) _ _ _ _ ?_
     replace hS := HBw5.out.drew
     refine tkH 0 hS ?_
     refine tkH 1 hS ?_
     refine tkH 2 hS ?_
     refine tkH 3 hS ?_
     refine tkH 4 hS ?_ (hy := fun w hSw => by have z0a := (hSw.cell (p := ⟨g, o + j * 14, none⟩) HCA.out.1).trans (HCA.out.2 0 _ rfl); (go_simp <;> with_reducible rfl))
     refine tkH 5 hS ?_
     refine tkH 6 hS ?_
     refine tkH 7 hS ?_
     refine tkH 8 hS ?_
     refine tkH 9 hS ?_ (hy := fun w hSw => by have z0b := (hSw.cell (p := ⟨g', o' + j * 14, none⟩) HCB.out.1).trans (HCB.out.2 0 _ rfl); (go_simp <;> with_reducible rfl))
     refine tkH 10 hS ?_
     refine tkH 11 hS ?_
     refine tkHo 12 hS ?_
     refine tkHo 13 hS ?_
     refine tkH 14 hS ?_
     refine tkH 15 hS ?_
     refine tkHo 16 hS ?_
     refine tkHo 17 hS ?_
     refine tkH 18 hS ?_
     refine tkH 19 hS ?_
     refine tkHo 20 hS ?_
     refine tkHo 21 hS ?_
     refine tkH 22 hS ?_
     refine wpAnyH_done (by kernel_rfl) ?_ _
     refine NoPanic.normal ?_
     clear hS
     go_wp2
     go_ret
     exact ⟨by rw [HX.out]; rfl, HBw5.out.drew⟩
    ·have n0 : (e.kind != d.kind) = false := by rw [q0]; simp
     rw [decide_eq_false q1] at CW
     clear q0 q1
     generalize decide (e.node = d.node) = b2 at CN
     generalize decide (e.old = d.old) = b3 at CO
     go_wp2_with fail
     refine wp_region_noPanic ?_
     refine wp_region_held_drew (S := fun _ => True) (by kernel_rfl) trivial (fun hS => ?_)
     refine held_more (S' := fun w' => Below w.heap.size w w') (fun _ _ => trivial) _ _ _ _ ?_
     replace hS := HB.out.drew
     refine tkH 0 hS ?_
     refine tkH 1 hS ?_
     refine tkH 2 hS ?_
     refine tkH 3 hS ?_
     refine tkH 4 hS ?_ (hy := fun w hSw => by have z1a := (hSw.cell (p := ⟨g, o + j * 14 + 1, none⟩) HCA.out.1).trans (HCA.out.2 1 _ rfl); (go_simp <;> with_reducible rfl))
     refine tkH 5 hS ?_
     refine tkH 6 hS ?_
     refine tkH 7 hS ?_
     refine tkH 8 hS ?_
     refine tkH 9 hS ?_ (hy := fun w hSw => by have z1b := (hSw.cell (p := ⟨g', o' + j * 14 + 1, none⟩) HCB.out.1).trans (HCB.out.2 1 _ rfl); (go_simp <;> with_reducible rfl))
     refine rdy1 10 fun K hK => ?_
     go_simp
     refine (CW.out _ HB.out.drew).out.mono ?_
     rintro r w3 ⟨rfl, hb⟩
     have HBw3 := hHd (HB.out.drew.trans (hb.mono HB.out.drew.size))
     clear hb
     go_wp2_with fail
     refine hK.out _ _ ?sr_6 (fun hS => ?_)
     case sr_6 => (exact HBw3.out)
     clear hK K
     (try simp only [Act.put, layS])
     refine tkH 11 hS ?_
     refine wpAnyH_done (by kernel_rfl) ?_ _
     refine NoPanic.normal ?_
     clear hS
     go_wp2_with fail
     refine wp_region_noPanic ?_
     refine wp_region_held_drew (S := fun _ => True) (by kernel_rfl) trivial (fun hS => ?_)
     refine held_more (S' := fun w' => Below w.heap.size w w') (fun _ _ => trivial) _ _ _ _ ?_
     replace hS := HBw3.out.drew
     refine tkH 0 hS ?_
     refine tkH 1 hS ?_
     refine tkH 2 hS ?_
     refine tkH 3 hS ?_
     refine tkH 4 hS ?_ (hy := fun w hSw => by have z2a := (hSw.cell (p := ⟨g, o + j * 14 + 2, none⟩) HCA.out.1).trans (HCA.out.2 2 _ rfl); have z3a := (hSw.cell (p := ⟨g, o + j * 14 + 3, none⟩) HCA.out.1).trans (HCA.out.2 3 _ rfl); have z4a := (hSw.cell (p := ⟨g, o + j * 14 + 4, none⟩) HCA.out.1).trans (HCA.out.2 4 _ rfl); have z5a := (hSw.cell (p := ⟨g, o + j * 14 + 5, none⟩) HCA.out.1).trans (HCA.out.2 5 _ rfl); have z6a := (hSw.cell (p := ⟨g, o + j * 14 + 6, none⟩) HCA.out.1).trans (HCA.out.2 6 _ rfl); have z7a := (hSw.cell (p := ⟨g, o + j * 14 + 7, none⟩) HCA.out.1).trans (HCA.out.2 7 _ rfl); (go_simp <;> with_reducible rfl))
     refine tkH 5 hS ?_
     refine tkH 6 hS ?_
     refine tkH 7 hS ?_
     refine tkH 8 hS ?_
     refine tkH 9 hS ?_ (hy := fun w hSw => by have z2b := (hSw.cell (p := ⟨g', o' + j * 14 + 2, none⟩) HCB.out.1).trans (HCB.out.2 2 _ rfl); have z3b := (hSw.cell (p := ⟨g', o' + j * 14 + 3, none⟩) HCB.out.1).trans (HCB.out.2 3 _ rfl); have z4b := (hSw.cell (p := ⟨g', o' + j * 14 + 4, none⟩) HCB.out.1).trans (HCB.out.2 4 _ rfl); have z5b := (hSw.cell (p := ⟨g', o' + j * 14 + 5, none⟩) HCB.out.1).trans (HCB.out.2 5 _ rfl); have z6b := (hSw.cell (p := ⟨g', o' + j * 14 + 6, none⟩) HCB.out.1).trans (HCB.out.2 6 _ rfl); have z7b := (hSw.cell (p := ⟨g', o' + j * 14 + 7, none⟩) HCB.out.1).trans (HCB.out.2 7 _ rfl); (go_simp <;> with_reducible rfl))
     refine rdy1 10 fun K hK => ?_
     go_simp
     refine (CN.out _ HBw3.out.drew).out.mono ?_
     rintro r w4 ⟨rfl, hb⟩
     have HBw4 := hHd (HBw3.out.drew.trans (hb.mono HBw3.out.drew.size))
     clear hb
     go_wp2_with fail
     refine hK.out _ _ ?sr_7 (fun hS => ?_)
     case sr_7 => (exact HBw4.out)
     clear hK K
     (try simp only [Act.put, layS])
     refine tkH 11 hS ?_
     refine wpAnyH_done (by kernel_rfl) ?_ _
     refine NoPanic.normal ?_
     clear hS
     go_wp2_with fail
     refine wp_region_noPanic ?_
     refine wp_region_held_drew (S := fun _ => True) (by kernel_rfl) trivial (fun hS => ?_)
     refine held_more (S' := fun w' => Below w.heap.size w w') (fun _ _ => trivial) _ _ _ _ ?_
     replace hS := HBw4.out.drew
     refine tkH 0 hS ?_
     refine tkH 1 hS ?_
     refine tkH 2 hS ?_
     refine tkH 3 hS ?_
     refine tkH 4 hS ?_ (hy := fun w hSw => by have z8a := (hSw.cell (p := ⟨g, o + j * 14 + 8, none⟩) HCA.out.1).trans (HCA.out.2 8 _ rfl); have z9a := (hSw.cell (p := ⟨g, o + j * 14 + 9, none⟩) HCA.out.1).trans (HCA.out.2 9 _ rfl); have z10a := (hSw.cell (p := ⟨g, o + j * 14 + 10, none⟩) HCA.out.1).trans (HCA.out.2 10 _ rfl); have z11a := (hSw.cell (p := ⟨g, o + j * 14 + 11, none⟩) HCA.out.1).trans (HCA.out.2 11 _ rfl); have z12a := (hSw.cell (p := ⟨g, o + j * 14 + 12, none⟩) HCA.out.1).trans (HCA.out.2 12 _ rfl); have z13a := (hSw.cell (p := ⟨g, o + j * 14 + 13, none⟩) HCA.out.1).trans (HCA.out.2 13 _ rfl); (go_simp <;> with_reducible rfl))
     refine tkH 5 hS ?_
     refine tkH 6 hS ?_
     refine tkH 7 hS ?_
     refine tkH 8 hS ?_
     refine tkH 9 hS ?_ (hy := fun w hSw => by have z8b := (hSw.cell (p := ⟨g', o' + j * 14 + 8, none⟩) HCB.out.1).trans (HCB.out.2 8 _ rfl); have z9b := (hSw.cell (p := ⟨g', o' + j * 14 + 9, none⟩) HCB.out.1).trans (HCB.out.2 9 _ rfl); have z10b := (hSw.cell (p := ⟨g', o' + j * 14 + 10, none⟩) HCB.out.1).trans (HCB.out.2 10 _ rfl); have z11b := (hSw.cell (p := ⟨g', o' + j * 14 + 11, none⟩) HCB.out.1).trans (HCB.out.2 11 _ rfl); have z12b := (hSw.cell (p := ⟨g', o' + j * 14 + 12, none⟩) HCB.out.1).trans (HCB.out.2 12 _ rfl); have z13b := (hSw.cell (p := ⟨g', o' + j * 14 + 13, none⟩) HCB.out.1).trans (HCB.out.2 13 _ rfl); (go_simp <;> with_reducible rfl))
     refine rdy1 10 fun K hK => ?_
     go_simp
     refine (CO.out _ HBw4.out.drew).out.mono ?_
     rintro r w5 ⟨rfl, hb⟩
     have HBw5 := hHd (HBw4.out.drew.trans (hb.mono HBw4.out.drew.size))
     clear hb
     go_wp2_with fail
     refine hK.out _ _ ?sr_8 (fun hS => ?_)
     case sr_8 => (exact HBw5.out)
     clear hK K
     (try simp only [Act.put, layS])
     refine tkH 11 hS ?_
     refine wpAnyH_done (by kernel_rfl) ?_ _
     refine NoPanic.normal ?_
     clear hS
     go_wp2_with fail
     refine wp_region_noPanic ?_
     refine wp_region_held_drew (S := fun _ => True) (by kernel_rfl) trivial (fun hS => ?_)
     refine held_more (S' := fun w' => Below w.heap.size w w') (fun _ _ => trivial) _ _ _ _ ?_
     replace hS := HBw5.out.drew
     refine tkH 0 hS ?_
     refine tkH 1 hS ?_
     refine tkH 2 hS ?_
     refine tkH 3 hS ?_
     refine tkH 4 hS ?_ (hy := fun w hSw => by have z0a := (hSw.cell (p := ⟨g, o + j * 14, none⟩) HCA.out.1).trans (HCA.out.2 0 _ rfl); (go_simp <;> with_reducible rfl))
     refine tkH 5 hS ?_
     refine tkH 6 hS ?_
     refine tkH 7 hS ?_
     refine tkH 8 hS ?_
     refine tkH 9 hS ?_ (hy := fun w hSw => by have z0b := (hSw.cell (p := ⟨g', o' + j * 14, none⟩) HCB.out.1).trans (HCB.out.2 0 _ rfl); (go_simp <;> with_reducible rfl))
     refine tkH 10 hS ?_
     refine tkH 11 hS ?_
     refine tkH 12 hS ?_
     refine tkH 13 hS ?_
     refine tkH 14 hS ?_
     refine tkH 15 hS ?_
     refine tkHo 16 hS ?_
     refine tkHo 17 hS ?_
     refine tkH 18 hS ?_
     refine tkH 19 hS ?_
     refine tkHo 20 hS ?_
     refine tkHo 21 hS ?_
     refine tkH 22 hS ?_
     refine wpAnyH_done (by kernel_rfl) ?_ _
     refine NoPanic.normal ?_
     clear hS
     go_wp2
     go_ret
     exact ⟨by rw [HX.out]; rfl, HBw5.out.drew⟩
    ·have n0 : (e.kind != d.kind) = false := by rw [q0]; simp
     rw [decide_eq_true q1] at CW
     rw [decide_eq_false q2] at CN
     clear q0 q1 q2
     generalize decide (e.old = d.old) = b3 at CO
     go_wp2_with fail
     refine wp_region_noPanic ?_
     refine wp_region_held_drew (S := fun _ => True) (by kernel_rfl) trivial (fun hS => ?_)
     refine held_more (S' := fun w' => Below w.heap.size w w') (fun _ _ => trivial) _ _ _ _ ?_
     replace hS := HB.out.drew
     refine tkH 0 hS ?_
     refine tkH 1 hS ?_
     refine tkH 2 hS ?_
     refine tkH 3 hS ?_
     refine tkH 4 hS ?_ (hy := fun w hSw => by have z1a := (hSw.cell (p := ⟨g, o + j * 14 + 1, none⟩) HCA.out.1).trans (HCA.out.2 1 _ rfl); (go_simp <;> with_reducible rfl))
     refine tkH 5 hS ?_
     refine tkH 6 hS ?_
     refine tkH 7 hS ?_
     refine tkH 8 hS ?_
     refine tkH 9 hS ?_ (hy := fun w hSw => by have z1b := (hSw.cell (p := ⟨g', o' + j * 14 + 1, none⟩) HCB.out.1).trans (HCB.out.2 1 _ rfl); (go_simp <;> with_reducible rfl))
     refine rdy1 10 fun K hK => ?_
     go_simp
     refine (CW.out _ HB.out.drew).out.mono ?_
     rintro r w3 ⟨rfl, hb⟩
     have HBw3 := hHd (HB.out.drew.trans (hb.mono HB.out.drew.size))
     clear hb
     go_wp2_with fail
     refine hK.out _ _ ?sr_9 (fun hS => ?_)
     case sr_9 => (exact HBw3.out)
     clear hK K
     (try simp only [Act.put, layS])
     refine tkH 11 hS ?_
     refine wpAnyH_done (by kernel_rfl) ?_ _
     refine NoPanic.normal ?_
     clear hS
     go_wp2_with fail
     refine wp_region_noPanic ?_
     refine wp_region_held_drew (S := fun _ => True) (by kernel_rfl) trivial (fun hS => ?_)
     refine held_more (S' := fun w' => Below w.heap.size w w') (fun _ _ => trivial) _ _ _ _ ?_
     replace hS := HBw3.out.drew
     refine tkH 0 hS ?_
     refine tkH 1 hS ?_
     refine tkH 2 hS ?_
     refine tkH 3 hS ?_
     refine tkH 4 hS ?_ (hy := fun w hSw => by have z2a := (hSw.cell (p := ⟨g, o + j * 14 + 2, none⟩) HCA.out.1).trans (HCA.out.2 2 _ rfl); have z3a := (hSw.cell (p := ⟨g, o + j * 14 + 3, none⟩) HCA.out.1).trans (HCA.out.2 3 _ rfl); have z4a := (hSw.cell (p := ⟨g, o + j * 14 + 4, none⟩) HCA.out.1).trans (HCA.out.2 4 _ rfl); have z5a := (hSw.cell (p := ⟨g, o + j * 14 + 5, none⟩) HCA.out.1).trans (HCA.out.2 5 _ rfl); have z6a := (hSw.cell (p := ⟨g, o + j * 14 + 6, none⟩) HCA.out.1).trans (HCA.out.2 6 _ rfl); have z7a := (hSw.cell (p := ⟨g, o + j * 14 + 7, none⟩) HCA.out.1).trans (HCA.out.2 7 _ rfl); (go_simp <;> with_reducible rfl))
     refine tkH 5 hS ?_
     refine tkH 6 hS ?_
     refine tkH 7 hS ?_
     refine tkH 8 hS ?_
     refine tkH 9 hS ?_ (hy := fun w hSw => by have z2b := (hSw.cell (p := ⟨g', o' + j * 14 + 2, none⟩) HCB.out.1).trans (HCB.out.2 2 _ rfl); have z3b := (hSw.cell (p := ⟨g', o' + j * 14 + 3, none⟩) HCB.out.1).trans (HCB.out.2 3 _ rfl); have z4b := (hSw.cell (p := ⟨g', o' + j * 14 + 4, none⟩) HCB.out.1).trans (HCB.out.2 4 _ rfl); have z5b := (hSw.cell (p := ⟨g', o' + j * 14 + 5, none⟩) HCB.out.1).trans (HCB.out.2 5 _ rfl); have z6b := (hSw.cell (p := ⟨g', o' + j * 14 + 6, none⟩) HCB.out.1).trans (HCB.out.2 6 _ rfl); have z7b := (hSw.cell (p := ⟨g', o' + j * 14 + 7, none⟩) HCB.out.1).trans (HCB.out.2 7 _ rfl); (go_simp <;> with_reducible rfl))
     refine rdy1 10 fun K hK => ?_
     go_simp
     refine (CN.out _ HBw3.out.drew).out.mono ?_
     rintro r w4 ⟨rfl, hb⟩
     have HBw4 := hHd (HBw3.out.drew.trans (hb.mono HBw3.out.drew.size))
     clear hb
     go_wp2_with fail
     refine hK.out _ _ ?sr_a (fun hS => ?_)
     case sr_a => (exact HBw4.out)
     clear hK K
     (try simp only [Act.put, layS])
     refine tkH 11 hS ?_
     refine wpAnyH_done (by kernel_rfl) ?_ _
     refine NoPanic.normal ?_
     clear hS
     go_wp2_with fail
     refine wp_region_noPanic ?_
     refine wp_region_held_drew (S := fun _ => True) (by kernel_rfl) trivial (fun hS => ?_)
     refine held_more (S' := fun w' => Below w.heap.size w w') (fun _ _ => trivial) _ _ _ _ ?_
     replace hS := HBw4.out.drew
     refine tkH 0 hS ?_
     refine tkH 1 hS ?_
     refine tkH 2 hS ?_
     refine tkH 3 hS ?_
     refine tkH 4 hS ?_ (hy := fun w hSw => by have z8a := (hSw.cell (p := ⟨g, o + j * 14 + 8, none⟩) HCA.out.1).trans (HCA.out.2 8 _ rfl); have z9a := (hSw.cell (p := ⟨g, o + j * 14 + 9, none⟩) HCA.out.1).trans (HCA.out.2 9 _ rfl); have z10a := (hSw.cell (p := ⟨g, o + j * 14 + 10, none⟩) HCA.out.1).trans (HCA.out.2 10 _ rfl); have z11a := (hSw.cell (p := ⟨g, o + j * 14 + 11, none⟩) HCA.out.1).trans (HCA.out.2 11 _ rfl); have z12a := (hSw.cell (p := ⟨g, o + j * 14 + 12, none⟩) HCA.out.1).trans (HCA.out.2 12 _ rfl); have z13a := (hSw.cell (p := ⟨g, o + j * 14 + 13, none⟩) HCA.out.1).trans (HCA.out.2 13 _ rfl); (go_simp <;> with_reducible rfl))
     refine tkH 5 hS ?_
     refine tkH 6 hS ?_
     refine tkH 7 hS ?_
     refine tkH 8 hS ?_
     refine tkH 9 hS ?_ (hy := fun w hSw => by have z8b := (hSw.cell (p := ⟨g', o' + j * 14 + 8, none⟩) HCB.out.1).trans (HCB.out.2 8 _ rfl); have z9b := (hSw.cell (p := ⟨g', o' + j * 14 + 9, none⟩) HCB.out.1).trans (HCB.out.2 9 _ rfl); have z10b := (hSw.cell (p := ⟨g', o' + j * 14 + 10, none⟩) HCB.out.1).trans (HCB.out.2 10 _ rfl); have z11b := (hSw.cell (p := ⟨g', o' + j * 14 + 11, none⟩) HCB.out.1).trans (HCB.out.2 11 _ rfl); have z12b := (hSw.cell (p := ⟨g', o' + j * 14 + 12, none⟩) HCB.out.1).trans (HCB.out.2 12 _ rfl); have z13b := (hSw.cell (p := ⟨g', o' + j * 14 + 13, none⟩) HCB.out.1).trans (HCB.out.2 13 _ rfl); (go_simp <;> with_reducible rfl))
     refine rdy1 10 fun K hK => ?_
     go_simp
     refine (CO.out _ HBw4.out.drew).out.mono ?_
     rintro r w5 ⟨rfl, hb⟩
     have HBw5 := hHd (HBw4.out.drew.trans (hb.mono HBw4.out.drew.size))
     clear hb
     go_wp2_with fail
     refine hK.out _ _ ?sr_b (fun hS => ?_)
     case sr_b => (exact HBw5.out)
     clear hK K
     (try simp only [Act.put, layS])
     refine tkH 11 hS ?_
     refine wpAnyH_done (by kernel_rfl) ?_ _
     refine NoPanic.normal ?_
     clear hS
     go_wp2_with fail
     refine wp_region_noPanic ?_
     refine wp_region_held_drew (S := fun _ => True) (by kernel_rfl) trivial (fun hS => ?_)
     refine held_more (S' := fun w' => Below w.heap.size w w') (fun _ _ => trivial) _ _ _ _ ?_
     replace hS := HBw5.out.drew
     refine tkH 0 hS ?_
     refine tkH 1 hS ?_
     refine tkH 2 hS ?_
     refine tkH 3 hS ?_
     refine tkH 4 hS ?_ (hy := fun w hSw => by have z0a := (hSw.cell (p := ⟨g, o + j * 14, none⟩) HCA.out.1).trans (HCA.out.2 0 _ rfl); (go_simp <;> with_reducible rfl))
     refine tkH 5 hS ?_
     refine tkH 6 hS ?_
     refine tkH 7 hS ?_
     refine tkH 8 hS ?_
     refine tkH 9 hS ?_ (hy := fun w hSw => by have z0b := (hSw.cell (p := ⟨g', o' + j * 14, none⟩) HCB.out.1).trans (HCB.out.2 0 _ rfl); (go_simp <;> with_reducible rfl))
     refine tkH 10 hS ?_
     refine tkH 11 hS ?_
     refine tkH 12 hS ?_
     refine tkH 13 hS ?_
     refine tkH 14 hS ?_
     refine tkH 15 hS ?_
     refine tkH 16 hS ?_
     refine tkH 17 hS ?_
     refine tkH 18 hS ?_
     refine tkH 19 hS ?_
     refine tkHo 20 hS ?_
     refine tkHo 21 hS ?_
     refine tkH 22 hS ?_
     refine wpAnyH_done (by kernel_rfl) ?_ _
     refine NoPanic.normal ?_
     clear hS
     go_wp2
     go_ret
     exact ⟨by rw [HX.out]; rfl, HBw5.out.drew⟩
    ·have n0 : (e.kind != d.kind) = false := by rw [q0]; simp
     rw [decide_eq_true q1] at CW
     rw [decide_eq_true q2] at CN
     rw [decide_eq_false q3] at CO
     clear q0 q1 q2 q3
     go_wp2_with fail
     refine wp_region_noPanic ?_
     refine wp_region_held_drew (S := fun _ => True) (by kernel_rfl) trivial (fun hS => ?_)
     refine held_more (S' := fun w' => Below w.heap.size w w') (fun _ _ => trivial) _ _ _ _ ?_
     replace hS := HB.out.drew
     refine tkH 0 hS ?_
     refine tkH 1 hS ?_
     refine tkH 2 hS ?_
     refine tkH 3 hS ?_
     refine tkH 4 hS ?_ (hy := fun w hSw => by have z1a := (hSw.cell (p := ⟨g, o + j * 14 + 1, none⟩) HCA.out.1).trans (HCA.out.2 1 _ rfl); (go_simp <;> with_reducible rfl))
     refine tkH 5 hS ?_
     refine tkH 6 hS ?_
     refine tkH 7 hS ?_
     refine tkH 8 hS ?_
     refine tkH 9 hS ?_ (hy := fun w hSw => by have z1b := (hSw.cell (p := ⟨g', o' + j * 14 + 1, none⟩) HCB.out.1).trans (HCB.out.2 1 _ rfl); (go_simp <;> with_reducible rfl))
     refine rdy1 10 fun K hK => ?_
     go_simp
     refine (CW.out _ HB.out.drew).out.mono ?_
     rintro r w3 ⟨rfl, hb⟩
     have HBw3 := hHd (HB.out.drew.trans (hb.mono HB.out.drew.size))
     clear hb
     go_wp2_with fail
     refine hK.out _ _ ?sr_c (fun hS => ?_)
     case sr_c => (exact HBw3.out)
     clear hK K
     (try simp only [Act.put, layS])
     refine tkH 11 hS ?_
     refine wpAnyH_done (by kernel_rfl) ?_ _
     refine NoPanic.normal ?_
     clear hS
     go_wp2_with fail
     refine wp_region_noPanic ?_
     refine wp_region_held_drew (S := fun _ => True) (by kernel_rfl) trivial (fun hS => ?_)
     refine held_more (S' := fun w' => Below w.heap.size w w') (fun _ _ => trivial) _ _ _ _ ?_
     replace hS := HBw3.out.drew
     refine tkH 0 hS ?_
     refine tkH 1 hS ?_
     refine tkH 2 hS ?_
     refine tkH 3 hS ?_
     refine tkH 4 hS ?_ (hy := fun w hSw => by have z2a := (hSw.cell (p := ⟨g, o + j * 14 + 2, none⟩) HCA.out.1).trans (HCA.out.2 2 _ rfl); have z3a := (hSw.cell (p := ⟨g, o + j * 14 + 3, none⟩) HCA.out.1).trans (HCA.out.2 3 _ rfl); have z4a := (hSw.cell (p := ⟨g, o + j * 14 + 4, none⟩) HCA.out.1).trans (HCA.out.2 4 _ rfl); have z5a := (hSw.cell (p := ⟨g, o + j * 14 + 5, none⟩) HCA.out.1).trans (HCA.out.2 5 _ rfl); have z6a := (hSw.cell (p := ⟨g, o + j * 14 + 6, none⟩) HCA.out.1).trans (HCA.out.2 6 _ rfl); have z7a := (hSw.cell (p := ⟨g, o + j * 14 + 7, none⟩) HCA.out.1).trans (HCA.out.2 7 _ rfl); (go_simp <;> with_reducible rfl))
     refine tkH 5 hS ?_
     refine tkH 6 hS ?_
     refine tkH 7 hS ?_
     refine tkH 8 hS ?_
     refine tkH 9 hS ?_ (hy := fun w hSw => by have z2b := (hSw.cell (p := ⟨g', o' + j * 14 + 2, none⟩) HCB.out.1).trans (HCB.out.2 2 _ rfl); have z3b := (hSw.cell (p := ⟨g', o' + j * 14 + 3, none⟩) HCB.out.1).trans (HCB.out.2 3 _ rfl); have z4b := (hSw.cell (p := ⟨g', o' + j * 14 + 4, none⟩) HCB.out.1).trans (HCB.out.2 4 _ rfl); have z5b := (hSw.cell (p := ⟨g', o' + j * 14 + 5, none⟩) HCB.out.1).trans (HCB.out.2 5 _ rfl); have z6b := (hSw.cell (p := ⟨g', o' + j * 14 + 6, none⟩) HCB.out.1).trans (HCB.out.2 6 _ rfl); have z7b := (hSw.cell (p := ⟨g', o' + j * 14 + 7, none⟩) HCB.out.1).trans (HCB.out.2 7 _ rfl); (go_simp <;> with_reducible rfl))
     refine rdy1 10 fun K hK => ?_
     go_simp
     refine (CN.out _ HBw3.out.drew).out.mono ?_
     rintro r w4 ⟨rfl, hb⟩
     have HBw4 := hHd (HBw3.out.drew.trans (hb.mono HBw3.out.drew.size))
     clear hb
     go_wp2_with fail
     refine hK.out _ _ ?sr_d (fun hS => ?_)
     case sr_d => (exact HBw4.out)
     clear hK K
     (try simp only [Act.put, layS])
     refine tkH 11 hS ?_
     refine wpAnyH_done (by kernel_rfl) ?_ _
     refine NoPanic.normal ?_
     clear hS
     go_wp2_with fail
     refine wp_region_noPanic ?_
     refine wp_region_held_drew (S := fun _ => True) (by kernel_rfl) trivial (fun hS => ?_)
     refine held_more (S' := fun w' => Below w.heap.size w w') (fun _ _ => trivial) _ _ _ _ ?_
     replace hS := HBw4.out.drew
     refine tkH 0 hS ?_
     refine tkH 1 hS ?_
     refine tkH 2 hS ?_
     refine tkH 3 hS ?_
     refine tkH 4 hS ?_ (hy := fun w hSw => by have z8a := (hSw.cell (p := ⟨g, o + j * 14 + 8, none⟩) HCA.out.1).trans (HCA.out.2 8 _ rfl); have z9a := (hSw.cell (p := ⟨g, o + j * 14 + 9, none⟩) HCA.out.1).trans (HCA.out.2 9 _ rfl); have z10a := (hSw.cell (p := ⟨g, o + j * 14 + 10, none⟩) HCA.out.1).trans (HCA.out.2 10 _ rfl); have z11a := (hSw.cell (p := ⟨g, o + j * 14 + 11, none⟩) HCA.out.1).trans (HCA.out.2 11 _ rfl); have z12a := (hSw.cell (p := ⟨g, o + j * 14 + 12, none⟩) HCA.out.1).trans (HCA.out.2 12 _ rfl); have z13a := (hSw.cell (p := ⟨g, o + j * 14 + 13, none⟩) HCA.out.1).trans (HCA.out.2 13 _ rfl); (go_simp <;> with_reducible rfl))
     refine tkH 5 hS ?_
     refine tkH 6 hS ?_
     refine tkH 7 hS ?_
     refine tkH 8 hS ?_
     refine tkH 9 hS ?_ (hy := fun w hSw => by have z8b := (hSw.cell (p := ⟨g', o' + j * 14 + 8, none⟩) HCB.out.1).trans (HCB.out.2 8 _ rfl); have z9b := (hSw.cell (p := ⟨g', o' + j * 14 + 9, none⟩) HCB.out.1).trans (HCB.out.2 9 _ rfl); have z10b := (hSw.cell (p := ⟨g', o' + j * 14 + 10, none⟩) HCB.out.1).trans (HCB.out.2 10 _ rfl); have z11b := (hSw.cell (p := ⟨g', o' + j * 14 + 11, none⟩) HCB.out.1).trans (HCB.out.2 11 _ rfl); have z12b := (hSw.cell (p := ⟨g', o' + j * 14 + 12, none⟩) HCB.out.1).trans (HCB.out.2 12 _ rfl); have z13b := (hSw.cell (p := ⟨g', o' + j * 14 + 13, none⟩) HCB.out.1).trans (HCB.out.2 13 _ rfl); (go_simp <;> with_reducible rfl))
     refine rdy1 10 fun K hK => ?_
     go_simp
     refine (CO.out _ HBw4.out.drew).out.mono ?_
     rintro r w5 ⟨rfl, hb⟩
     have HBw5 := hHd (HBw4.out.drew.trans (hb.mono HBw4.out.drew.size))
     clear hb
     go_wp2_with fail
     refine hK.out _ _ ?sr_e (fun hS => ?_)
     case sr_e => (exact HBw5.out)
     clear hK K
     (try simp only [Act.put, layS])
     refine tkH 11 hS ?_
     refine wpAnyH_done (by kernel_rfl) ?_ _
     refine NoPanic.normal ?_
     clear hS
     go_wp2_with fail
     refine wp_region_noPanic ?_
     refine wp_region_held_drew (S := fun _ => True) (by kernel_rfl) trivial (fun hS => ?_)
     refine held_more (S' := fun w' => Below w.heap.size w w') (fun _ _ => trivial) _ _ _ _ ?_
     replace hS := HBw5.out.drew
     refine tkH 0 hS ?_
     refine tkH 1 hS ?_
     refine tkH 2 hS ?_
     refine tkH 3 hS ?_
     refine tkH 4 hS ?_ (hy := fun w hSw => by have z0a := (hSw.cell (p := ⟨g, o + j * 14, none⟩) HCA.out.1).trans (HCA.out.2 0 _ rfl); (go_simp <;> with_reducible rfl))
     refine tkH 5 hS ?_
     refine tkH 6 hS ?_
     refine tkH 7 hS ?_
     refine tkH 8 hS ?_
     refine tkH 9 hS ?_ (hy := fun w hSw => by have z0b := (hSw.cell (p := ⟨g', o' + j * 14, none⟩) HCB.out.1).trans (HCB.out.2 0 _ rfl); (go_simp <;> with_reducible rfl))
     refine tkH 10 hS ?_
     refine tkH 11 hS ?_
     refine tkH 12 hS ?_
     refine tkH 13 hS ?_
     refine tkH 14 hS ?_
     refine tkH 15 hS ?_
     refine tkH 16 hS ?_
     refine tkH 17 hS ?_
     refine tkH 18 hS ?_
     refine tkH 19 hS ?_
     refine tkH 20 hS ?_
     refine tkH 21 hS ?_
     refine tkH 22 hS ?_
     refine wpAnyH_done (by kernel_rfl) ?_ _
     refine NoPanic.normal ?_
     clear hS
     go_wp2
     go_ret
     exact ⟨by rw [HX.out]; rfl, HBw5.out.drew⟩
  ·have i2 : ¬ (j : Int) < (N : Int) := by omega
   have HX : Hid (decide (l = m) = true) := hHd (decide_eq_true (List.ext_getElem? fun k => by
    by_cases hk : k < j
    ·exact HE.out k hk
    ·rw [List.getElem?_eq_none (by have := HNN.out; omega), List.getElem?_eq_none (by have := HNN.out; have := HLM.out; omega)]))
   go_wp2
   go_ret
   exact ⟨by rw [HX.out]; rfl, HB.out⟩
theorem rsame16_any (l m : List EdD) (va vb : Value) (w : World) (ha : EdsV (Bel w) w va l) (hb : EdsV (Bel w) w vb m) (hl : FewE l) (hm : FewE m) :
  Calls Tryz.prog 14 #[va, vb] w (Ans9 (.bool (decide (l = m))) w) := by
 by_cases hlm : l.length = m.length
 ·exact rsame16_len l m va vb w ha hb hl hm hlm
 obtain ⟨A, c, rfl⟩ := ha.shape
 obtain ⟨B, c', rfl⟩ := hb.shape
 have e0 : ((l.length : Int) != (m.length : Int)) = true := by unfold bne; rw [beq_eq_false_iff_ne.2 (by omega : (l.length : Int) ≠ (m.length : Int))]; rfl
 have HX : Hid (decide (l = m) = false) := hHd (decide_eq_false fun e => hlm (by rw [e]))
 clear ha hb hl hm hlm
 go_enter Tryz.func14, Tryz.ntmps14
 go_wp2
 go_ret
 exact ⟨by rw [HX.out]; rfl, Below.refl _ _⟩
end
end Go.Proofs.YtleidkpdpabkpaaGreatDoor
