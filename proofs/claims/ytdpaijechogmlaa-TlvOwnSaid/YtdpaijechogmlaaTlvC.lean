/-
  What package tlv's Check, Size, Put and Get answer: as the document says. No condition but those of each theorem.
-/
import Derived.Test.YtdpaijechogmlaaTlvFnH
namespace Go.Proofs.Ytdpaijechogmlaa
open Go.RowKit
set_option linter.unusedSimpArgs false

set_option maxRecDepth 100000 in
set_option maxHeartbeats 4000000 in
theorem getC : GetC := by
  intro l w d v hr hl
  have hmf : ∀ (fn : Fn) (first cap : Array Value) (w : World), (Instr.makeFunc fn first cap).run Try.prog w = .ok (.func fn first cap) w := fun _ _ _ _ => rfl
  by_cases h : 8192 < l.length
  · obtain ⟨A, c, rfl, -⟩ := id hr
    have hd : decide ((8192 : Int) < (l.length : Int)) = true := decide_eq_true (by omega)
    have HP : Hid (GetP (gotOf l) w (.returned (.tuple #[.slice none 0 0, .int .i64 14, .int .i64 0])) w) := Lib.hid (by
      unfold gotOf
      rw [if_pos h]
      exact ⟨_, rfl, FV.nil _ _, Below.refl _ _⟩)
    clear h
    go_enter Try.func17, Try.ntmps17
    go_wp2
    go_ret3
    exact HP.out
  · have hd : decide ((8192 : Int) < (l.length : Int)) = false := decide_eq_false (by omega)
    obtain ⟨G, hG⟩ : ∃ G, G = gotOf l := ⟨_, rfl⟩
    have HG : Hid (G = gt l.length l 1 0) := Lib.hid (by rw [hG]; unfold gotOf; rw [if_neg h])
    rw [← hG]
    have hBx : Below w.heap.size w (w.alloc (.cells #[.func (.func 29) #[] #[.pointer (some ⟨w.heap.size, 0, none⟩)]] 57)).drew := ((Below.refl _ _).alloc (Nat.le_refl _) _).drew
    have hself : SelfD (w.alloc (.cells #[.func (.func 29) #[] #[.pointer (some ⟨w.heap.size, 0, none⟩)]] 57)).drew w.heap.size := Blk.below (Blk.new w _ _) (Below.refl (w.alloc (.cells #[.func (.func 29) #[] #[.pointer (some ⟨w.heap.size, 0, none⟩)]] 57)).heap.size _).drew (by simp)
    have hr1 := hr.below' hBx
    obtain ⟨W, hW⟩ : ∃ W, W = (w.alloc (.cells #[.func (.func 29) #[] #[.pointer (some ⟨w.heap.size, 0, none⟩)]] 57)).drew := ⟨_, rfl⟩
    rw [← hW] at hBx hself hr1
    have HSELF := Lib.hid hself
    have HBX := Lib.hid hBx
    have HR1 := Lib.hid hr1
    have hsc : W.cell? ⟨w.heap.size, 0, none⟩ = some (.func (.func 29) #[] #[.pointer (some ⟨w.heap.size, 0, none⟩)]) := by rw [Blk.cell hself]; rfl
    obtain ⟨A, c, rfl, -⟩ := id hr
    have HW := Lib.hid hW
    clear hG h hBx hself hr1 hr hW
    go_enter Try.func17, Try.ntmps17
    go_wp2_with fail
    refine wp_region_noPanic ?_
    refine wp_region_held_drew (S := fun _ => True) (by kernel_rfl) trivial (fun hS => ?_)
    rw [← HW.out]
    refine held_more (S' := fun w' => w'.cell? ⟨w.heap.size, 0, none⟩ = some (.func (.func 29) #[] #[.pointer (some ⟨w.heap.size, 0, none⟩)])) (fun _ _ => trivial) _ _ _ _ ?_
    replace hS := hsc
    refine wpAnyH_take (i := 0) (oi := ?o1_0_1) (v := ?v1_0_1) ?i1_0_1 (by kernel_rfl) (by kernel_rfl) (by kernel_rfl) (fun _ _ _ h => h) (Or.inl ⟨?g1_0_1, ?y1_0_1⟩) hS ?_
    case i1_0_1 => simp only [List.getElem?_toArray, List.getElem?_cons_succ, List.getElem?_cons_zero]; rfl
    case g1_0_1 => rfl
    case y1_0_1 => (intro w hSw; have hc := hSw; (go_simp <;> with_reducible rfl))
    (try simp only [Act.put, List.setIfInBounds_toArray, List.set_cons_zero, List.set_cons_succ])
    refine wpAnyH_take (i := 1) (oi := ?o1_1_2) (v := ?v1_1_2) ?i1_1_2 (by kernel_rfl) (by kernel_rfl) (by kernel_rfl) (fun _ _ _ h => h) (Or.inl ⟨?g1_1_2, ?y1_1_2⟩) hS ?_
    case i1_1_2 => simp only [List.getElem?_toArray, List.getElem?_cons_succ, List.getElem?_cons_zero]; rfl
    case g1_1_2 => rfl
    case y1_1_2 => (intro w hSw; (go_simp <;> with_reducible rfl))
    (try simp only [Act.put, List.setIfInBounds_toArray, List.set_cons_zero, List.set_cons_succ])
    refine wpAnyH_take (i := 3) (oi := ?o1_3_3) (v := ?v1_3_3) ?i1_3_3 (by kernel_rfl) (by kernel_rfl) (by kernel_rfl) (fun _ _ _ h => h) (Or.inl ⟨?g1_3_3, ?y1_3_3⟩) hS ?_
    case i1_3_3 => simp only [List.getElem?_toArray, List.getElem?_cons_succ, List.getElem?_cons_zero]; rfl
    case g1_3_3 => rfl
    case y1_3_3 => (intro w hSw; (go_simp <;> with_reducible rfl))
    (try simp only [Act.put, List.setIfInBounds_toArray, List.set_cons_zero, List.set_cons_succ])
    refine wpAnyH_take (i := 4) (oi := ?o1_4_4) (v := ?v1_4_4) ?i1_4_4 (by kernel_rfl) (by kernel_rfl) (by kernel_rfl) (fun _ _ _ h => h) (Or.inl ⟨?g1_4_4, ?y1_4_4⟩) hS ?_
    case i1_4_4 => simp only [List.getElem?_toArray, List.getElem?_cons_succ, List.getElem?_cons_zero]; rfl
    case g1_4_4 => rfl
    case y1_4_4 => (intro w hSw; (go_simp <;> with_reducible rfl))
    (try simp only [Act.put, List.setIfInBounds_toArray, List.set_cons_zero, List.set_cons_succ])
    refine wpAnyH_ready (rs := [2]) (by kernel_rfl) (by simp) ?_
    refine (AllReadyH.cons (o := ?o1_5_2) ?i1_5_2 (fun K hK => ?st1_5_2) AllReadyH.nil)
    case i1_5_2 => simp only [List.getElem?_toArray, List.getElem?_cons_succ, List.getElem?_cons_zero]; rfl
    rw [if_pos (by rfl)]
    go_simp
    refine (open_any d _ l _ HR1.out).mono ?_
    rintro r w2 ⟨rfl, hw2, hb2, hz2⟩
    have hz2' : w2.heap.size = W.heap.size + 2 := hz2
    have hs2 : SelfD w2 w.heap.size := Blk.below HSELF.out hb2 (Blk.lt HSELF.out)
    have HD := Lib.hid (dec_any l.length l 1 0 w2 (W.heap.size + 1) W.heap.size w.heap.size (l.length : Int) 1 hw2 (by omega) (by omega) (Nat.le_refl _) (by omega) (by omega) (by simp) rfl hs2 (by have := Blk.lt HSELF.out; omega))
    rw [← HG.out] at HD
    have HB2 := Lib.hid hb2
    clear hw2 hb2 hz2 hz2' hs2
    go_wp2_with fail
    refine hK.out _ _ ?s1_5_2 (fun hS => ?_)
    case s1_5_2 => (exact (HB2.out.cell (p := ⟨w.heap.size, 0, none⟩) (Blk.lt HSELF.out)).trans hS)
    clear hK K
    (try simp only [Act.put, List.setIfInBounds_toArray, List.set_cons_zero, List.set_cons_succ])
    refine wpAnyH_ready (rs := [5]) (by kernel_rfl) (by simp) ?_
    refine (AllReadyH.cons (o := ?o1_6_5) ?i1_6_5 (fun K hK => ?st1_6_5) AllReadyH.nil)
    case i1_6_5 => simp only [List.getElem?_toArray, List.getElem?_cons_succ, List.getElem?_cons_zero]; rfl
    rw [if_pos (by rfl)]
    go_simp
    refine HD.out.mono ?_
    rintro r w3 ⟨v3, rfl, hv3, hg3⟩
    obtain ⟨A3, c3, rfl⟩ := hv3.shape
    have HV3 := Lib.hid hv3
    have HG3 := Lib.hid hg3
    clear hv3 hg3
    go_wp2_with fail
    refine hK.out _ _ ?s1_6_5 (fun hS => ?_)
    case s1_6_5 => (exact HG3.out.cell hS (by intro h; injection h with h; have := Blk.lt HSELF.out; have h2 : w.heap.size = W.heap.size + 1 := h; omega))
    clear hK K
    (try simp only [Act.put, List.setIfInBounds_toArray, List.set_cons_zero, List.set_cons_succ])
    refine wpAnyH_take (i := 6) (oi := ?o1_6_7) (v := ?v1_6_7) ?i1_6_7 (by kernel_rfl) (by kernel_rfl) (by kernel_rfl) (fun _ _ _ h => h) (Or.inl ⟨?g1_6_7, ?y1_6_7⟩) hS ?_
    case i1_6_7 => simp only [List.getElem?_toArray, List.getElem?_cons_succ, List.getElem?_cons_zero]; rfl
    case g1_6_7 => rfl
    case y1_6_7 => (intro w hSw; (go_simp <;> with_reducible rfl))
    (try simp only [Act.put, List.setIfInBounds_toArray, List.set_cons_zero, List.set_cons_succ])
    refine wpAnyH_take (i := 7) (oi := ?o1_7_8) (v := ?v1_7_8) ?i1_7_8 (by kernel_rfl) (by kernel_rfl) (by kernel_rfl) (fun _ _ _ h => h) (Or.inl ⟨?g1_7_8, ?y1_7_8⟩) hS ?_
    case i1_7_8 => simp only [List.getElem?_toArray, List.getElem?_cons_succ, List.getElem?_cons_zero]; rfl
    case g1_7_8 => rfl
    case y1_7_8 => (intro w hSw; (go_simp <;> with_reducible rfl))
    (try simp only [Act.put, List.setIfInBounds_toArray, List.set_cons_zero, List.set_cons_succ])
    refine wpAnyH_take (i := 8) (oi := ?o1_8_9) (v := ?v1_8_9) ?i1_8_9 (by kernel_rfl) (by kernel_rfl) (by kernel_rfl) (fun _ _ _ h => h) (Or.inl ⟨?g1_8_9, ?y1_8_9⟩) hS ?_
    case i1_8_9 => simp only [List.getElem?_toArray, List.getElem?_cons_succ, List.getElem?_cons_zero]; rfl
    case g1_8_9 => rfl
    case y1_8_9 => (intro w hSw; (go_simp <;> with_reducible rfl))
    (try simp only [Act.put, List.setIfInBounds_toArray, List.set_cons_zero, List.set_cons_succ])
    refine wpAnyH_take (i := 9) (oi := ?o1_9_10) (v := ?v1_9_10) ?i1_9_10 (by kernel_rfl) (by kernel_rfl) (by kernel_rfl) (fun _ _ _ h => h) (Or.inl ⟨?g1_9_10, ?y1_9_10⟩) hS ?_
    case i1_9_10 => simp only [List.getElem?_toArray, List.getElem?_cons_succ, List.getElem?_cons_zero]; rfl
    case g1_9_10 => rfl
    case y1_9_10 => (intro w hSw; (go_simp <;> with_reducible rfl))
    (try simp only [Act.put, List.setIfInBounds_toArray, List.set_cons_zero, List.set_cons_succ])
    refine wpAnyH_take (i := 10) (oi := ?o1_10_11) (v := ?v1_10_11) ?i1_10_11 (by kernel_rfl) (by kernel_rfl) (by kernel_rfl) (fun _ _ _ h => h) (Or.inl ⟨?g1_10_11, ?y1_10_11⟩) hS ?_
    case i1_10_11 => simp only [List.getElem?_toArray, List.getElem?_cons_succ, List.getElem?_cons_zero]; rfl
    case g1_10_11 => rfl
    case y1_10_11 => (intro w hSw; (go_simp <;> with_reducible rfl))
    (try simp only [Act.put, List.setIfInBounds_toArray, List.set_cons_zero, List.set_cons_succ])
    refine wpAnyH_take (i := 11) (oi := ?o1_11_12) (v := ?v1_11_12) ?i1_11_12 (by kernel_rfl) (by kernel_rfl) (by kernel_rfl) (fun _ _ _ h => h) (Or.inl ⟨?g1_11_12, ?y1_11_12⟩) hS ?_
    case i1_11_12 => simp only [List.getElem?_toArray, List.getElem?_cons_succ, List.getElem?_cons_zero]; rfl
    case g1_11_12 => rfl
    case y1_11_12 => (intro w hSw; (go_simp <;> with_reducible rfl))
    (try simp only [Act.put, List.setIfInBounds_toArray, List.set_cons_zero, List.set_cons_succ])
    refine wpAnyH_done (by kernel_rfl) ?_ _
    refine NoPanic.normal ?_
    have HP : Hid (GetP G w (.returned (.tuple #[.slice A3 G.1.len c3, .int .i64 G.2.1, .int .i64 (G.2.2 : Int)])) w3) := Lib.hid (by
      have hb := HBX.out.trans (HB2.out.mono HBX.out.size)
      exact ⟨_, rfl, HV3.out.kept stays_I (fun _ _ => rfl) (fun g hg => ⟨Nat.le_trans hb.size hg.1, hg.2⟩), below_of_grown hb HG3.out (by have := HBX.out.size; omega)⟩)
    clear hS
    go_wp2
    go_ret3
    exact HP.out

/-- ALL OF IT. -/
theorem tlvC : TlvC := ⟨checkC, sizeC, putC, getC⟩

end Go.Proofs.Ytdpaijechogmlaa
