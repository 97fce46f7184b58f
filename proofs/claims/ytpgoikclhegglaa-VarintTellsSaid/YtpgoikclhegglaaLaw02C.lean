/-
  The walk of the law VarintTells: it answers true, for every number and all bytes, and writes nothing that was there. No condition.
-/
import Derived.Test.YtpgoikclhegglaaLaw02A
import Derived.Test.YtpgoikclhegglaaDrawn
import Derived.Deep.DrawnRows
import Derived.WalkLawsBesides
namespace Go.Proofs.Ytpgoikclhegglaa
open Go.RowKit
set_option linter.unusedSimpArgs false
attribute [local go_sem ↓] Go.wp_at_zero Go.wp_at_succ

theorem pow_ten {x : Nat} (h : x < 18446744073709551616) : x < 128 ^ (9 + 1) := by
  have : (18446744073709551616 : Nat) < 128 ^ (9 + 1) := by decide
  omega

set_option maxRecDepth 100000 in
set_option maxHeartbeats 8000000 in
theorem varintTells_walk (a0 : Int) (a1 : Option Addr) (len1 cap1 : Nat) (z1 : List Int) (w : World) (w0 : (Lit.int .u64 a0).wf = true) (w1 : IsRow .u8 w a1 len1 cap1 z1) :
    Calls Try.prog 3 #[.int .u64 a0, .slice a1 len1 cap1] w fun e w' => e = .returned (.bool true) ∧ Below w.heap.size w w' := by
  obtain ⟨x, rfl, hx64⟩ : ∃ x : Nat, a0 = (x : Int) ∧ x < 18446744073709551616 := by
    have h := bounds_u64 w0
    exact ⟨a0.toNat, by omega, by omega⟩
  clear w0
  by_cases h200 : 200 < len1
  · go_enter Try.func3, Try.ntmps3
    go_wp2_with fail
    refine (awake2_any _).mono ?_
    rintro r w1 ⟨rfl, hB1⟩
    go_wp2
    go_ret
    exact ⟨rfl, hB1⟩
  · obtain ⟨d, l, rfl, hdw, hr0⟩ := w1.rd (by omega)
    have h201 : decide ((200 : Int) < (l.length : Int)) = false := by simp; omega
    have hL : l.length ≤ 200 := by omega
    have HX := Lib.hid hx64
    have HX10 := Lib.hid (pow_ten hx64)
    obtain ⟨V, hV⟩ : ∃ V, V = getV l := ⟨_, rfl⟩
    obtain ⟨P, hP⟩ : ∃ P, P = encV 9 x := ⟨_, rfl⟩
    have hPs := txt_size P
    have HV := Lib.hid hV
    have HP := Lib.hid hP
    clear hx64 h200 hV hP
    go_enter Try.func3, Try.ntmps3
    go_wp2_with fail
    refine (awake2_any _).mono ?_
    rintro r wa ⟨rfl, hB1⟩
    have hr1 := hr0.below' hB1
    have hst : (convert 23 9 (.slice a1 l.length cap1)).run Try.prog wa = .ok (.string (txt l)) wa := str_of hr1
    clear hr0
    go_wp2_with fail
    refine (get_any _ _ l _ hr1).mono ?_
    rintro r wb ⟨rfl, rfl⟩
    rw [← HV.out]
    unfold outV
    go_wp2_with fail
    refine (rget_any l _ (by omega)).mono ?_
    rintro r wb ⟨rfl, rfl⟩
    unfold getOut
    rw [← HV.out]
    have HB := Lib.hid hB1
    clear hr1 hst hB1
    go_wp2_with fail
    refine wp_region_noPanic ?_
    refine wp_region_held_drew (S := fun _ => True) (by kernel_rfl) trivial (fun hS => ?_)
    refine wpAnyH_take (i := 0) (oi := ?o1_0_1) (v := ?v1_0_1) ?i1_0_1 (by kernel_rfl) (by kernel_rfl) (by kernel_rfl) (fun _ _ _ h => h) (Or.inl ⟨?g1_0_1, ?y1_0_1⟩) hS ?_
    case i1_0_1 => simp only [List.getElem?_toArray, List.getElem?_cons_succ, List.getElem?_cons_zero]; rfl
    case g1_0_1 => rfl
    case y1_0_1 => (intro w hSw; (go_simp <;> with_reducible rfl))
    (try simp only [Act.put, List.setIfInBounds_toArray, List.set_cons_zero, List.set_cons_succ])
    refine wpAnyH_take (i := 3) (oi := ?o1_3_2) (v := ?v1_3_2) ?i1_3_2 (by kernel_rfl) (by kernel_rfl) (by kernel_rfl) (fun _ _ _ h => h) (Or.inl ⟨?g1_3_2, ?y1_3_2⟩) hS ?_
    case i1_3_2 => simp only [List.getElem?_toArray, List.getElem?_cons_succ, List.getElem?_cons_zero]; rfl
    case g1_3_2 => rfl
    case y1_3_2 => (intro w hSw; (go_simp <;> with_reducible rfl))
    (try simp only [Act.put, List.setIfInBounds_toArray, List.set_cons_zero, List.set_cons_succ])
    refine wpAnyH_ready (rs := [1]) (by kernel_rfl) (by simp) ?_
    refine (AllReadyH.cons (o := ?o1_3_1) ?i1_3_1 (fun K hK => ?st1_3_1) AllReadyH.nil)
    case i1_3_1 => simp only [List.getElem?_toArray, List.getElem?_cons_succ, List.getElem?_cons_zero]; rfl
    rw [if_pos (by rfl)]
    go_simp
    refine (put_any x HX.out _).mono ?_
    rintro r w1 ⟨v1, d1, rfl, hr1, -, hb1⟩
    rw [← HP.out] at hr1
    go_wp2_with fail
    refine hK.out _ _ ?s1_3_1 (fun hS => ?_)
    case s1_3_1 => (exact hS)
    clear hK K
    (try simp only [Act.put, List.setIfInBounds_toArray, List.set_cons_zero, List.set_cons_succ])
    refine held_more (S' := fun w' => Rd w' d1 v1 P) (fun _ _ => trivial) _ _ _ _ ?_
    replace hS := hr1
    refine wpAnyH_take (i := 2) (oi := ?o1_2_4) (v := ?v1_2_4) ?i1_2_4 (by kernel_rfl) (by kernel_rfl) (by kernel_rfl) (fun _ _ _ h => h) (Or.inl ⟨?g1_2_4, ?y1_2_4⟩) hS ?_
    case i1_2_4 => simp only [List.getElem?_toArray, List.getElem?_cons_succ, List.getElem?_cons_zero]; rfl
    case g1_2_4 => rfl
    case y1_2_4 => (intro w hSw; have hc : (convert 23 9 _).run Try.prog _ = .ok (.string (txt P)) _ := str_of hSw; (go_simp <;> with_reducible rfl))
    (try simp only [Act.put, List.setIfInBounds_toArray, List.set_cons_zero, List.set_cons_succ])
    refine wpAnyH_ready (rs := [4]) (by kernel_rfl) (by simp) ?_
    refine (AllReadyH.cons (o := ?o1_5_4) ?i1_5_4 (fun K hK => ?st1_5_4) AllReadyH.nil)
    case i1_5_4 => simp only [List.getElem?_toArray, List.getElem?_cons_succ, List.getElem?_cons_zero]; rfl
    rw [if_pos (by rfl)]
    go_simp
    refine (rput_any 9 (by omega) x _ HX10.out HX.out).mono ?_
    rintro r w4 ⟨rfl, hb4⟩
    rw [← HP.out]
    go_wp2_with fail
    refine hK.out _ _ ?s1_5_4 (fun hS => ?_)
    case s1_5_4 => (exact hS.below' hb4)
    clear hK K
    (try simp only [Act.put, List.setIfInBounds_toArray, List.set_cons_zero, List.set_cons_succ])
    refine wpAnyH_take (i := 5) (oi := ?o1_5_6) (v := ?v1_5_6) ?i1_5_6 (by kernel_rfl) (by kernel_rfl) (by kernel_rfl) (fun _ _ _ h => h) (Or.inl ⟨?g1_5_6, ?y1_5_6⟩) hS ?_
    case i1_5_6 => simp only [List.getElem?_toArray, List.getElem?_cons_succ, List.getElem?_cons_zero]; rfl
    case g1_5_6 => rfl
    case y1_5_6 => (intro w hSw; (go_simp <;> with_reducible rfl))
    (try simp only [Act.put, List.setIfInBounds_toArray, List.set_cons_zero, List.set_cons_succ])
    refine wpAnyH_take (i := 6) (oi := ?o1_6_7) (v := ?v1_6_7) ?i1_6_7 (by kernel_rfl) (by kernel_rfl) (by kernel_rfl) (fun _ _ _ h => h) (Or.inl ⟨?g1_6_7, ?y1_6_7⟩) hS ?_
    case i1_6_7 => simp only [List.getElem?_toArray, List.getElem?_cons_succ, List.getElem?_cons_zero]; rfl
    case g1_6_7 => rfl
    case y1_6_7 => (intro w hSw; (go_simp <;> with_reducible rfl))
    (try simp only [Act.put, List.setIfInBounds_toArray, List.set_cons_zero, List.set_cons_succ])
    refine wpAnyH_take (i := 7) (oi := ?o1_7_8) (v := ?v1_7_8) ?i1_7_8 (by kernel_rfl) (by kernel_rfl) (by kernel_rfl) (fun _ _ _ h => h) (Or.inl ⟨?g1_7_8, ?y1_7_8⟩) hS ?_
    case i1_7_8 => simp only [List.getElem?_toArray, List.getElem?_cons_succ, List.getElem?_cons_zero]; rfl
    case g1_7_8 => rfl
    case y1_7_8 => (intro w hSw; (go_simp <;> with_reducible rfl))
    (try simp only [Act.put, List.setIfInBounds_toArray, List.set_cons_zero, List.set_cons_succ])
    refine wpAnyH_take (i := 9) (oi := ?o1_9_9) (v := ?v1_9_9) ?i1_9_9 (by kernel_rfl) (by kernel_rfl) (by kernel_rfl) (fun _ _ _ h => h) (Or.inl ⟨?g1_9_9, ?y1_9_9⟩) hS ?_
    case i1_9_9 => simp only [List.getElem?_toArray, List.getElem?_cons_succ, List.getElem?_cons_zero]; rfl
    case g1_9_9 => rfl
    case y1_9_9 => (intro w hSw; (go_simp <;> with_reducible rfl))
    (try simp only [Act.put, List.setIfInBounds_toArray, List.set_cons_zero, List.set_cons_succ])
    refine wpAnyH_ready (rs := [8]) (by kernel_rfl) (by simp) ?_
    refine (AllReadyH.cons (o := ?o1_10_8) ?i1_10_8 (fun K hK => ?st1_10_8) AllReadyH.nil)
    case i1_10_8 => simp only [List.getElem?_toArray, List.getElem?_cons_succ, List.getElem?_cons_zero]; rfl
    rw [if_pos (by rfl)]
    go_simp
    refine (len_any x HX.out _).mono ?_
    rintro r w8 ⟨rfl, hb8⟩
    rw [← HP.out]
    go_wp2_with fail
    refine hK.out _ _ ?s1_10_8 (fun hS => ?_)
    case s1_10_8 => (exact hS.below' hb8)
    clear hK K
    (try simp only [Act.put, List.setIfInBounds_toArray, List.set_cons_zero, List.set_cons_succ])
    refine wpAnyH_ready (rs := [10]) (by kernel_rfl) (by simp) ?_
    refine (AllReadyH.cons (o := ?o1_11_10) ?i1_11_10 (fun K hK => ?st1_11_10) AllReadyH.nil)
    case i1_11_10 => simp only [List.getElem?_toArray, List.getElem?_cons_succ, List.getElem?_cons_zero]; rfl
    rw [if_pos (by rfl)]
    go_simp
    refine (rput_any 9 (by omega) x _ HX10.out HX.out).mono ?_
    rintro r w10 ⟨rfl, hb10⟩
    rw [← HP.out]
    go_wp2_with fail
    refine hK.out _ _ ?s1_11_10 (fun hS => ?_)
    case s1_11_10 => (exact hS.below' hb10)
    clear hK K
    (try simp only [Act.put, List.setIfInBounds_toArray, List.set_cons_zero, List.set_cons_succ])
    refine wpAnyH_take (i := 11) (oi := ?o1_11_12) (v := ?v1_11_12) ?i1_11_12 (by kernel_rfl) (by kernel_rfl) (by kernel_rfl) (fun _ _ _ h => h) (Or.inl ⟨?g1_11_12, ?y1_11_12⟩) hS ?_
    case i1_11_12 => simp only [List.getElem?_toArray, List.getElem?_cons_succ, List.getElem?_cons_zero]; rfl
    case g1_11_12 => rfl
    case y1_11_12 => (intro w hSw; (go_simp <;> with_reducible rfl))
    (try simp only [Act.put, List.setIfInBounds_toArray, List.set_cons_zero, List.set_cons_succ])
    refine wpAnyH_take (i := 12) (oi := ?o1_12_13) (v := ?v1_12_13) ?i1_12_13 (by kernel_rfl) (by kernel_rfl) (by kernel_rfl) (fun _ _ _ h => h) (Or.inl ⟨?g1_12_13, ?y1_12_13⟩) hS ?_
    case i1_12_13 => simp only [List.getElem?_toArray, List.getElem?_cons_succ, List.getElem?_cons_zero]; rfl
    case g1_12_13 => rfl
    case y1_12_13 => (intro w hSw; (go_simp <;> with_reducible rfl))
    (try simp only [Act.put, List.setIfInBounds_toArray, List.set_cons_zero, List.set_cons_succ])
    refine wpAnyH_take (i := 13) (oi := ?o1_13_14) (v := ?v1_13_14) ?i1_13_14 (by kernel_rfl) (by kernel_rfl) (by kernel_rfl) (fun _ _ _ h => h) (Or.inl ⟨?g1_13_14, ?y1_13_14⟩) hS ?_
    case i1_13_14 => simp only [List.getElem?_toArray, List.getElem?_cons_succ, List.getElem?_cons_zero]; rfl
    case g1_13_14 => rfl
    case y1_13_14 => (intro w hSw; (go_simp <;> with_reducible rfl))
    (try simp only [Act.put, List.setIfInBounds_toArray, List.set_cons_zero, List.set_cons_succ])
    refine wpAnyH_take (i := 14) (oi := ?o1_14_15) (v := ?v1_14_15) ?i1_14_15 (by kernel_rfl) (by kernel_rfl) (by kernel_rfl) (fun _ _ _ h => h) (Or.inl ⟨?g1_14_15, ?y1_14_15⟩) hS ?_
    case i1_14_15 => simp only [List.getElem?_toArray, List.getElem?_cons_succ, List.getElem?_cons_zero]; rfl
    case g1_14_15 => rfl
    case y1_14_15 => (intro w hSw; (go_simp <;> with_reducible rfl))
    (try simp only [Act.put, List.setIfInBounds_toArray, List.set_cons_zero, List.set_cons_succ])
    refine wpAnyH_take (i := 15) (oi := ?o1_15_16) (v := ?v1_15_16) ?i1_15_16 (by kernel_rfl) (by kernel_rfl) (by kernel_rfl) (fun _ _ _ h => h) (Or.inl ⟨?g1_15_16, ?y1_15_16⟩) hS ?_
    case i1_15_16 => simp only [List.getElem?_toArray, List.getElem?_cons_succ, List.getElem?_cons_zero]; rfl
    case g1_15_16 => rfl
    case y1_15_16 => (intro w hSw; (go_simp <;> with_reducible rfl))
    (try simp only [Act.put, List.setIfInBounds_toArray, List.set_cons_zero, List.set_cons_succ])
    refine wpAnyH_take (i := 16) (oi := ?o1_16_17) (v := ?v1_16_17) ?i1_16_17 (by kernel_rfl) (by kernel_rfl) (by kernel_rfl) (fun _ _ _ h => h) (Or.inl ⟨?g1_16_17, ?y1_16_17⟩) hS ?_
    case i1_16_17 => simp only [List.getElem?_toArray, List.getElem?_cons_succ, List.getElem?_cons_zero]; rfl
    case g1_16_17 => rfl
    case y1_16_17 => (intro w hSw; (go_simp <;> with_reducible rfl))
    (try simp only [Act.put, List.setIfInBounds_toArray, List.set_cons_zero, List.set_cons_succ])
    refine wpAnyH_take (i := 17) (oi := ?o1_17_18) (v := ?v1_17_18) ?i1_17_18 (by kernel_rfl) (by kernel_rfl) (by kernel_rfl) (fun _ _ _ h => h) (Or.inl ⟨?g1_17_18, ?y1_17_18⟩) hS ?_
    case i1_17_18 => simp only [List.getElem?_toArray, List.getElem?_cons_succ, List.getElem?_cons_zero]; rfl
    case g1_17_18 => rfl
    case y1_17_18 => (intro w hSw; (go_simp <;> with_reducible rfl))
    (try simp only [Act.put, List.setIfInBounds_toArray, List.set_cons_zero, List.set_cons_succ])
    refine wpAnyH_take (i := 18) (oi := ?o1_18_19) (v := ?v1_18_19) ?i1_18_19 (by kernel_rfl) (by kernel_rfl) (by kernel_rfl) (fun _ _ _ h => h) (Or.inl ⟨?g1_18_19, ?y1_18_19⟩) hS ?_
    case i1_18_19 => simp only [List.getElem?_toArray, List.getElem?_cons_succ, List.getElem?_cons_zero]; rfl
    case g1_18_19 => rfl
    case y1_18_19 => (intro w hSw; (go_simp <;> with_reducible rfl))
    (try simp only [Act.put, List.setIfInBounds_toArray, List.set_cons_zero, List.set_cons_succ])
    refine wpAnyH_take (i := 19) (oi := ?o1_19_20) (v := ?v1_19_20) ?i1_19_20 (by kernel_rfl) (by kernel_rfl) (by kernel_rfl) (fun _ _ _ h => h) (Or.inl ⟨?g1_19_20, ?y1_19_20⟩) hS ?_
    case i1_19_20 => simp only [List.getElem?_toArray, List.getElem?_cons_succ, List.getElem?_cons_zero]; rfl
    case g1_19_20 => rfl
    case y1_19_20 => (intro w hSw; (go_simp <;> with_reducible rfl))
    (try simp only [Act.put, List.setIfInBounds_toArray, List.set_cons_zero, List.set_cons_succ])
    refine wpAnyH_take (i := 20) (oi := ?o1_20_21) (v := ?v1_20_21) ?i1_20_21 (by kernel_rfl) (by kernel_rfl) (by kernel_rfl) (fun _ _ _ h => h) (Or.inl ⟨?g1_20_21, ?y1_20_21⟩) hS ?_
    case i1_20_21 => simp only [List.getElem?_toArray, List.getElem?_cons_succ, List.getElem?_cons_zero]; rfl
    case g1_20_21 => rfl
    case y1_20_21 => (intro w hSw; (go_simp <;> with_reducible rfl))
    (try simp only [Act.put, List.setIfInBounds_toArray, List.set_cons_zero, List.set_cons_succ])
    refine wpAnyH_take (i := 21) (oi := ?o1_21_22) (v := ?v1_21_22) ?i1_21_22 (by kernel_rfl) (by kernel_rfl) (by kernel_rfl) (fun _ _ _ h => h) (Or.inl ⟨?g1_21_22, ?y1_21_22⟩) hS ?_
    case i1_21_22 => simp only [List.getElem?_toArray, List.getElem?_cons_succ, List.getElem?_cons_zero]; rfl
    case g1_21_22 => rfl
    case y1_21_22 => (intro w hSw; (go_simp <;> with_reducible rfl))
    (try simp only [Act.put, List.setIfInBounds_toArray, List.set_cons_zero, List.set_cons_succ])
    refine wpAnyH_take (i := 22) (oi := ?o1_22_23) (v := ?v1_22_23) ?i1_22_23 (by kernel_rfl) (by kernel_rfl) (by kernel_rfl) (fun _ _ _ h => h) (Or.inl ⟨?g1_22_23, ?y1_22_23⟩) hS ?_
    case i1_22_23 => simp only [List.getElem?_toArray, List.getElem?_cons_succ, List.getElem?_cons_zero]; rfl
    case g1_22_23 => rfl
    case y1_22_23 => (intro w hSw; (go_simp <;> with_reducible rfl))
    (try simp only [Act.put, List.setIfInBounds_toArray, List.set_cons_zero, List.set_cons_succ])
    refine wpAnyH_take (i := 23) (oi := ?o1_23_24) (v := ?v1_23_24) ?i1_23_24 (by kernel_rfl) (by kernel_rfl) (by kernel_rfl) (fun _ _ _ h => h) (Or.inl ⟨?g1_23_24, ?y1_23_24⟩) hS ?_
    case i1_23_24 => simp only [List.getElem?_toArray, List.getElem?_cons_succ, List.getElem?_cons_zero]; rfl
    case g1_23_24 => rfl
    case y1_23_24 => (intro w hSw; (go_simp <;> with_reducible rfl))
    (try simp only [Act.put, List.setIfInBounds_toArray, List.set_cons_zero, List.set_cons_succ])
    refine wpAnyH_take (i := 24) (oi := ?o1_24_25) (v := ?v1_24_25) ?i1_24_25 (by kernel_rfl) (by kernel_rfl) (by kernel_rfl) (fun _ _ _ h => h) (Or.inl ⟨?g1_24_25, ?y1_24_25⟩) hS ?_
    case i1_24_25 => simp only [List.getElem?_toArray, List.getElem?_cons_succ, List.getElem?_cons_zero]; rfl
    case g1_24_25 => rfl
    case y1_24_25 => (intro w hSw; (go_simp <;> with_reducible rfl))
    (try simp only [Act.put, List.setIfInBounds_toArray, List.set_cons_zero, List.set_cons_succ])
    refine wpAnyH_take (i := 25) (oi := ?o1_25_26) (v := ?v1_25_26) ?i1_25_26 (by kernel_rfl) (by kernel_rfl) (by kernel_rfl) (fun _ _ _ h => h) (Or.inl ⟨?g1_25_26, ?y1_25_26⟩) hS ?_
    case i1_25_26 => simp only [List.getElem?_toArray, List.getElem?_cons_succ, List.getElem?_cons_zero]; rfl
    case g1_25_26 => rfl
    case y1_25_26 => (intro w hSw; (go_simp <;> with_reducible rfl))
    (try simp only [Act.put, List.setIfInBounds_toArray, List.set_cons_zero, List.set_cons_succ])
    refine wpAnyH_take (i := 26) (oi := ?o1_26_27) (v := ?v1_26_27) ?i1_26_27 (by kernel_rfl) (by kernel_rfl) (by kernel_rfl) (fun _ _ _ h => h) (Or.inl ⟨?g1_26_27, ?y1_26_27⟩) hS ?_
    case i1_26_27 => simp only [List.getElem?_toArray, List.getElem?_cons_succ, List.getElem?_cons_zero]; rfl
    case g1_26_27 => rfl
    case y1_26_27 => (intro w hSw; (go_simp <;> with_reducible rfl))
    (try simp only [Act.put, List.setIfInBounds_toArray, List.set_cons_zero, List.set_cons_succ])
    refine wpAnyH_take (i := 27) (oi := ?o1_27_28) (v := ?v1_27_28) ?i1_27_28 (by kernel_rfl) (by kernel_rfl) (by kernel_rfl) (fun _ _ _ h => h) (Or.inl ⟨?g1_27_28, ?y1_27_28⟩) hS ?_
    case i1_27_28 => simp only [List.getElem?_toArray, List.getElem?_cons_succ, List.getElem?_cons_zero]; rfl
    case g1_27_28 => rfl
    case y1_27_28 => (intro w hSw; (go_simp <;> with_reducible rfl))
    (try simp only [Act.put, List.setIfInBounds_toArray, List.set_cons_zero, List.set_cons_succ])
    refine wpAnyH_take (i := 28) (oi := ?o1_28_29) (v := ?v1_28_29) ?i1_28_29 (by kernel_rfl) (by kernel_rfl) (by kernel_rfl) (fun _ _ _ h => h) (Or.inl ⟨?g1_28_29, ?y1_28_29⟩) hS ?_
    case i1_28_29 => simp only [List.getElem?_toArray, List.getElem?_cons_succ, List.getElem?_cons_zero]; rfl
    case g1_28_29 => rfl
    case y1_28_29 => (intro w hSw; (go_simp <;> with_reducible rfl))
    (try simp only [Act.put, List.setIfInBounds_toArray, List.set_cons_zero, List.set_cons_succ])
    refine wpAnyH_take (i := 29) (oi := ?o1_29_30) (v := ?v1_29_30) ?i1_29_30 (by kernel_rfl) (by kernel_rfl) (by kernel_rfl) (fun _ _ _ h => h) (Or.inl ⟨?g1_29_30, ?y1_29_30⟩) hS ?_
    case i1_29_30 => simp only [List.getElem?_toArray, List.getElem?_cons_succ, List.getElem?_cons_zero]; rfl
    case g1_29_30 => rfl
    case y1_29_30 => (intro w hSw; (go_simp <;> with_reducible rfl))
    (try simp only [Act.put, List.setIfInBounds_toArray, List.set_cons_zero, List.set_cons_succ])
    refine wpAnyH_done (by kernel_rfl) ?_ _
    refine NoPanic.normal ?_
    have hBd := HB.out.drew
    have hB2 := hBd.trans (hb1.mono hBd.size)
    have hB4 := hB2.trans (hb4.mono hB2.size)
    have hB8 := hB4.trans (hb8.mono hB4.size)
    have hB10 := hB8.trans (hb10.mono hB8.size)
    clear hb1 hb4 hb8 hb10 hBd hB2 hB4 hB8 hS
    go_wp2_with fail
    go_ret
    exact ⟨rfl, hB10⟩

end Go.Proofs.Ytpgoikclhegglaa
