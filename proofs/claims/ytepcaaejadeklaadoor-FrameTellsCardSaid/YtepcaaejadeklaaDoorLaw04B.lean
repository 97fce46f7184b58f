/-
  The walks of the laws FrameTells and FrameAlls: they answer true, for all bytes, and write nothing that was there, where package frame answers as it is to (FrmC).
-/
import Derived.Test.YtepcaaejadeklaaDoorLaw04A
import Derived.Test.YtepcaaejadeklaaDoorOctI
namespace Go.Proofs.YtepcaaejadeklaaDoor
open Go.RowKit
set_option linter.unusedSimpArgs false

set_option maxRecDepth 100000 in
set_option maxHeartbeats 2000000 in
theorem frameTells_walk (a0 : Option Addr) (len0 cap0 : Nat) (z0 : List Int) (w : World) (C : FrmC w) (w0 : IsRow .u8 w a0 len0 cap0 z0) :
    Calls Tryd.prog 3 #[.slice a0 len0 cap0] w fun e w' => e = .returned (.bool true) ∧ Below w.heap.size w w' := by
  have HC := Lib.hid C
  clear C
  by_cases h9 : 9000 < len0
  · go_enter Tryd.func3, Tryd.ntmps3
    go_wp2_with fail
    refine (awake4_any HC.out _ (Below.refl _ _)).mono ?_
    rintro r w1 ⟨rfl, hB1⟩
    go_wp2
    go_ret
    exact ⟨rfl, hB1⟩
  · obtain ⟨d, l, rfl, hdw, hr0⟩ := w0.rd (by omega)
    have hl9 : l.length ≤ 9000 := by omega
    have hd9 : decide ((9000 : Int) < (l.length : Int)) = false := decide_eq_false (by omega)
    clear h9 w0
    obtain ⟨P, hP⟩ : ∃ P, P = putF l := ⟨_, rfl⟩
    obtain ⟨E, hE⟩ : ∃ E, E = putE l := ⟨_, rfl⟩
    obtain ⟨X, N, G, hX⟩ : ∃ x n e, getF l = (x, n, e) := ⟨_, _, _, rfl⟩
    obtain ⟨K, hK⟩ : ∃ K, K = crc l := ⟨_, rfl⟩
    have hPl : P.length ≤ 8198 := by rw [hP]; exact putF_len l
    have hXl : X.length ≤ 9000 := by have h := getF_len l; rw [hX] at h; simp only at h; omega
    have PUT : ∀ W v, Hid (Below w.heap.size w W → Rd W d v l → Calls Tryd.prog 10 #[v] W (fun r w' => ∃ v', r = .returned (.tuple #[v', .int .i64 E]) ∧ Own w' W.heap.size v' P ∧ Below W.heap.size W w')) := fun W v => Lib.hid fun hB h => by
      have h1 := HC.out.put l W d v hB h
      unfold PutFP at h1
      rw [← hP, ← hE] at h1
      exact h1
    have RPUT : ∀ W, Hid (Calls Tryd.prog 11 #[.string (txt l)] W (fun r w' => r = .returned (.tuple #[.string (txt P), .int .i64 E]) ∧ Below W.heap.size W w')) := fun W => Lib.hid (by
      have h1 := rputF_any l W (by omega)
      unfold RPutF at h1
      rw [putFOut_eq, ← hP, ← hE] at h1
      exact h1)
    have GET : ∀ W v, Hid (Below w.heap.size w W → Rd W d v l → Calls Tryd.prog 12 #[v] W (fun r w' => ∃ v' d', r = .returned (.tuple #[v', .int .i64 (N : Int), .int .i64 G]) ∧ Rd w' d' v' X ∧ Below W.heap.size W w')) := fun W v => Lib.hid fun hB h => by
      have h1 := HC.out.get l W d v hB h (by omega)
      unfold GetFP at h1
      rw [hX] at h1
      exact h1
    have RGET : ∀ W, Hid (Calls Tryd.prog 13 #[.string (txt l)] W (fun r w' => r = .returned (.tuple #[.string (txt X), .int .i64 (N : Int), .int .i64 G]) ∧ Below W.heap.size W w')) := fun W => Lib.hid (by
      have h1 := rgetF_any l W (by omega)
      unfold RGetF getFOut at h1
      rw [hX] at h1
      exact h1)
    have SUM : ∀ W v, Hid (Below w.heap.size w W → Rd W d v l → Calls Tryd.prog 14 #[v] W (fun r w' => r = .returned (.int .u32 (K : Int)) ∧ Below W.heap.size W w')) := fun W v => Lib.hid fun hB h => by
      rw [hK]
      exact HC.out.sum l W d v hB h (by omega)
    have RSUM : ∀ W, Hid (Calls Tryd.prog 15 #[.string (txt l)] W (fun r w' => r = .returned (.int .u32 (K : Int)) ∧ W = w')) := fun W => Lib.hid (by
      rw [hK]
      exact rsum_any l W (by omega))
    have QP := Lib.hid PUT
    have QR := Lib.hid RPUT
    have QG := Lib.hid GET
    have QH := Lib.hid RGET
    have QS := Lib.hid SUM
    have QT := Lib.hid RSUM
    clear PUT RPUT GET RGET SUM RSUM hP hE hX hK
    go_enter Tryd.func3, Tryd.ntmps3
    go_wp2_with fail
    refine (awake4_any HC.out _ (Below.refl _ _)).mono ?_
    rintro r w1 ⟨rfl, hB1⟩
    have hr1 := hr0.below' hB1
    clear hr0
    go_wp2_with fail
    refine ((QP.out _ _).out hB1 hr1).mono ?_
    rintro r w2 ⟨v2, rfl, hown2, hb2⟩
    obtain ⟨dp, -, -, hrp⟩ := hown2.rd (by omega)
    obtain ⟨Ap, cp, rfl⟩ := hrp.shape4
    have hr2 := hr1.below' hb2
    have hB2 := hB1.trans (hb2.mono hB1.size)
    have hst2 : (convert 22 9 (.slice a0 l.length cap0)).run Tryd.prog w2 = .ok (.string (txt l)) w2 := str_of hr2
    clear hr1 hB1 hb2 hown2
    go_wp2_with fail
    refine ((QR.out _).out).mono ?_
    rintro r w3 ⟨rfl, hb3⟩
    have hr3 := hr2.below' hb3
    have hrp3 := hrp.below' hb3
    have hB3 := hB2.trans (hb3.mono hB2.size)
    clear hr2 hrp hb3 hst2 hB2
    go_wp2_with fail
    refine ((QG.out _ _).out hB3 hr3).mono ?_
    rintro r w4 ⟨v4, dx, rfl, hrx, hb4⟩
    obtain ⟨Ax, cx, rfl⟩ := hrx.shape4
    have hr4 := hr3.below' hb4
    have hrp4 := hrp3.below' hb4
    have hB4 := hB3.trans (hb4.mono hB3.size)
    have hst4 : (convert 22 9 (.slice a0 l.length cap0)).run Tryd.prog w4 = .ok (.string (txt l)) w4 := str_of hr4
    clear hr3 hrp3 hb4 hB3
    go_wp2_with fail
    refine ((QH.out _).out).mono ?_
    rintro r w5 ⟨rfl, hb5⟩
    have hr5 := (hr4.below' hb5).below' (Below.refl _ _).drew
    have hrp5 := (hrp4.below' hb5).below' (Below.refl _ _).drew
    have hrx5 := (hrx.below' hb5).below' (Below.refl _ _).drew
    have hB5 := (hB4.trans (hb5.mono hB4.size)).drew
    clear hr4 hrp4 hrx hb5 hB4 hst4
    have hEE : (E == E) = true := beq_self_eq_true E
    have hGG : (G == G) = true := beq_self_eq_true G
    go_wp2_with fail
    refine wp_region_noPanic ?_
    refine wp_region_held_drew (S := fun _ => True) (by kernel_rfl) trivial (fun hS => ?_)
    refine wpAnyH_take (i := 0) (oi := ?o1_0_1) (v := ?v1_0_1) ?i1_0_1 (by kernel_rfl) (by kernel_rfl) (by kernel_rfl) (fun _ _ _ h => h) (Or.inl ⟨?g1_0_1, ?y1_0_1⟩) hS ?_
    case i1_0_1 => simp only [List.getElem?_toArray, List.getElem?_cons_succ, List.getElem?_cons_zero]; rfl
    case g1_0_1 => rfl
    case y1_0_1 => (intro w hSw; (go_simp <;> with_reducible rfl))
    (try simp only [Act.put, List.setIfInBounds_toArray, List.set_cons_zero, List.set_cons_succ])
    refine wpAnyH_take (i := 2) (oi := ?o1_2_2) (v := ?v1_2_2) ?i1_2_2 (by kernel_rfl) (by kernel_rfl) (by kernel_rfl) (fun _ _ _ h => h) (Or.inl ⟨?g1_2_2, ?y1_2_2⟩) hS ?_
    case i1_2_2 => simp only [List.getElem?_toArray, List.getElem?_cons_succ, List.getElem?_cons_zero]; rfl
    case g1_2_2 => rfl
    case y1_2_2 => (intro w hSw; (go_simp <;> with_reducible rfl))
    (try simp only [Act.put, List.setIfInBounds_toArray, List.set_cons_zero, List.set_cons_succ])
    refine held_more (S' := fun w' => Rd w' d (.slice a0 l.length cap0) l ∧ Rd w' dp (.slice Ap P.length cp) P ∧ Rd w' dx (.slice Ax X.length cx) X) (fun _ _ => trivial) _ _ _ _ ?_
    replace hS := And.intro hr5 (And.intro hrp5 hrx5)
    refine wpAnyH_take (i := 3) (oi := ?o1_3_3) (v := ?v1_3_3) ?i1_3_3 (by kernel_rfl) (by kernel_rfl) (by kernel_rfl) (fun _ _ _ h => h) (Or.inl ⟨?g1_3_3, ?y1_3_3⟩) hS ?_
    case i1_3_3 => simp only [List.getElem?_toArray, List.getElem?_cons_succ, List.getElem?_cons_zero]; rfl
    case g1_3_3 => rfl
    case y1_3_3 => (intro w hSw; have hc : (convert 22 9 _).run Tryd.prog _ = .ok (.string (txt l)) _ := str_of hSw.1; (go_simp <;> with_reducible rfl))
    (try simp only [Act.put, List.setIfInBounds_toArray, List.set_cons_zero, List.set_cons_succ])
    refine wpAnyH_ready (rs := [1]) (by kernel_rfl) (by simp) ?_
    refine (AllReadyH.cons (o := ?o1_4_1) ?i1_4_1 (fun K hK => ?st1_4_1) AllReadyH.nil)
    case i1_4_1 => simp only [List.getElem?_toArray, List.getElem?_cons_succ, List.getElem?_cons_zero]; rfl
    rw [if_pos (by rfl)]
    go_simp
    refine ((QS.out _ _).out hB5 hr5).mono ?_
    rintro r w6 ⟨rfl, hb6⟩
    have hB6 := hB5.trans (hb6.mono hB5.size)
    go_wp2_with fail
    refine hK.out _ _ ?s1_4_1 (fun hS => ?_)
    case s1_4_1 => (exact ⟨hr5.below' hb6, hrp5.below' hb6, hrx5.below' hb6⟩)
    clear hK K
    (try simp only [Act.put, List.setIfInBounds_toArray, List.set_cons_zero, List.set_cons_succ])
    refine wpAnyH_ready (rs := [4]) (by kernel_rfl) (by simp) ?_
    refine (AllReadyH.cons (o := ?o1_5_4) ?i1_5_4 (fun K hK => ?st1_5_4) AllReadyH.nil)
    case i1_5_4 => simp only [List.getElem?_toArray, List.getElem?_cons_succ, List.getElem?_cons_zero]; rfl
    rw [if_pos (by rfl)]
    go_simp
    refine ((QT.out _).out).mono ?_
    rintro r w7 ⟨rfl, rfl⟩
    go_wp2_with fail
    refine hK.out _ _ ?s1_5_4 (fun hS => ?_)
    case s1_5_4 => (exact hS)
    clear hK K
    (try simp only [Act.put, List.setIfInBounds_toArray, List.set_cons_zero, List.set_cons_succ])
    refine wpAnyH_take (i := 5) (oi := ?o1_5_6) (v := ?v1_5_6) ?i1_5_6 (by kernel_rfl) (by kernel_rfl) (by kernel_rfl) (fun _ _ _ h => h) (Or.inl ⟨?g1_5_6, ?y1_5_6⟩) hS ?_
    case i1_5_6 => simp only [List.getElem?_toArray, List.getElem?_cons_succ, List.getElem?_cons_zero]; rfl
    case g1_5_6 => rfl
    case y1_5_6 => (intro w hSw; (go_simp <;> with_reducible rfl))
    (try simp only [Act.put, List.setIfInBounds_toArray, List.set_cons_zero, List.set_cons_succ])
    refine wpAnyH_take (i := 6) (oi := ?o1_6_7) (v := ?v1_6_7) ?i1_6_7 (by kernel_rfl) (by kernel_rfl) (by kernel_rfl) (fun _ _ _ h => h) (Or.inl ⟨?g1_6_7, ?y1_6_7⟩) hS ?_
    case i1_6_7 => simp only [List.getElem?_toArray, List.getElem?_cons_succ, List.getElem?_cons_zero]; rfl
    case g1_6_7 => rfl
    case y1_6_7 => (intro w hSw; (go_simp <;> with_reducible rfl))
    (try simp only [Act.put, List.setIfInBounds_toArray, List.set_cons_zero, List.set_cons_succ])
    refine wpAnyH_take (i := 7) (oi := ?o1_7_8) (v := ?v1_7_8) ?i1_7_8 (by kernel_rfl) (by kernel_rfl) (by kernel_rfl) (fun _ _ _ h => h) (Or.inl ⟨?g1_7_8, ?y1_7_8⟩) hS ?_
    case i1_7_8 => simp only [List.getElem?_toArray, List.getElem?_cons_succ, List.getElem?_cons_zero]; rfl
    case g1_7_8 => rfl
    case y1_7_8 => (intro w hSw; (go_simp <;> with_reducible rfl))
    (try simp only [Act.put, List.setIfInBounds_toArray, List.set_cons_zero, List.set_cons_succ])
    refine wpAnyH_take (i := 8) (oi := ?o1_8_9) (v := ?v1_8_9) ?i1_8_9 (by kernel_rfl) (by kernel_rfl) (by kernel_rfl) (fun _ _ _ h => h) (Or.inl ⟨?g1_8_9, ?y1_8_9⟩) hS ?_
    case i1_8_9 => simp only [List.getElem?_toArray, List.getElem?_cons_succ, List.getElem?_cons_zero]; rfl
    case g1_8_9 => rfl
    case y1_8_9 => (intro w hSw; have hc : (convert 22 9 _).run Tryd.prog _ = .ok (.string (txt P)) _ := str_of hSw.2.1; (go_simp <;> with_reducible rfl))
    (try simp only [Act.put, List.setIfInBounds_toArray, List.set_cons_zero, List.set_cons_succ])
    refine wpAnyH_take (i := 9) (oi := ?o1_9_10) (v := ?v1_9_10) ?i1_9_10 (by kernel_rfl) (by kernel_rfl) (by kernel_rfl) (fun _ _ _ h => h) (Or.inl ⟨?g1_9_10, ?y1_9_10⟩) hS ?_
    case i1_9_10 => simp only [List.getElem?_toArray, List.getElem?_cons_succ, List.getElem?_cons_zero]; rfl
    case g1_9_10 => rfl
    case y1_9_10 => (intro w hSw; (go_simp <;> with_reducible rfl))
    (try simp only [Act.put, List.setIfInBounds_toArray, List.set_cons_zero, List.set_cons_succ])
    refine wpAnyH_take (i := 10) (oi := ?o1_10_11) (v := ?v1_10_11) ?i1_10_11 (by kernel_rfl) (by kernel_rfl) (by kernel_rfl) (fun _ _ _ h => h) (Or.inl ⟨?g1_10_11, ?y1_10_11⟩) hS ?_
    case i1_10_11 => simp only [List.getElem?_toArray, List.getElem?_cons_succ, List.getElem?_cons_zero]; rfl
    case g1_10_11 => rfl
    case y1_10_11 => (intro w hSw; (go_simp <;> with_reducible rfl))
    (try simp only [Act.put, List.setIfInBounds_toArray, List.set_cons_zero, List.set_cons_succ])
    refine wpAnyH_take (i := 11) (oi := ?o1_11_12) (v := ?v1_11_12) ?i1_11_12 (by kernel_rfl) (by kernel_rfl) (by kernel_rfl) (fun _ _ _ h => h) (Or.inl ⟨?g1_11_12, ?y1_11_12⟩) hS ?_
    case i1_11_12 => simp only [List.getElem?_toArray, List.getElem?_cons_succ, List.getElem?_cons_zero]; rfl
    case g1_11_12 => rfl
    case y1_11_12 => (intro w hSw; (go_simp <;> with_reducible rfl))
    (try simp only [Act.put, List.setIfInBounds_toArray, List.set_cons_zero, List.set_cons_succ])
    refine wpAnyH_take (i := 12) (oi := ?o1_12_13) (v := ?v1_12_13) ?i1_12_13 (by kernel_rfl) (by kernel_rfl) (by kernel_rfl) (fun _ _ _ h => h) (Or.inl ⟨?g1_12_13, ?y1_12_13⟩) hS ?_
    case i1_12_13 => simp only [List.getElem?_toArray, List.getElem?_cons_succ, List.getElem?_cons_zero]; rfl
    case g1_12_13 => rfl
    case y1_12_13 => (intro w hSw; (go_simp <;> with_reducible rfl))
    (try simp only [Act.put, List.setIfInBounds_toArray, List.set_cons_zero, List.set_cons_succ])
    refine wpAnyH_take (i := 13) (oi := ?o1_13_14) (v := ?v1_13_14) ?i1_13_14 (by kernel_rfl) (by kernel_rfl) (by kernel_rfl) (fun _ _ _ h => h) (Or.inl ⟨?g1_13_14, ?y1_13_14⟩) hS ?_
    case i1_13_14 => simp only [List.getElem?_toArray, List.getElem?_cons_succ, List.getElem?_cons_zero]; rfl
    case g1_13_14 => rfl
    case y1_13_14 => (intro w hSw; (go_simp <;> with_reducible rfl))
    (try simp only [Act.put, List.setIfInBounds_toArray, List.set_cons_zero, List.set_cons_succ])
    refine wpAnyH_take (i := 14) (oi := ?o1_14_15) (v := ?v1_14_15) ?i1_14_15 (by kernel_rfl) (by kernel_rfl) (by kernel_rfl) (fun _ _ _ h => h) (Or.inl ⟨?g1_14_15, ?y1_14_15⟩) hS ?_
    case i1_14_15 => simp only [List.getElem?_toArray, List.getElem?_cons_succ, List.getElem?_cons_zero]; rfl
    case g1_14_15 => rfl
    case y1_14_15 => (intro w hSw; (go_simp <;> with_reducible rfl))
    (try simp only [Act.put, List.setIfInBounds_toArray, List.set_cons_zero, List.set_cons_succ])
    refine wpAnyH_take (i := 15) (oi := ?o1_15_16) (v := ?v1_15_16) ?i1_15_16 (by kernel_rfl) (by kernel_rfl) (by kernel_rfl) (fun _ _ _ h => h) (Or.inl ⟨?g1_15_16, ?y1_15_16⟩) hS ?_
    case i1_15_16 => simp only [List.getElem?_toArray, List.getElem?_cons_succ, List.getElem?_cons_zero]; rfl
    case g1_15_16 => rfl
    case y1_15_16 => (intro w hSw; (go_simp <;> with_reducible rfl))
    (try simp only [Act.put, List.setIfInBounds_toArray, List.set_cons_zero, List.set_cons_succ])
    refine wpAnyH_take (i := 16) (oi := ?o1_16_17) (v := ?v1_16_17) ?i1_16_17 (by kernel_rfl) (by kernel_rfl) (by kernel_rfl) (fun _ _ _ h => h) (Or.inl ⟨?g1_16_17, ?y1_16_17⟩) hS ?_
    case i1_16_17 => simp only [List.getElem?_toArray, List.getElem?_cons_succ, List.getElem?_cons_zero]; rfl
    case g1_16_17 => rfl
    case y1_16_17 => (intro w hSw; (go_simp <;> with_reducible rfl))
    (try simp only [Act.put, List.setIfInBounds_toArray, List.set_cons_zero, List.set_cons_succ])
    refine wpAnyH_take (i := 17) (oi := ?o1_17_18) (v := ?v1_17_18) ?i1_17_18 (by kernel_rfl) (by kernel_rfl) (by kernel_rfl) (fun _ _ _ h => h) (Or.inl ⟨?g1_17_18, ?y1_17_18⟩) hS ?_
    case i1_17_18 => simp only [List.getElem?_toArray, List.getElem?_cons_succ, List.getElem?_cons_zero]; rfl
    case g1_17_18 => rfl
    case y1_17_18 => (intro w hSw; (go_simp <;> with_reducible rfl))
    (try simp only [Act.put, List.setIfInBounds_toArray, List.set_cons_zero, List.set_cons_succ])
    refine wpAnyH_take (i := 18) (oi := ?o1_18_19) (v := ?v1_18_19) ?i1_18_19 (by kernel_rfl) (by kernel_rfl) (by kernel_rfl) (fun _ _ _ h => h) (Or.inl ⟨?g1_18_19, ?y1_18_19⟩) hS ?_
    case i1_18_19 => simp only [List.getElem?_toArray, List.getElem?_cons_succ, List.getElem?_cons_zero]; rfl
    case g1_18_19 => rfl
    case y1_18_19 => (intro w hSw; (go_simp <;> with_reducible rfl))
    (try simp only [Act.put, List.setIfInBounds_toArray, List.set_cons_zero, List.set_cons_succ])
    refine wpAnyH_take (i := 19) (oi := ?o1_19_20) (v := ?v1_19_20) ?i1_19_20 (by kernel_rfl) (by kernel_rfl) (by kernel_rfl) (fun _ _ _ h => h) (Or.inl ⟨?g1_19_20, ?y1_19_20⟩) hS ?_
    case i1_19_20 => simp only [List.getElem?_toArray, List.getElem?_cons_succ, List.getElem?_cons_zero]; rfl
    case g1_19_20 => rfl
    case y1_19_20 => (intro w hSw; have hc : (convert 22 9 _).run Tryd.prog _ = .ok (.string (txt X)) _ := str_of hSw.2.2; (go_simp <;> with_reducible rfl))
    (try simp only [Act.put, List.setIfInBounds_toArray, List.set_cons_zero, List.set_cons_succ])
    refine wpAnyH_take (i := 20) (oi := ?o1_20_21) (v := ?v1_20_21) ?i1_20_21 (by kernel_rfl) (by kernel_rfl) (by kernel_rfl) (fun _ _ _ h => h) (Or.inl ⟨?g1_20_21, ?y1_20_21⟩) hS ?_
    case i1_20_21 => simp only [List.getElem?_toArray, List.getElem?_cons_succ, List.getElem?_cons_zero]; rfl
    case g1_20_21 => rfl
    case y1_20_21 => (intro w hSw; (go_simp <;> with_reducible rfl))
    (try simp only [Act.put, List.setIfInBounds_toArray, List.set_cons_zero, List.set_cons_succ])
    refine wpAnyH_take (i := 21) (oi := ?o1_21_22) (v := ?v1_21_22) ?i1_21_22 (by kernel_rfl) (by kernel_rfl) (by kernel_rfl) (fun _ _ _ h => h) (Or.inl ⟨?g1_21_22, ?y1_21_22⟩) hS ?_
    case i1_21_22 => simp only [List.getElem?_toArray, List.getElem?_cons_succ, List.getElem?_cons_zero]; rfl
    case g1_21_22 => rfl
    case y1_21_22 => (intro w hSw; (go_simp <;> with_reducible rfl))
    (try simp only [Act.put, List.setIfInBounds_toArray, List.set_cons_zero, List.set_cons_succ])
    refine wpAnyH_take (i := 22) (oi := ?o1_22_23) (v := ?v1_22_23) ?i1_22_23 (by kernel_rfl) (by kernel_rfl) (by kernel_rfl) (fun _ _ _ h => h) (Or.inl ⟨?g1_22_23, ?y1_22_23⟩) hS ?_
    case i1_22_23 => simp only [List.getElem?_toArray, List.getElem?_cons_succ, List.getElem?_cons_zero]; rfl
    case g1_22_23 => rfl
    case y1_22_23 => (intro w hSw; (go_simp <;> with_reducible rfl))
    (try simp only [Act.put, List.setIfInBounds_toArray, List.set_cons_zero, List.set_cons_succ])
    refine wpAnyH_take (i := 23) (oi := ?o1_23_24) (v := ?v1_23_24) ?i1_23_24 (by kernel_rfl) (by kernel_rfl) (by kernel_rfl) (fun _ _ _ h => h) (Or.inl ⟨?g1_23_24, ?y1_23_24⟩) hS ?_
    case i1_23_24 => simp only [List.getElem?_toArray, List.getElem?_cons_succ, List.getElem?_cons_zero]; rfl
    case g1_23_24 => rfl
    case y1_23_24 => (intro w hSw; (go_simp <;> with_reducible rfl))
    (try simp only [Act.put, List.setIfInBounds_toArray, List.set_cons_zero, List.set_cons_succ])
    refine wpAnyH_take (i := 24) (oi := ?o1_24_25) (v := ?v1_24_25) ?i1_24_25 (by kernel_rfl) (by kernel_rfl) (by kernel_rfl) (fun _ _ _ h => h) (Or.inl ⟨?g1_24_25, ?y1_24_25⟩) hS ?_
    case i1_24_25 => simp only [List.getElem?_toArray, List.getElem?_cons_succ, List.getElem?_cons_zero]; rfl
    case g1_24_25 => rfl
    case y1_24_25 => (intro w hSw; (go_simp <;> with_reducible rfl))
    (try simp only [Act.put, List.setIfInBounds_toArray, List.set_cons_zero, List.set_cons_succ])
    refine wpAnyH_take (i := 25) (oi := ?o1_25_26) (v := ?v1_25_26) ?i1_25_26 (by kernel_rfl) (by kernel_rfl) (by kernel_rfl) (fun _ _ _ h => h) (Or.inl ⟨?g1_25_26, ?y1_25_26⟩) hS ?_
    case i1_25_26 => simp only [List.getElem?_toArray, List.getElem?_cons_succ, List.getElem?_cons_zero]; rfl
    case g1_25_26 => rfl
    case y1_25_26 => (intro w hSw; (go_simp <;> with_reducible rfl))
    (try simp only [Act.put, List.setIfInBounds_toArray, List.set_cons_zero, List.set_cons_succ])
    refine wpAnyH_take (i := 26) (oi := ?o1_26_27) (v := ?v1_26_27) ?i1_26_27 (by kernel_rfl) (by kernel_rfl) (by kernel_rfl) (fun _ _ _ h => h) (Or.inl ⟨?g1_26_27, ?y1_26_27⟩) hS ?_
    case i1_26_27 => simp only [List.getElem?_toArray, List.getElem?_cons_succ, List.getElem?_cons_zero]; rfl
    case g1_26_27 => rfl
    case y1_26_27 => (intro w hSw; (go_simp <;> with_reducible rfl))
    (try simp only [Act.put, List.setIfInBounds_toArray, List.set_cons_zero, List.set_cons_succ])
    refine wpAnyH_take (i := 27) (oi := ?o1_27_28) (v := ?v1_27_28) ?i1_27_28 (by kernel_rfl) (by kernel_rfl) (by kernel_rfl) (fun _ _ _ h => h) (Or.inl ⟨?g1_27_28, ?y1_27_28⟩) hS ?_
    case i1_27_28 => simp only [List.getElem?_toArray, List.getElem?_cons_succ, List.getElem?_cons_zero]; rfl
    case g1_27_28 => rfl
    case y1_27_28 => (intro w hSw; (go_simp <;> with_reducible rfl))
    (try simp only [Act.put, List.setIfInBounds_toArray, List.set_cons_zero, List.set_cons_succ])
    refine wpAnyH_take (i := 28) (oi := ?o1_28_29) (v := ?v1_28_29) ?i1_28_29 (by kernel_rfl) (by kernel_rfl) (by kernel_rfl) (fun _ _ _ h => h) (Or.inl ⟨?g1_28_29, ?y1_28_29⟩) hS ?_
    case i1_28_29 => simp only [List.getElem?_toArray, List.getElem?_cons_succ, List.getElem?_cons_zero]; rfl
    case g1_28_29 => rfl
    case y1_28_29 => (intro w hSw; (go_simp <;> with_reducible rfl))
    (try simp only [Act.put, List.setIfInBounds_toArray, List.set_cons_zero, List.set_cons_succ])
    refine wpAnyH_take (i := 29) (oi := ?o1_29_30) (v := ?v1_29_30) ?i1_29_30 (by kernel_rfl) (by kernel_rfl) (by kernel_rfl) (fun _ _ _ h => h) (Or.inl ⟨?g1_29_30, ?y1_29_30⟩) hS ?_
    case i1_29_30 => simp only [List.getElem?_toArray, List.getElem?_cons_succ, List.getElem?_cons_zero]; rfl
    case g1_29_30 => rfl
    case y1_29_30 => (intro w hSw; (go_simp <;> with_reducible rfl))
    (try simp only [Act.put, List.setIfInBounds_toArray, List.set_cons_zero, List.set_cons_succ])
    refine wpAnyH_take (i := 30) (oi := ?o1_30_31) (v := ?v1_30_31) ?i1_30_31 (by kernel_rfl) (by kernel_rfl) (by kernel_rfl) (fun _ _ _ h => h) (Or.inl ⟨?g1_30_31, ?y1_30_31⟩) hS ?_
    case i1_30_31 => simp only [List.getElem?_toArray, List.getElem?_cons_succ, List.getElem?_cons_zero]; rfl
    case g1_30_31 => rfl
    case y1_30_31 => (intro w hSw; (go_simp <;> with_reducible rfl))
    (try simp only [Act.put, List.setIfInBounds_toArray, List.set_cons_zero, List.set_cons_succ])
    refine wpAnyH_take (i := 31) (oi := ?o1_31_32) (v := ?v1_31_32) ?i1_31_32 (by kernel_rfl) (by kernel_rfl) (by kernel_rfl) (fun _ _ _ h => h) (Or.inl ⟨?g1_31_32, ?y1_31_32⟩) hS ?_
    case i1_31_32 => simp only [List.getElem?_toArray, List.getElem?_cons_succ, List.getElem?_cons_zero]; rfl
    case g1_31_32 => rfl
    case y1_31_32 => (intro w hSw; (go_simp <;> with_reducible rfl))
    (try simp only [Act.put, List.setIfInBounds_toArray, List.set_cons_zero, List.set_cons_succ])
    refine wpAnyH_take (i := 32) (oi := ?o1_32_33) (v := ?v1_32_33) ?i1_32_33 (by kernel_rfl) (by kernel_rfl) (by kernel_rfl) (fun _ _ _ h => h) (Or.inl ⟨?g1_32_33, ?y1_32_33⟩) hS ?_
    case i1_32_33 => simp only [List.getElem?_toArray, List.getElem?_cons_succ, List.getElem?_cons_zero]; rfl
    case g1_32_33 => rfl
    case y1_32_33 => (intro w hSw; (go_simp <;> with_reducible rfl))
    (try simp only [Act.put, List.setIfInBounds_toArray, List.set_cons_zero, List.set_cons_succ])
    refine wpAnyH_take (i := 33) (oi := ?o1_33_34) (v := ?v1_33_34) ?i1_33_34 (by kernel_rfl) (by kernel_rfl) (by kernel_rfl) (fun _ _ _ h => h) (Or.inl ⟨?g1_33_34, ?y1_33_34⟩) hS ?_
    case i1_33_34 => simp only [List.getElem?_toArray, List.getElem?_cons_succ, List.getElem?_cons_zero]; rfl
    case g1_33_34 => rfl
    case y1_33_34 => (intro w hSw; (go_simp <;> with_reducible rfl))
    (try simp only [Act.put, List.setIfInBounds_toArray, List.set_cons_zero, List.set_cons_succ])
    refine wpAnyH_done (by kernel_rfl) ?_ _
    refine NoPanic.normal ?_
    go_wp2
    go_ret
    exact ⟨rfl, hB6⟩

end Go.Proofs.YtepcaaejadeklaaDoor
