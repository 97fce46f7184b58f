/-
  What the document's Get (package tollbarref04) answers. No condition but those of each theorem.
-/
import Derived.Test.YtepcaaejadeklaaDoorFrmRefB
import Derived.Test.YtepcaaejadeklaaDoorVarMath
import Derived.Test.YtepcaaejadeklaaDoorVarRefB
namespace Go.Proofs.YtepcaaejadeklaaDoor
open Go.RowKit
set_option linter.unusedSimpArgs false

/-- What a record at the beginning holds, how long it is, the error. -/
def getF (s : List UInt8) : List UInt8 × Nat × Int :=
  if (getV s).2.2 ≠ 0 then ([], 0, (getV s).2.2)
  else if 8192 < (getV s).1 then ([], 0, 14)
  else if s.length < (getV s).2.1 + (getV s).1 + 4 then ([], 0, 10)
  else if bigB (crc (s.take ((getV s).2.1 + (getV s).1))) 4 ≠ (s.drop ((getV s).2.1 + (getV s).1)).take 4 then ([], 0, 12)
  else ((s.take ((getV s).2.1 + (getV s).1)).drop (getV s).2.1, (getV s).2.1 + (getV s).1 + 4, 0)
def getFOut (s : List UInt8) : Ending := .returned (.tuple #[.string (txt (getF s).1), .int .i64 ((getF s).2.1 : Int), .int .i64 (getF s).2.2])
def RGetF (s : List UInt8) (w : World) (r : Ending) (w' : World) : Prop := r = getFOut s ∧ Below w.heap.size w w'
theorem RGetF.of {s x : List UInt8} {n : Nat} {e : Int} {w w' : World} (h : getF s = (x, n, e)) (hb : Below w.heap.size w w') : RGetF s w (.returned (.tuple #[.string (txt x), .int .i64 (n : Int), .int .i64 e])) w' := ⟨by unfold getFOut; rw [h], hb⟩

set_option maxRecDepth 100000 in
set_option maxHeartbeats 600000 in
theorem rgetF_any (s : List UInt8) (w : World) (hs : s.length ≤ 90000) : Calls Tryd.prog 13 #[.string (txt s)] w (RGetF s w) := by
  have hsz := txt_size s
  obtain ⟨x, n, e, hx⟩ : ∃ x n e, getV s = (x, n, e) := ⟨_, _, _, rfl⟩
  have HC : ∀ W, Hid (Calls Tryd.prog 27 #[.string (txt s)] W (fun r w' => r = .returned (.tuple #[.int .u64 (x : Int), .int .i64 (n : Int), .int .i64 e]) ∧ W = w')) := fun W => Lib.hid (by
    have h := rget_any s W (by omega)
    unfold RGetPost getOut at h
    rw [hx] at h
    exact h)
  have HC := Lib.hid HC
  have hG : getF s = if e ≠ 0 then ([], 0, e)
      else if 8192 < x then ([], 0, 14)
      else if s.length < n + x + 4 then ([], 0, 10)
      else if bigB (crc (s.take (n + x))) 4 ≠ (s.drop (n + x)).take 4 then ([], 0, 12)
      else ((s.take (n + x)).drop n, n + x + 4, 0) := by unfold getF; rw [hx]
  by_cases c1 : e ≠ 0
  · rw [if_pos c1] at hG
    have HP : ∀ w', Hid (Below w.heap.size w w' → RGetF s w (.returned (.tuple #[.string ⟨#[]⟩, .int .i64 0, .int .i64 e])) w') := fun w' => Lib.hid fun h => RGetF.of hG h
    have HP := Lib.hid HP
    have hb1 : (e == 0) = false := by simpa using c1
    have hb2 : (e != 0) = true := by simpa using c1
    clear hG c1 hx
    go_enter Tryd.func13, Tryd.ntmps13
    go_wp2_with fail
    refine (HC.out _).out.mono ?_
    rintro r w1 ⟨rfl, rfl⟩
    go_wp2
    go_ret3
    exact (HP.out _).out (Below.refl _ _)
  rw [if_neg c1] at hG
  obtain rfl : e = 0 := Decidable.not_not.1 c1
  have o1 := getV_own s (by rw [hx])
  rw [hx] at o1
  obtain ⟨a1, a2, a3, t64, -⟩ := o1
  dsimp only at a1 a2 a3 t64
  clear c1
  by_cases c2 : 8192 < x
  · rw [if_pos c2] at hG
    have HP : ∀ w', Hid (Below w.heap.size w w' → RGetF s w (.returned (.tuple #[.string ⟨#[]⟩, .int .i64 0, .int .i64 14])) w') := fun w' => Lib.hid fun h => RGetF.of hG h
    have HP := Lib.hid HP
    have hb1 : decide ((8192 : Int) < (x : Int)) = true := decide_eq_true (by omega)
    clear hG c2 hx
    go_enter Tryd.func13, Tryd.ntmps13
    go_wp2_with fail
    refine (HC.out _).out.mono ?_
    rintro r w1 ⟨rfl, rfl⟩
    go_wp2
    go_ret3
    exact (HP.out _).out (Below.refl _ _)
  rw [if_neg c2] at hG
  have hb1 : decide ((8192 : Int) < (x : Int)) = false := decide_eq_false (by omega)
  have hx8 : x ≤ 8192 := by omega
  obtain ⟨E, hE⟩ : ∃ E, E = n + x := ⟨_, rfl⟩
  have hEI : (n : Int) + (x : Int) = (E : Int) := by omega
  have hE9 : E ≤ 8202 := by omega
  have hxE : x ≤ E := by omega
  have hnE : n ≤ E := by omega
  rw [← hE] at hG
  clear c2 hE
  by_cases c3 : s.length < E + 4
  · rw [if_pos c3] at hG
    have HP : ∀ w', Hid (Below w.heap.size w w' → RGetF s w (.returned (.tuple #[.string ⟨#[]⟩, .int .i64 0, .int .i64 10])) w') := fun w' => Lib.hid fun h => RGetF.of hG h
    have HP := Lib.hid HP
    have hb3 : decide ((s.length : Int) < (E : Int) + 4) = true := decide_eq_true (by omega)
    clear hG c3 hx
    go_enter Tryd.func13, Tryd.ntmps13
    go_wp2_with fail
    refine (HC.out _).out.mono ?_
    rintro r w1 ⟨rfl, rfl⟩
    go_wp2
    go_ret3
    exact (HP.out _).out (Below.refl _ _)
  rw [if_neg c3] at hG
  have hb3 : decide ((s.length : Int) < (E : Int) + 4) = false := decide_eq_false (by omega)
  have hEs : E + 4 ≤ s.length := by omega
  have hEs1 : E ≤ s.length := by omega
  obtain ⟨E4, hE4⟩ : ∃ E4, E4 = E + 4 := ⟨_, rfl⟩
  have hE4s : E4 ≤ s.length := by omega
  have hEE4 : E ≤ E4 := by omega
  have HWKE : ∀ K : Nat, K < 4294967296 → Hid (IntKind.u64.wrap (K : Int) = (K : Int)) := fun K h => Lib.hid (by rw [IntKind.wrap_u64]; omega)
  have HW : Hid (IntKind.i64.wrap ((E : Int) + 4) = (E4 : Int)) := Lib.hid (by rw [IntKind.wrap_i64]; omega)
  obtain ⟨T, hT⟩ : ∃ T, T = s.take E := ⟨_, rfl⟩
  obtain ⟨U, hU⟩ : ∃ U, U = (s.drop E).take 4 := ⟨_, rfl⟩
  obtain ⟨K, hK⟩ : ∃ K, K = crc T := ⟨_, rfl⟩
  obtain ⟨B, hB⟩ : ∃ B, B = bigB K 4 := ⟨_, rfl⟩
  have hTl : T.length = E := by rw [hT, List.length_take]; omega
  have hK32 : K < 4294967296 := by rw [hK]; exact crc_lt T
  have hx1 : (txt s).extract 0 E = txt T := by rw [txt_extract, List.drop_zero, hT]
  have hx2 : (txt s).extract E E4 = txt U := by rw [txt_extract, List.drop_take, hU]; congr 2; omega
  obtain ⟨X, hX⟩ : ∃ X, X = T.drop n := ⟨_, rfl⟩
  have hx3 : (txt s).extract n E = txt X := by rw [txt_extract, hX, hT]
  rw [← hT, ← hK, ← hB, ← hU, ← hX] at hG
  have HSUM : ∀ W, Hid (Calls Tryd.prog 15 #[.string (txt T)] W (fun r w' => r = .returned (.int .u32 (K : Int)) ∧ W = w')) := fun W => Lib.hid (by
    rw [hK]
    exact rsum_any T W (by omega))
  have HBIG : ∀ W, Hid (Calls Tryd.prog 23 #[.int .u64 (K : Int), .int .i64 4] W (fun r w' => r = .returned (.string (txt B)) ∧ Below W.heap.size W w')) := fun W => Lib.hid (by
    rw [hB]
    exact rbig_any K 4 4 W (by omega) (by omega) rfl)
  have HS := Lib.hid HSUM
  have HG := Lib.hid HBIG
  have HWK := HWKE K hK32
  clear HWKE c3 hE4 hx hT hU hK hB hTl hX HSUM HBIG
  by_cases c4 : B ≠ U
  · rw [if_pos c4] at hG
    have HP : ∀ w', Hid (Below w.heap.size w w' → RGetF s w (.returned (.tuple #[.string ⟨#[]⟩, .int .i64 0, .int .i64 12])) w') := fun w' => Lib.hid fun h => RGetF.of hG h
    have HP := Lib.hid HP
    have hb4 : ((txt B).toList == (txt U).toList) = false := by rw [txt_toList, txt_toList]; simpa using c4
    clear hG c4
    go_enter Tryd.func13, Tryd.ntmps13
    go_wp2_with fail
    refine (HC.out _).out.mono ?_
    rintro r w1 ⟨rfl, rfl⟩
    go_wp2_with fail
    refine wp_region_noPanic ?_
    refine wp_region_held_drew (S := fun _ => True) (by kernel_rfl) trivial (fun hS => ?_)
    refine wpAnyH_take (i := 0) (oi := ?o1_0_1) (v := ?v1_0_1) ?i1_0_1 (by kernel_rfl) (by kernel_rfl) (by kernel_rfl) (fun _ _ _ h => h) (Or.inl ⟨?g1_0_1, ?y1_0_1⟩) hS ?_
    case i1_0_1 => simp only [List.getElem?_toArray, List.getElem?_cons_succ, List.getElem?_cons_zero]; rfl
    case g1_0_1 => rfl
    case y1_0_1 => (intro w hSw; (go_simp <;> with_reducible rfl))
    (try simp only [Act.put, List.setIfInBounds_toArray, List.set_cons_zero, List.set_cons_succ])
    refine wpAnyH_take (i := 1) (oi := ?o1_1_2) (v := ?v1_1_2) ?i1_1_2 (by kernel_rfl) (by kernel_rfl) (by kernel_rfl) (fun _ _ _ h => h) (Or.inl ⟨?g1_1_2, ?y1_1_2⟩) hS ?_
    case i1_1_2 => simp only [List.getElem?_toArray, List.getElem?_cons_succ, List.getElem?_cons_zero]; rfl
    case g1_1_2 => rfl
    case y1_1_2 => (intro w hSw; (go_simp <;> with_reducible rfl))
    (try simp only [Act.put, List.setIfInBounds_toArray, List.set_cons_zero, List.set_cons_succ])
    refine wpAnyH_take (i := 2) (oi := ?o1_2_3) (v := ?v1_2_3) ?i1_2_3 (by kernel_rfl) (by kernel_rfl) (by kernel_rfl) (fun _ _ _ h => h) (Or.inl ⟨?g1_2_3, ?y1_2_3⟩) hS ?_
    case i1_2_3 => simp only [List.getElem?_toArray, List.getElem?_cons_succ, List.getElem?_cons_zero]; rfl
    case g1_2_3 => rfl
    case y1_2_3 => (intro w hSw; (go_simp <;> with_reducible rfl))
    (try simp only [Act.put, List.setIfInBounds_toArray, List.set_cons_zero, List.set_cons_succ])
    refine wpAnyH_take (i := 6) (oi := ?o1_6_4) (v := ?v1_6_4) ?i1_6_4 (by kernel_rfl) (by kernel_rfl) (by kernel_rfl) (fun _ _ _ h => h) (Or.inl ⟨?g1_6_4, ?y1_6_4⟩) hS ?_
    case i1_6_4 => simp only [List.getElem?_toArray, List.getElem?_cons_succ, List.getElem?_cons_zero]; rfl
    case g1_6_4 => rfl
    case y1_6_4 => (intro w hSw; (go_simp <;> with_reducible rfl))
    (try simp only [Act.put, List.setIfInBounds_toArray, List.set_cons_zero, List.set_cons_succ])
    refine wpAnyH_take (i := 7) (oi := ?o1_7_5) (v := ?v1_7_5) ?i1_7_5 (by kernel_rfl) (by kernel_rfl) (by kernel_rfl) (fun _ _ _ h => h) (Or.inl ⟨?g1_7_5, ?y1_7_5⟩) hS ?_
    case i1_7_5 => simp only [List.getElem?_toArray, List.getElem?_cons_succ, List.getElem?_cons_zero]; rfl
    case g1_7_5 => rfl
    case y1_7_5 => (intro w hSw; (go_simp <;> with_reducible rfl))
    (try simp only [Act.put, List.setIfInBounds_toArray, List.set_cons_zero, List.set_cons_succ])
    refine wpAnyH_take (i := 8) (oi := ?o1_8_6) (v := ?v1_8_6) ?i1_8_6 (by kernel_rfl) (by kernel_rfl) (by kernel_rfl) (fun _ _ _ h => h) (Or.inl ⟨?g1_8_6, ?y1_8_6⟩) hS ?_
    case i1_8_6 => simp only [List.getElem?_toArray, List.getElem?_cons_succ, List.getElem?_cons_zero]; rfl
    case g1_8_6 => rfl
    case y1_8_6 => (intro w hSw; (go_simp <;> with_reducible rfl))
    (try simp only [Act.put, List.setIfInBounds_toArray, List.set_cons_zero, List.set_cons_succ])
    refine wpAnyH_take (i := 9) (oi := ?o1_9_7) (v := ?v1_9_7) ?i1_9_7 (by kernel_rfl) (by kernel_rfl) (by kernel_rfl) (fun _ _ _ h => h) (Or.inl ⟨?g1_9_7, ?y1_9_7⟩) hS ?_
    case i1_9_7 => simp only [List.getElem?_toArray, List.getElem?_cons_succ, List.getElem?_cons_zero]; rfl
    case g1_9_7 => rfl
    case y1_9_7 => (intro w hSw; have hwr := HW.out; (go_simp <;> with_reducible rfl))
    (try simp only [Act.put, List.setIfInBounds_toArray, List.set_cons_zero, List.set_cons_succ])
    refine wpAnyH_take (i := 10) (oi := ?o1_10_8) (v := ?v1_10_8) ?i1_10_8 (by kernel_rfl) (by kernel_rfl) (by kernel_rfl) (fun _ _ _ h => h) (Or.inl ⟨?g1_10_8, ?y1_10_8⟩) hS ?_
    case i1_10_8 => simp only [List.getElem?_toArray, List.getElem?_cons_succ, List.getElem?_cons_zero]; rfl
    case g1_10_8 => rfl
    case y1_10_8 => (intro w hSw; (go_simp <;> with_reducible rfl))
    (try simp only [Act.put, List.setIfInBounds_toArray, List.set_cons_zero, List.set_cons_succ])
    refine wpAnyH_ready (rs := [3]) (by kernel_rfl) (by simp) ?_
    refine (AllReadyH.cons (o := ?o1_9_3) ?i1_9_3 (fun K hK => ?st1_9_3) AllReadyH.nil)
    case i1_9_3 => simp only [List.getElem?_toArray, List.getElem?_cons_succ, List.getElem?_cons_zero]; rfl
    rw [if_pos (by rfl)]
    go_simp
    refine (HS.out _).out.mono ?_
    rintro r w3 ⟨rfl, rfl⟩
    go_wp2_with fail
    refine hK.out _ _ ?s1_9_3 (fun hS => ?_)
    case s1_9_3 => (exact hS)
    clear hK K
    (try simp only [Act.put, List.setIfInBounds_toArray, List.set_cons_zero, List.set_cons_succ])
    refine wpAnyH_take (i := 4) (oi := ?o1_4_10) (v := ?v1_4_10) ?i1_4_10 (by kernel_rfl) (by kernel_rfl) (by kernel_rfl) (fun _ _ _ h => h) (Or.inl ⟨?g1_4_10, ?y1_4_10⟩) hS ?_
    case i1_4_10 => simp only [List.getElem?_toArray, List.getElem?_cons_succ, List.getElem?_cons_zero]; rfl
    case g1_4_10 => rfl
    case y1_4_10 => (intro w hSw; (go_simp <;> with_reducible rfl))
    (try simp only [Act.put, List.setIfInBounds_toArray, List.set_cons_zero, List.set_cons_succ])
    refine wpAnyH_ready (rs := [5]) (by kernel_rfl) (by simp) ?_
    refine (AllReadyH.cons (o := ?o1_11_5) ?i1_11_5 (fun K hK => ?st1_11_5) AllReadyH.nil)
    case i1_11_5 => simp only [List.getElem?_toArray, List.getElem?_cons_succ, List.getElem?_cons_zero]; rfl
    rw [if_pos (by rfl)]
    have hwk := HWK.out
    go_simp
    clear hwk
    refine (HG.out _).out.mono ?_
    rintro r w5 ⟨rfl, hb5⟩
    go_wp2_with fail
    refine hK.out _ _ ?s1_11_5 (fun hS => ?_)
    case s1_11_5 => (exact hS)
    clear hK K
    (try simp only [Act.put, List.setIfInBounds_toArray, List.set_cons_zero, List.set_cons_succ])
    refine wpAnyH_take (i := 11) (oi := ?o1_11_12) (v := ?v1_11_12) ?i1_11_12 (by kernel_rfl) (by kernel_rfl) (by kernel_rfl) (fun _ _ _ h => h) (Or.inl ⟨?g1_11_12, ?y1_11_12⟩) hS ?_
    case i1_11_12 => simp only [List.getElem?_toArray, List.getElem?_cons_succ, List.getElem?_cons_zero]; rfl
    case g1_11_12 => rfl
    case y1_11_12 => (intro w hSw; (go_simp <;> with_reducible rfl))
    (try simp only [Act.put, List.setIfInBounds_toArray, List.set_cons_zero, List.set_cons_succ])
    refine wpAnyH_done (by kernel_rfl) ?_ _
    refine NoPanic.normal ?_
    go_wp2
    go_ret3
    exact (HP.out _).out ((Below.refl _ _).drew.trans (hb5.mono (Nat.le_refl _)))
  · rw [if_neg c4] at hG
    obtain rfl : B = U := Decidable.not_not.1 c4
    have HP : ∀ w', Hid (Below w.heap.size w w' → RGetF s w (.returned (.tuple #[.string (txt X), .int .i64 ((E : Int) + 4), .int .i64 0])) w') := fun w' => Lib.hid fun h => RGetF.of hG h
    have HP := Lib.hid HP
    have hb4 : ((txt B).toList == (txt B).toList) = true := by simp
    clear hG c4
    go_enter Tryd.func13, Tryd.ntmps13
    go_wp2_with fail
    refine (HC.out _).out.mono ?_
    rintro r w1 ⟨rfl, rfl⟩
    go_wp2_with fail
    refine wp_region_noPanic ?_
    refine wp_region_held_drew (S := fun _ => True) (by kernel_rfl) trivial (fun hS => ?_)
    refine wpAnyH_take (i := 0) (oi := ?o2_0_1) (v := ?v2_0_1) ?i2_0_1 (by kernel_rfl) (by kernel_rfl) (by kernel_rfl) (fun _ _ _ h => h) (Or.inl ⟨?g2_0_1, ?y2_0_1⟩) hS ?_
    case i2_0_1 => simp only [List.getElem?_toArray, List.getElem?_cons_succ, List.getElem?_cons_zero]; rfl
    case g2_0_1 => rfl
    case y2_0_1 => (intro w hSw; (go_simp <;> with_reducible rfl))
    (try simp only [Act.put, List.setIfInBounds_toArray, List.set_cons_zero, List.set_cons_succ])
    refine wpAnyH_take (i := 1) (oi := ?o2_1_2) (v := ?v2_1_2) ?i2_1_2 (by kernel_rfl) (by kernel_rfl) (by kernel_rfl) (fun _ _ _ h => h) (Or.inl ⟨?g2_1_2, ?y2_1_2⟩) hS ?_
    case i2_1_2 => simp only [List.getElem?_toArray, List.getElem?_cons_succ, List.getElem?_cons_zero]; rfl
    case g2_1_2 => rfl
    case y2_1_2 => (intro w hSw; (go_simp <;> with_reducible rfl))
    (try simp only [Act.put, List.setIfInBounds_toArray, List.set_cons_zero, List.set_cons_succ])
    refine wpAnyH_take (i := 2) (oi := ?o2_2_3) (v := ?v2_2_3) ?i2_2_3 (by kernel_rfl) (by kernel_rfl) (by kernel_rfl) (fun _ _ _ h => h) (Or.inl ⟨?g2_2_3, ?y2_2_3⟩) hS ?_
    case i2_2_3 => simp only [List.getElem?_toArray, List.getElem?_cons_succ, List.getElem?_cons_zero]; rfl
    case g2_2_3 => rfl
    case y2_2_3 => (intro w hSw; (go_simp <;> with_reducible rfl))
    (try simp only [Act.put, List.setIfInBounds_toArray, List.set_cons_zero, List.set_cons_succ])
    refine wpAnyH_take (i := 6) (oi := ?o2_6_4) (v := ?v2_6_4) ?i2_6_4 (by kernel_rfl) (by kernel_rfl) (by kernel_rfl) (fun _ _ _ h => h) (Or.inl ⟨?g2_6_4, ?y2_6_4⟩) hS ?_
    case i2_6_4 => simp only [List.getElem?_toArray, List.getElem?_cons_succ, List.getElem?_cons_zero]; rfl
    case g2_6_4 => rfl
    case y2_6_4 => (intro w hSw; (go_simp <;> with_reducible rfl))
    (try simp only [Act.put, List.setIfInBounds_toArray, List.set_cons_zero, List.set_cons_succ])
    refine wpAnyH_take (i := 7) (oi := ?o2_7_5) (v := ?v2_7_5) ?i2_7_5 (by kernel_rfl) (by kernel_rfl) (by kernel_rfl) (fun _ _ _ h => h) (Or.inl ⟨?g2_7_5, ?y2_7_5⟩) hS ?_
    case i2_7_5 => simp only [List.getElem?_toArray, List.getElem?_cons_succ, List.getElem?_cons_zero]; rfl
    case g2_7_5 => rfl
    case y2_7_5 => (intro w hSw; (go_simp <;> with_reducible rfl))
    (try simp only [Act.put, List.setIfInBounds_toArray, List.set_cons_zero, List.set_cons_succ])
    refine wpAnyH_take (i := 8) (oi := ?o2_8_6) (v := ?v2_8_6) ?i2_8_6 (by kernel_rfl) (by kernel_rfl) (by kernel_rfl) (fun _ _ _ h => h) (Or.inl ⟨?g2_8_6, ?y2_8_6⟩) hS ?_
    case i2_8_6 => simp only [List.getElem?_toArray, List.getElem?_cons_succ, List.getElem?_cons_zero]; rfl
    case g2_8_6 => rfl
    case y2_8_6 => (intro w hSw; (go_simp <;> with_reducible rfl))
    (try simp only [Act.put, List.setIfInBounds_toArray, List.set_cons_zero, List.set_cons_succ])
    refine wpAnyH_take (i := 9) (oi := ?o2_9_7) (v := ?v2_9_7) ?i2_9_7 (by kernel_rfl) (by kernel_rfl) (by kernel_rfl) (fun _ _ _ h => h) (Or.inl ⟨?g2_9_7, ?y2_9_7⟩) hS ?_
    case i2_9_7 => simp only [List.getElem?_toArray, List.getElem?_cons_succ, List.getElem?_cons_zero]; rfl
    case g2_9_7 => rfl
    case y2_9_7 => (intro w hSw; have hwr := HW.out; (go_simp <;> with_reducible rfl))
    (try simp only [Act.put, List.setIfInBounds_toArray, List.set_cons_zero, List.set_cons_succ])
    refine wpAnyH_take (i := 10) (oi := ?o2_10_8) (v := ?v2_10_8) ?i2_10_8 (by kernel_rfl) (by kernel_rfl) (by kernel_rfl) (fun _ _ _ h => h) (Or.inl ⟨?g2_10_8, ?y2_10_8⟩) hS ?_
    case i2_10_8 => simp only [List.getElem?_toArray, List.getElem?_cons_succ, List.getElem?_cons_zero]; rfl
    case g2_10_8 => rfl
    case y2_10_8 => (intro w hSw; (go_simp <;> with_reducible rfl))
    (try simp only [Act.put, List.setIfInBounds_toArray, List.set_cons_zero, List.set_cons_succ])
    refine wpAnyH_ready (rs := [3]) (by kernel_rfl) (by simp) ?_
    refine (AllReadyH.cons (o := ?o2_9_3) ?i2_9_3 (fun K hK => ?st2_9_3) AllReadyH.nil)
    case i2_9_3 => simp only [List.getElem?_toArray, List.getElem?_cons_succ, List.getElem?_cons_zero]; rfl
    rw [if_pos (by rfl)]
    go_simp
    refine (HS.out _).out.mono ?_
    rintro r w3 ⟨rfl, rfl⟩
    go_wp2_with fail
    refine hK.out _ _ ?s2_9_3 (fun hS => ?_)
    case s2_9_3 => (exact hS)
    clear hK K
    (try simp only [Act.put, List.setIfInBounds_toArray, List.set_cons_zero, List.set_cons_succ])
    refine wpAnyH_take (i := 4) (oi := ?o2_4_10) (v := ?v2_4_10) ?i2_4_10 (by kernel_rfl) (by kernel_rfl) (by kernel_rfl) (fun _ _ _ h => h) (Or.inl ⟨?g2_4_10, ?y2_4_10⟩) hS ?_
    case i2_4_10 => simp only [List.getElem?_toArray, List.getElem?_cons_succ, List.getElem?_cons_zero]; rfl
    case g2_4_10 => rfl
    case y2_4_10 => (intro w hSw; (go_simp <;> with_reducible rfl))
    (try simp only [Act.put, List.setIfInBounds_toArray, List.set_cons_zero, List.set_cons_succ])
    refine wpAnyH_ready (rs := [5]) (by kernel_rfl) (by simp) ?_
    refine (AllReadyH.cons (o := ?o2_11_5) ?i2_11_5 (fun K hK => ?st2_11_5) AllReadyH.nil)
    case i2_11_5 => simp only [List.getElem?_toArray, List.getElem?_cons_succ, List.getElem?_cons_zero]; rfl
    rw [if_pos (by rfl)]
    have hwk := HWK.out
    go_simp
    clear hwk
    refine (HG.out _).out.mono ?_
    rintro r w5 ⟨rfl, hb5⟩
    go_wp2_with fail
    refine hK.out _ _ ?s2_11_5 (fun hS => ?_)
    case s2_11_5 => (exact hS)
    clear hK K
    (try simp only [Act.put, List.setIfInBounds_toArray, List.set_cons_zero, List.set_cons_succ])
    refine wpAnyH_take (i := 11) (oi := ?o2_11_12) (v := ?v2_11_12) ?i2_11_12 (by kernel_rfl) (by kernel_rfl) (by kernel_rfl) (fun _ _ _ h => h) (Or.inl ⟨?g2_11_12, ?y2_11_12⟩) hS ?_
    case i2_11_12 => simp only [List.getElem?_toArray, List.getElem?_cons_succ, List.getElem?_cons_zero]; rfl
    case g2_11_12 => rfl
    case y2_11_12 => (intro w hSw; (go_simp <;> with_reducible rfl))
    (try simp only [Act.put, List.setIfInBounds_toArray, List.set_cons_zero, List.set_cons_succ])
    refine wpAnyH_done (by kernel_rfl) ?_ _
    refine NoPanic.normal ?_
    go_wp2
    go_ret3
    exact (HP.out _).out ((Below.refl _ _).drew.trans (hb5.mono (Nat.le_refl _)))

end Go.Proofs.YtepcaaejadeklaaDoor
