/-
  What package frame's Get answers, where its package-level table holds what the program's text lays; the library's bytes.Equal and bytes.Clone. No condition but those of each theorem.
-/
import Derived.Test.YtepcaaejadeklaaDoorFrmFnA
import Derived.Test.YtepcaaejadeklaaDoorOctI
import Derived.Test.YtepcaaejadeklaaDoorVarC
import Derived.Test.YtepcaaejadeklaaDoorVarRefC
import Derived.Lib.SliceRun
import Derived.Deep.Onto
namespace Go.Proofs.YtepcaaejadeklaaDoor
open Go.RowKit
set_option linter.unusedSimpArgs false

theorem bytesEq_any (a b : List UInt8) (w : World) (d e : Nat) (u v : Value) (hu : Rd w d u a) (hv : Rd w e v b) :
    Calls Tryd.prog 25 #[u, v] w fun r w' => r = .returned (.bool (decide (a = b))) ∧ w = w' := by
  have c1 := str_of hu
  have c2 := str_of hv
  obtain ⟨A, c, rfl⟩ := hu.shape4
  obtain ⟨B, k, rfl⟩ := hv.shape4
  have e1 : (ByteArray.mk a.toArray).toList = a := txt_toList a
  have e2 : (ByteArray.mk b.toArray).toList = b := txt_toList b
  have HE : Hid ((a == b) = decide (a = b)) := Lib.hid (by
    by_cases h : a = b
    · simp [h]
    · simp [h])
  clear hu hv
  go_enter Tryd.func25, Tryd.ntmps25
  go_wp2
  go_ret
  exact ⟨by rw [← HE.out]; rfl, rfl⟩

def CloneP (l : List UInt8) (w : World) (r : Ending) (w' : World) : Prop := ∃ v, r = .returned v ∧ Own w' w.heap.size v l ∧ Below w.heap.size w w'
set_option maxRecDepth 100000 in
theorem clone_any (l : List UInt8) (w : World) (d : Nat) (v : Value) (hr : Rd w d v l) : Calls Tryd.prog 26 #[v] w (CloneP l w) := by
  obtain ⟨A, c, rfl⟩ := hr.shape4
  have q22 := fun (w : World) => Lib.run_eql_slice_nil (P := Tryd.prog) w 22 5 A l.length c 0 0 Tryd.underlying22
  have u22 : ∀ w, Sem.run Tryd.prog (underlying 22) w = .ok (TypeDesc.slice 5) w := run_underlying Tryd.underlying22
  cases A with
  | none =>
    have h0 : l = [] := by
      obtain ⟨A', c', e, h1, h2, h3⟩ := hr
      injection e with e1 e2 e3
      rcases Nat.eq_zero_or_pos l.length with h | h
      · exact List.eq_nil_of_length_eq_zero h
      · obtain ⟨off, h4, _⟩ := h3 h
        rw [← e1] at h4
        cases h4
    have HP : Hid (CloneP l w (.returned (.slice none 0 0)) w) := Lib.hid ⟨_, rfl, by rw [h0]; exact Own.nil _ _, Below.refl _ _⟩
    clear hr h0
    go_enter Tryd.func26, Tryd.ntmps26
    go_wp2
    go_ret
    exact HP.out
  | some x =>
    have hl := hr.len
    have hr1 := hr.alloc (.cells #[] 5)
    have hown : Own (w.alloc (.cells #[] 5)) w.heap.size (.slice (some ⟨w.heap.size, 0, none⟩) 0 0) [] := World.ownsRow_made w #[] 0 (Nat.le_refl _) (Nat.zero_le _) rfl
    have hb0 : Below w.heap.size w (w.alloc (.cells #[] 5)) := (Below.refl _ _).alloc (Nat.le_refl _) _
    have hs0 := hb0.size
    go_enter Tryd.func26, Tryd.ntmps26
    go_wp2_with (at_builtin; refine wpList_append_rd rfl (.tmp 5) (.tmp 6) rfl rfl w.heap.size _ [] rfl hown _ _ l rfl hr1 ?h1 ?h2 ?_)
    case h1 => simp; omega
    case h2 => exact hs0
    intro v' w' hap
    have hb1 := hap.below hown hs0
    have HP : Hid (CloneP l w (.returned v') w') := Lib.hid ⟨_, rfl, hap.1, hb0.trans hb1⟩
    clear hap hb1 hown hr hr1 hb0 hs0 hl q22
    go_wp2
    go_ret
    exact HP.out

theorem Own.mono {w : World} {base base' : Nat} {v : Value} {l : List UInt8} (h : Own w base v l) (hb : base' ≤ base) : Own w base' v l := World.ownsRow.mono h hb

/-- What Get hands back is the call's own. -/
def GetO (x : List UInt8 × Nat × Int) (w : World) (r : Ending) (w' : World) : Prop := ∃ v, r = .returned (.tuple #[v, .int .i64 (x.2.1 : Int), .int .i64 x.2.2]) ∧ Own w' w.heap.size v x.1 ∧ Below w.heap.size w w'

set_option maxRecDepth 100000 in
set_option maxHeartbeats 1000000 in
theorem getO_any (l : List UInt8) (w : World) (d : Nat) (v : Value) (hT : Tab w) (hr : Rd w d v l) : Calls Tryd.prog 12 #[v] w (GetO (getF l) w) := by
  have HG := Lib.hid (get_any d v l w hr)
  obtain ⟨A, c, rfl⟩ := hr.shape4
  obtain ⟨X, n, e, hV⟩ : ∃ X n e, getV l = (X, n, e) := ⟨_, _, _, rfl⟩
  have hle := getV_le l
  have hF : getF l = if e ≠ 0 then ([], 0, e)
      else if 8192 < X then ([], 0, 14)
      else if l.length < n + X + 4 then ([], 0, 10)
      else if bigB (crc (l.take (n + X))) 4 ≠ (l.drop (n + X)).take 4 then ([], 0, 12)
      else ((l.take (n + X)).drop n, n + X + 4, 0) := by unfold getF; rw [hV]
  rw [hV] at HG hle
  unfold outV at HG
  simp only at hle
  obtain ⟨R, hR⟩ : ∃ R, R = getF l := ⟨_, rfl⟩
  rw [← hR] at hF ⊢
  have bad : ∀ (k : Int), R = ([], 0, k) → Hid (GetO R w (.returned (.tuple #[.slice none 0 0, .int .i64 0, .int .i64 k])) w) := fun k h => Lib.hid ⟨_, by rw [h]; rfl, by rw [h]; exact Own.nil _ _, Below.refl _ _⟩
  clear hV
  by_cases h1 : e ≠ 0
  · have HP := bad e (by rw [hF, if_pos h1])
    have hb : (e != 0) = true := by simpa using h1
    clear h1 hF bad hR hT hr hle
    go_enter Tryd.func12, Tryd.ntmps12
    go_wp2_with fail
    refine HG.out.mono ?_
    rintro r w' ⟨rfl, rfl⟩
    go_wp2
    go_ret3
    exact HP.out
  have h1' : e = 0 := Decidable.not_not.1 h1
  subst h1'
  rw [if_neg h1] at hF
  clear h1
  by_cases h2 : 8192 < X
  · have HP := bad 14 (by rw [hF, if_pos h2])
    have hb : decide ((8192 : Int) < (X : Int)) = true := decide_eq_true (by omega)
    clear h2 hF bad hR hT hr hle
    go_enter Tryd.func12, Tryd.ntmps12
    go_wp2_with fail
    refine HG.out.mono ?_
    rintro r w' ⟨rfl, rfl⟩
    go_wp2
    go_ret3
    exact HP.out
  rw [if_neg h2] at hF
  have hb2 : decide ((8192 : Int) < (X : Int)) = false := decide_eq_false (by omega)
  obtain ⟨m, hm⟩ : ∃ m, m = n + X := ⟨_, rfl⟩
  rw [← hm] at hF
  have hmI : (n : Int) + (X : Int) = (m : Int) := by omega
  have hX8 : X ≤ 8192 := by omega
  have hnm : n ≤ m := by omega
  have hm9 : m ≤ 100000 := by omega
  clear h2
  by_cases h3 : l.length < m + 4
  · have HP := bad 10 (by rw [hF, if_pos h3])
    have hb : decide ((l.length : Int) < (m : Int) + 4) = true := decide_eq_true (by omega)
    clear h3 hF bad hR hT hr hle hm
    go_enter Tryd.func12, Tryd.ntmps12
    go_wp2_with fail
    refine HG.out.mono ?_
    rintro r w' ⟨rfl, rfl⟩
    go_wp2
    go_ret3
    exact HP.out
  rw [if_neg h3] at hF
  have hb3 : decide ((l.length : Int) < (m : Int) + 4) = false := decide_eq_false (by omega)
  obtain ⟨q, hq⟩ : ∃ q, q = m + 4 := ⟨_, rfl⟩
  have hqI : (m : Int) + 4 = (q : Int) := by omega
  have hb3' : decide ((l.length : Int) < (q : Int)) = false := decide_eq_false (by omega)
  have hb3n : decide (l.length < q) = false := decide_eq_false (by omega)
  obtain ⟨vs, hsl, hrs⟩ := slice_part hr m q (q : Int) rfl (by omega) (by omega)
  obtain ⟨vt, hst, hrt⟩ := slice_to hr m (m : Int) rfl (by omega)
  obtain ⟨vu, hsu, hru⟩ := slice_part hr n m (m : Int) rfl hnm (by omega)
  have ht4 : (l.take q).drop m = (l.drop m).take 4 := by rw [List.drop_take, hq, show m + 4 - m = 4 by omega]
  rw [ht4] at hrs
  have hbd : Below w.heap.size w w.drew := (Below.refl _ _).drew
  have HE := Lib.hid (end4_any (l.take m) w.drew d vt (hrt.below' hbd) (hT.below hbd))
  obtain ⟨As, cs, rfl⟩ := hrs.shape4
  obtain ⟨At, ct, rfl⟩ := hrt.shape4
  obtain ⟨Au, cu, rfl⟩ := hru.shape4
  replace hrs := hrs.below' hbd
  replace hru := hru.below' hbd
  obtain ⟨E, hE⟩ : ∃ E, E = bigB (crc (l.take m)) 4 := ⟨_, rfl⟩
  unfold EndP at HE
  rw [← hE] at hF HE
  obtain ⟨Z, hZ⟩ : ∃ Z, Z = (l.drop m).take 4 := ⟨_, rfl⟩
  have lZ : Z.length = 4 := by rw [hZ, List.length_take, List.length_drop]; omega
  obtain ⟨Y, hY⟩ : ∃ Y, Y = (l.take m).drop n := ⟨_, rfl⟩
  rw [← hZ, ← hY] at hF
  rw [← hZ] at hrs hsl
  rw [← hY] at hru hsu
  obtain ⟨lt, hlt⟩ : ∃ lt, lt = (l.take m).length := ⟨_, rfl⟩
  rw [← hlt] at hst HE
  have HF := Lib.hid hF
  have HS := Lib.hid hsl
  have HST := Lib.hid hst
  have HSU := Lib.hid hsu
  clear hF hr hT ht4 hrt hE hZ hY hlt hm hq hR hsl hst hsu h3 hb3 lZ
  go_enter Tryd.func12, Tryd.ntmps12
  go_wp2_with fail
  refine HG.out.mono ?_
  rintro r w' ⟨rfl, rfl⟩
  clear HG
  go_wp2_with fail
  have hsl := HS.out
  have hst := HST.out
  refine wp_region_noPanic ?_
  refine wp_region_held_drew (S := fun _ => True) (by kernel_rfl) trivial (fun hS => ?_)
  refine wpAnyH_take (i := 0) (oi := ?o1_0_1) (v := ?v1_0_1) ?i1_0_1 (by kernel_rfl) (by kernel_rfl) (by kernel_rfl) (fun _ _ _ h => h) (Or.inl ⟨?g1_0_1, ?y1_0_1⟩) hS ?_
  case i1_0_1 => simp only [List.getElem?_toArray, List.getElem?_cons_succ, List.getElem?_cons_zero]; rfl
  case g1_0_1 => rfl
  case y1_0_1 => (intro w hSw; (go_simp <;> with_reducible rfl))
  (try simp only [Act.put, List.setIfInBounds_toArray, List.set_cons_zero, List.set_cons_succ])
  refine wpAnyH_take (i := 1) (oi := ?o1_1_2) (v := ?v1_1_2) ?i1_1_2 (by kernel_rfl) (by kernel_rfl) (by kernel_rfl) (fun _ _ _ h => h) (Or.inl ⟨?g1_1_2, ?y1_1_2⟩) hS ?_
  case i1_1_2 => simp only [List.getElem?_toArray, List.getElem?_cons_succ, List.getElem?_cons_zero]; rfl
  case g1_1_2 => rfl
  case y1_1_2 => (intro w hSw; (go_simp <;> with_reducible rfl))
  (try simp only [Act.put, List.setIfInBounds_toArray, List.set_cons_zero, List.set_cons_succ])
  refine wpAnyH_take (i := 2) (oi := ?o1_2_3) (v := ?v1_2_3) ?i1_2_3 (by kernel_rfl) (by kernel_rfl) (by kernel_rfl) (fun _ _ _ h => h) (Or.inl ⟨?g1_2_3, ?y1_2_3⟩) hS ?_
  case i1_2_3 => simp only [List.getElem?_toArray, List.getElem?_cons_succ, List.getElem?_cons_zero]; rfl
  case g1_2_3 => rfl
  case y1_2_3 => (intro w hSw; (go_simp <;> with_reducible rfl))
  (try simp only [Act.put, List.setIfInBounds_toArray, List.set_cons_zero, List.set_cons_succ])
  refine wpAnyH_take (i := 3) (oi := ?o1_3_4) (v := ?v1_3_4) ?i1_3_4 (by kernel_rfl) (by kernel_rfl) (by kernel_rfl) (fun _ _ _ h => h) (Or.inl ⟨?g1_3_4, ?y1_3_4⟩) hS ?_
  case i1_3_4 => simp only [List.getElem?_toArray, List.getElem?_cons_succ, List.getElem?_cons_zero]; rfl
  case g1_3_4 => rfl
  case y1_3_4 => (intro w hSw; (go_simp <;> with_reducible rfl))
  (try simp only [Act.put, List.setIfInBounds_toArray, List.set_cons_zero, List.set_cons_succ])
  refine wpAnyH_take (i := 4) (oi := ?o1_4_5) (v := ?v1_4_5) ?i1_4_5 (by kernel_rfl) (by kernel_rfl) (by kernel_rfl) (fun _ _ _ h => h) (Or.inl ⟨?g1_4_5, ?y1_4_5⟩) hS ?_
  case i1_4_5 => simp only [List.getElem?_toArray, List.getElem?_cons_succ, List.getElem?_cons_zero]; rfl
  case g1_4_5 => rfl
  case y1_4_5 => (intro w hSw; (go_simp <;> with_reducible rfl))
  (try simp only [Act.put, List.setIfInBounds_toArray, List.set_cons_zero, List.set_cons_succ])
  refine wpAnyH_take (i := 5) (oi := ?o1_5_6) (v := ?v1_5_6) ?i1_5_6 (by kernel_rfl) (by kernel_rfl) (by kernel_rfl) (fun _ _ _ h => h) (Or.inl ⟨?g1_5_6, ?y1_5_6⟩) hS ?_
  case i1_5_6 => simp only [List.getElem?_toArray, List.getElem?_cons_succ, List.getElem?_cons_zero]; rfl
  case g1_5_6 => rfl
  case y1_5_6 => (intro w hSw; (go_simp <;> with_reducible rfl))
  (try simp only [Act.put, List.setIfInBounds_toArray, List.set_cons_zero, List.set_cons_succ])
  refine wpAnyH_take (i := 6) (oi := ?o1_6_7) (v := ?v1_6_7) ?i1_6_7 (by kernel_rfl) (by kernel_rfl) (by kernel_rfl) (fun _ _ _ h => h) (Or.inl ⟨?g1_6_7, ?y1_6_7⟩) hS ?_
  case i1_6_7 => simp only [List.getElem?_toArray, List.getElem?_cons_succ, List.getElem?_cons_zero]; rfl
  case g1_6_7 => rfl
  case y1_6_7 => (intro w hSw; (go_simp <;> with_reducible rfl))
  (try simp only [Act.put, List.setIfInBounds_toArray, List.set_cons_zero, List.set_cons_succ])
  refine wpAnyH_ready (rs := [7]) (by kernel_rfl) (by simp) ?_
  refine (AllReadyH.cons (o := ?o1_8_7) ?i1_8_7 (fun K hK => ?st1_8_7) AllReadyH.nil)
  case i1_8_7 => simp only [List.getElem?_toArray, List.getElem?_cons_succ, List.getElem?_cons_zero]; rfl
  rw [if_pos (by rfl)]
  go_simp
  refine HE.out.mono ?_
  rintro r w2 ⟨v2, rfl, hr2, hb2⟩
  obtain ⟨A2, c2, rfl⟩ := hr2.shape4
  have hrs2 := hrs.below' hb2
  have hru2 := hru.below' hb2
  go_wp2_with fail
  refine hK.out _ _ ?s1_8_7 (fun hS => ?_)
  case s1_8_7 => (exact hS)
  clear hK K
  (try simp only [Act.put, List.setIfInBounds_toArray, List.set_cons_zero, List.set_cons_succ])
  refine wpAnyH_ready (rs := [8]) (by kernel_rfl) (by simp) ?_
  refine (AllReadyH.cons (o := ?o1_9_8) ?i1_9_8 (fun K hK => ?st1_9_8) AllReadyH.nil)
  case i1_9_8 => simp only [List.getElem?_toArray, List.getElem?_cons_succ, List.getElem?_cons_zero]; rfl
  rw [if_pos (by rfl)]
  go_simp
  refine (bytesEq_any Z E _ _ _ _ _ hrs2 hr2).mono ?_
  rintro r w3 ⟨rfl, rfl⟩
  go_wp2_with fail
  refine hK.out _ _ ?s1_9_8 (fun hS => ?_)
  case s1_9_8 => (exact hS)
  clear hK K
  (try simp only [Act.put, List.setIfInBounds_toArray, List.set_cons_zero, List.set_cons_succ])
  refine wpAnyH_take (i := 9) (oi := ?o1_9_10) (v := ?v1_9_10) ?i1_9_10 (by kernel_rfl) (by kernel_rfl) (by kernel_rfl) (fun _ _ _ h => h) (Or.inl ⟨?g1_9_10, ?y1_9_10⟩) hS ?_
  case i1_9_10 => simp only [List.getElem?_toArray, List.getElem?_cons_succ, List.getElem?_cons_zero]; rfl
  case g1_9_10 => rfl
  case y1_9_10 => (intro w hSw; (go_simp <;> with_reducible rfl))
  (try simp only [Act.put, List.setIfInBounds_toArray, List.set_cons_zero, List.set_cons_succ])
  refine wpAnyH_done (by kernel_rfl) ?_ _
  refine NoPanic.normal ?_
  have hB2 : Below w.heap.size w w2 := hbd.trans hb2
  clear hb2 hbd hrs hrs2 hru hr2 hsl hst HS HST HE
  by_cases hZE : Z = E
  · rw [decide_eq_true hZE]
    have hF := HF.out
    rw [if_neg (by intro h; exact h hZE.symm)] at hF
    have hsu := HSU.out
    have HP : ∀ v' w', Own w' w2.heap.size v' Y → Below w2.heap.size w2 w' → Hid (GetO R w (.returned (.tuple #[v', .int .i64 (q : Int), .int .i64 0])) w') := fun v' w' h1 h2 => Lib.hid ⟨_, by rw [hF]; rw [← hqI]; rfl, by rw [hF]; exact h1.mono hB2.size, hB2.trans (h2.mono hB2.size)⟩
    have HPP := Lib.hid HP
    clear hF hZE HF HSU bad HP hqI
    go_wp2_with fail
    refine (clone_any Y _ _ _ hru2).mono ?_
    rintro r w3 ⟨v3, rfl, ho3, hb3⟩
    have HQ := HPP.out _ _ ho3 hb3
    clear ho3 hb3 hru2 hsu HPP
    go_wp2
    go_ret3
    exact HQ.out
  · rw [decide_eq_false hZE]
    have hF := HF.out
    rw [if_pos (by intro h; exact hZE h.symm)] at hF
    have HP : Hid (GetO R w (.returned (.tuple #[.slice none 0 0, .int .i64 0, .int .i64 12])) w2) := Lib.hid ⟨_, by rw [hF]; rfl, by rw [hF]; exact Own.nil _ _, hB2⟩
    clear hF hZE HF HSU bad hru2
    go_wp2
    go_ret3
    exact HP.out

theorem getF_any (W0 : World) (hT0 : Tab W0) : GetFC W0 := by
  intro l w d v hB hr hl
  refine (getO_any l w d v (hT0.below hB) hr).mono fun r w' ⟨v', h1, h2, h3⟩ => ?_
  have hx := getF_len l
  obtain ⟨d', -, -, hrd⟩ := h2.rd (by omega)
  exact ⟨v', d', h1, hrd, h3⟩

end Go.Proofs.YtepcaaejadeklaaDoor
