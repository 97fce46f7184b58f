/-
  Records and rows of them: what Get and All make of them, whole, cut off, and turned. Nothing of the program.
-/
import Derived.Test.YtepcaaejadeklaaDoorFrmAll
namespace Go.Proofs.YtepcaaejadeklaaDoor
open Go.RowKit

/-- A record is got, whatever follows. -/
theorem getF_frm (x r : List UInt8) (h : x.length ≤ 8192) : getF (frm x ++ r) = (x, (frm x).length, 0) := by
  obtain ⟨P, hP⟩ : ∃ P, P = encV 9 x.length := ⟨_, rfl⟩
  obtain ⟨G, hG⟩ : ∃ G, G = bigB (crc (P ++ x)) 4 := ⟨_, rfl⟩
  have hGl : G.length = 4 := by rw [hG, bigB_length]
  have hf : frm x = (P ++ x) ++ G := by unfold frm; rw [hG, hP]
  have hfl : (frm x).length = P.length + x.length + 4 := by rw [hf, List.length_append, List.length_append, hGl]
  have hV : getV (frm x ++ r) = (x.length, P.length, 0) := by
    rw [hf, List.append_assoc, List.append_assoc, hP]
    exact getV_enc x.length (by omega) _
  have hT : (frm x ++ r).take (P.length + x.length) = P ++ x := by
    rw [hf, List.append_assoc, List.take_left' (by rw [List.length_append])]
  have hU : ((frm x ++ r).drop (P.length + x.length)).take 4 = G := by
    rw [hf, List.append_assoc, List.drop_left' (by rw [List.length_append]), List.take_left' hGl]
  unfold getF
  rw [hV]
  simp only
  rw [if_neg (by simp), if_neg (by omega), if_neg (by rw [List.length_append, hfl]; omega), hT, hU, if_neg (by simp [hG]), List.drop_left' rfl, hfl]

theorem frm_ne (x : List UInt8) : frm x ≠ [] := by
  intro h
  have := frm_length x
  rw [h] at this
  simp at this
theorem recs_frm (x r : List UInt8) (h : x.length ≤ 8192) : recs (frm x ++ r) = (x :: (recs r).1, (frm x).length + (recs r).2.1, (recs r).2.2) := by
  have := recs_ok (s := frm x ++ r) (by simp [frm_ne]) (getF_frm x r h)
  rwa [List.drop_left' rfl] at this

/-- A record cut off is short. -/
theorem getF_cut (x : List UInt8) (k : Nat) (h : x.length ≤ 8192) (hk : k < (frm x).length) : getF ((frm x).take k) = ([], 0, 10) := by
  obtain ⟨P, hP⟩ : ∃ P, P = encV 9 x.length := ⟨_, rfl⟩
  obtain ⟨G, hG⟩ : ∃ G, G = bigB (crc (P ++ x)) 4 := ⟨_, rfl⟩
  have hGl : G.length = 4 := by rw [hG, bigB_length]
  have hf : frm x = P ++ (x ++ G) := by unfold frm; rw [hG, hP, List.append_assoc]
  have hfl : (frm x).length = P.length + x.length + 4 := by rw [hf, List.length_append, List.length_append, hGl]; omega
  have hP2 : P.length ≤ 2 := by
    have h1 := enc_mono 9 x.length 8192 h
    have h2 : (encV 9 8192).length = 2 := by decide
    rw [hP]; omega
  have hP1 : 1 ≤ P.length := by rw [hP]; exact (encV_length 9 _).1
  by_cases hc : P.length ≤ k
  · have hV : getV ((frm x).take k) = (x.length, P.length, 0) := by
      have : (frm x).take k = P ++ (x ++ G).take (k - P.length) := by rw [hf, List.take_append, List.take_of_length_le hc]
      rw [this, hP]
      exact getV_enc x.length (by omega) _
    unfold getF
    rw [hV]
    simp only
    rw [if_neg (by simp), if_neg (by omega), if_pos (by rw [List.length_take]; omega)]
  · have hV : getV ((frm x).take k) = (0, 0, 10) := by
      have h1 : (frm x).take k = P.take k := by rw [hf, List.take_append_of_le_length (by omega)]
      rw [h1]
      rcases Nat.eq_zero_or_pos k with rfl | hk0
      · rw [List.take_zero]; rfl
      · have h2 : P.take k = P.dropLast := by rw [List.dropLast_eq_take]; congr 1; omega
        rw [h2, hP]
        exact getV_short x.length (by omega)
    unfold getF
    rw [hV]
    simp

/-- Records one behind the other. -/
def frms (l : List (List UInt8)) : List UInt8 := l.flatMap frm
theorem frms_cons (x : List UInt8) (l : List (List UInt8)) : frms (x :: l) = frm x ++ frms l := rfl
theorem frms_snoc (l : List (List UInt8)) (x : List UInt8) : frms (l ++ [x]) = frms l ++ frm x := by unfold frms; rw [List.flatMap_append]; simp
theorem recs_frms (l : List (List UInt8)) (h : ∀ x ∈ l, x.length ≤ 8192) : recs (frms l) = (l, (frms l).length, 0) := by
  induction l with
  | nil => rfl
  | cons x l ih =>
    rw [frms_cons, recs_frm x _ (h x (by simp)), ih (fun y hy => h y (by simp [hy])), List.length_append]
/-- How many records are whole in the first k bytes, and where they end. -/
def cutF : List (List UInt8) → Nat → Nat × Nat
  | [], _ => (0, 0)
  | x :: l, k => if (frm x).length ≤ k then (1 + (cutF l (k - (frm x).length)).1, (frm x).length + (cutF l (k - (frm x).length)).2) else (0, 0)
theorem recs_take (l : List (List UInt8)) : ∀ k, (∀ x ∈ l, x.length ≤ 8192) → k ≤ (frms l).length → recs ((frms l).take k) = (l.take (cutF l k).1, (cutF l k).2, if (cutF l k).2 = k then 0 else 10) := by
  induction l with
  | nil =>
    intro k _ hk
    have : k = 0 := by simpa [frms] using hk
    subst this
    rfl
  | cons x l ih =>
    intro k h hk
    rw [frms_cons, List.length_append] at hk
    by_cases hc : (frm x).length ≤ k
    · have h1 : (frms (x :: l)).take k = frm x ++ (frms l).take (k - (frm x).length) := by rw [frms_cons, List.take_append, List.take_of_length_le hc]
      rw [h1, recs_frm x _ (h x (by simp)), ih (k - (frm x).length) (fun y hy => h y (by simp [hy])) (by omega)]
      have h2 : cutF (x :: l) k = (1 + (cutF l (k - (frm x).length)).1, (frm x).length + (cutF l (k - (frm x).length)).2) := by rw [cutF, if_pos hc]
      rw [h2]
      simp only
      congr 1
      · rw [Nat.add_comm 1, List.take_succ_cons]
      · congr 1
        by_cases hq : (cutF l (k - (frm x).length)).2 = k - (frm x).length
        · rw [if_pos hq, if_pos (by omega)]
        · rw [if_neg hq, if_neg (by omega)]
    · have h2 : cutF (x :: l) k = (0, 0) := by rw [cutF, if_neg hc]
      have h1 : (frms (x :: l)).take k = (frm x).take k := by rw [frms_cons, List.take_append_of_le_length (by omega)]
      rw [h1, h2]
      rcases Nat.eq_zero_or_pos k with rfl | hk0
      · rfl
      · have hne : (frm x).take k ≠ [] := by
          intro he
          have : ((frm x).take k).length = 0 := by rw [he]; rfl
          rw [List.length_take] at this
          omega
        rw [recs_err hne (getF_cut x k (h x (by simp)) (by omega)) (by decide), if_neg (by simp only; omega)]
        rfl
theorem cutF_eq (l : List (List UInt8)) : ∀ (k i : Nat), i ≤ l.length → (frms (l.take i)).length ≤ k → (i < l.length → k < (frms (l.take (i + 1))).length) → cutF l k = (i, (frms (l.take i)).length) := by
  induction l with
  | nil =>
    intro k i hi _ _
    have : i = 0 := by simpa using hi
    subst this
    rfl
  | cons x l ih =>
    intro k i hi h1 h2
    cases i with
    | zero =>
      have h := h2 (by simp)
      rw [List.take_succ_cons, List.take_zero, frms_cons, List.length_append] at h
      have h0 : (frms ([] : List (List UInt8))).length = 0 := rfl
      rw [cutF, if_neg (by omega)]
      rfl
    | succ i =>
      rw [List.take_succ_cons, frms_cons, List.length_append] at h1
      have h3 := ih (k - (frm x).length) i (by simpa using hi) (by omega) (fun hlt => by
        have h := h2 (by simpa using hlt)
        rw [List.take_succ_cons, frms_cons, List.length_append] at h
        omega)
      rw [cutF, if_pos (by omega), h3, List.take_succ_cons, frms_cons, List.length_append, Nat.add_comm 1]

end Go.Proofs.YtepcaaejadeklaaDoor
