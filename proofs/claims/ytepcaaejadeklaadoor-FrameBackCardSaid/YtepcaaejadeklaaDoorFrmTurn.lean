/-
  Records turned in some bits. Nothing of the program.
-/
import Derived.Test.YtepcaaejadeklaaDoorFrmMath
namespace Go.Proofs.YtepcaaejadeklaaDoor
open Go.RowKit

theorem lowB_cons (a : UInt8) (l : List UInt8) : lowB (a :: l) = a.toNat ^^^ (lowB l <<< 8) := rfl
theorem lowB_set (b : UInt8) (D : List UInt8) : ∀ j, j < D.length → lowB (D.set j (D.getD j 0 ^^^ b)) = lowB D ^^^ (b.toNat <<< (8 * j)) := by
  induction D with
  | nil => intro j hj; simp at hj
  | cons a l ih =>
    intro j hj
    cases j with
    | zero =>
      simp only [List.set_cons_zero, List.getD_cons_zero, lowB_cons, UInt8.toNat_xor, Nat.mul_zero, Nat.shiftLeft_zero]
      rw [Nat.xor_assoc, Nat.xor_assoc, Nat.xor_comm b.toNat]
    | succ j =>
      simp only [List.set_cons_succ, List.getD_cons_succ, lowB_cons]
      rw [ih j (by simpa using hj), Nat.shiftLeft_xor_distrib, ← Nat.shiftLeft_add, ← Nat.xor_assoc, show 8 * j + 8 = 8 * (j + 1) by omega]
theorem xorL_set (b : UInt8) (T : List UInt8) : ∀ (D : List UInt8) (j : Nat), T.length = D.length → xorL T (D.set j (D.getD j 0 ^^^ b)) = (xorL T D).set j ((xorL T D).getD j 0 ^^^ b) := by
  induction T with
  | nil => intro D j _; simp [xorL]
  | cons t T ih =>
    intro D j h
    cases D with
    | nil => simp at h
    | cons d D =>
      cases j with
      | zero =>
        simp only [List.set_cons_zero, List.getD_cons_zero, xorL]
        rw [UInt8.xor_assoc]
      | succ j =>
        simp only [List.set_cons_succ, List.getD_cons_succ, xorL]
        rw [ih D j (by simpa using h)]
theorem xorL_zeros (T : List UInt8) : xorL T (List.replicate T.length 0) = T := by
  induction T with
  | nil => rfl
  | cons t T ih => rw [List.length_cons, List.replicate_succ, xorL, ih]; simp
theorem lowB_zeros (n : Nat) : lowB (List.replicate n 0) = 0 := by
  induction n with
  | zero => rfl
  | succ n ih => rw [List.replicate_succ, lowB_cons, ih]; rfl

/-- The bits turned after i rounds, where at most M may be. -/
def trn (turn M i : Nat) : Nat := turn % 2 ^ (min i M)
theorem trn_zero (turn M : Nat) : trn turn M 0 = 0 := by unfold trn; rw [Nat.zero_min, Nat.pow_zero, Nat.mod_one]
theorem trn_out (turn M i : Nat) (h : ¬ i < M) : trn turn M (i + 1) = trn turn M i := by unfold trn; rw [show min (i + 1) M = min i M by omega]
theorem trn_step (turn M i : Nat) (h : i < M) : trn turn M (i + 1) = trn turn M i ^^^ (if turn / 2 ^ i % 2 = 1 then 1 <<< i else 0) := by
  unfold trn
  rw [show min (i + 1) M = i + 1 by omega, show min i M = i by omega]
  have hb : turn.testBit i = decide (turn / 2 ^ i % 2 = 1) := by rw [Nat.testBit_eq_decide_div_mod_eq]
  apply Nat.eq_of_testBit_eq
  intro t
  rw [Nat.testBit_xor, Nat.testBit_mod_two_pow, Nat.testBit_mod_two_pow]
  by_cases h1 : turn / 2 ^ i % 2 = 1
  · rw [if_pos h1, Nat.testBit_shiftLeft]
    rw [decide_eq_true h1] at hb
    by_cases ht : t = i
    · subst ht
      simp [hb]
    · have h2 : (decide (t ≥ i) && Nat.testBit 1 (t - i)) = false := by
        by_cases h3 : i ≤ t
        · have h5 : Nat.testBit 1 (t - i) = false := by
            obtain ⟨q, hq⟩ : ∃ q, t - i = q + 1 := ⟨t - i - 1, by omega⟩
            rw [hq, Nat.testBit_succ]
            simp
          rw [h5, Bool.and_false]
        · simp [h3]
      rw [h2, Bool.xor_false, show decide (t < i + 1) = decide (t < i) from decide_eq_decide.2 (by omega)]
  · rw [if_neg h1, Nat.zero_testBit, Bool.xor_false]
    rw [decide_eq_false h1] at hb
    by_cases ht : t = i
    · subst ht
      simp [hb]
    · rw [show decide (t < i + 1) = decide (t < i) from decide_eq_decide.2 (by omega)]
theorem trn_off (turn M i : Nat) (h1 : turn / 2 ^ i % 2 ≠ 1) : trn turn M (i + 1) = trn turn M i := by
  by_cases h : i < M
  · rw [trn_step _ _ _ h, if_neg h1, Nat.xor_zero]
  · exact trn_out _ _ _ h
theorem trn_on (turn M i : Nat) (h : i < M) (h1 : turn / 2 ^ i % 2 = 1) : trn turn M (i + 1) = trn turn M i ^^^ 1 <<< i ∧ trn turn M (i + 1) ≠ 0 := by
  have hs := trn_step turn M i h
  rw [if_pos h1] at hs
  refine ⟨hs, fun h0 => ?_⟩
  have hb : turn.testBit i = true := by rw [Nat.testBit_eq_decide_div_mod_eq, decide_eq_true h1]
  have : (trn turn M (i + 1)).testBit i = true := by
    unfold trn
    rw [Nat.testBit_mod_two_pow, hb, show min (i + 1) M = i + 1 by omega]
    simp
  rw [h0, Nat.zero_testBit] at this
  exact absurd this (by decide)
theorem trn_lt (turn M i : Nat) (h : i ≤ 32) : trn turn M i < 4294967296 := by
  unfold trn
  have h1 : turn % 2 ^ min i M < 2 ^ min i M := Nat.mod_lt _ (Nat.pow_pos (by decide))
  have h2 : (2 : Nat) ^ min i M ≤ 2 ^ 32 := Nat.pow_le_pow_right (by decide) (by omega)
  have h3 : (2 : Nat) ^ 32 = 4294967296 := by decide
  omega
/-- A turned bit, as a byte's. -/
theorem bit_byte (k : Nat) : (UInt8.ofNat (2 ^ (k % 8))).toNat <<< (8 * (k / 8)) = 1 <<< k := by
  have hlt : (2 : Nat) ^ (k % 8) < 256 := by
    have h1 : (2 : Nat) ^ (k % 8) ≤ 2 ^ 7 := Nat.pow_le_pow_right (by decide) (by omega)
    have h2 : (2 : Nat) ^ 7 = 128 := by decide
    omega
  rw [ofNat_toNat, Nat.mod_eq_of_lt hlt, Nat.shiftLeft_eq, Nat.shiftLeft_eq, Nat.one_mul, ← Nat.pow_add]
  congr 1
  omega

/-- Bytes that are others in some bits: what is turned, as a number, is E from a bit on. -/
def Turned (T T' : List UInt8) (E bit : Nat) : Prop := ∃ D, T.length = D.length ∧ T' = xorL T D ∧ lowB D = E <<< bit
theorem Turned.zero (T : List UInt8) (bit : Nat) : Turned T T 0 bit := ⟨List.replicate T.length 0, by simp, (xorL_zeros T).symm, by rw [lowB_zeros, Nat.zero_shiftLeft]⟩
theorem Turned.length {T T' : List UInt8} {E bit : Nat} (h : Turned T T' E bit) : T'.length = T.length := by
  obtain ⟨D, h1, rfl, _⟩ := h
  exact xorL_length T D h1
theorem Turned.step {T T' : List UInt8} {E bit i : Nat} (h : Turned T T' E bit) (hi : (bit + i) / 8 < T.length) :
    Turned T (T'.set ((bit + i) / 8) (T'.getD ((bit + i) / 8) 0 ^^^ UInt8.ofNat (2 ^ ((bit + i) % 8)))) (E ^^^ 1 <<< i) bit := by
  obtain ⟨D, h1, rfl, h2⟩ := h
  refine ⟨D.set ((bit + i) / 8) (D.getD ((bit + i) / 8) 0 ^^^ UInt8.ofNat (2 ^ ((bit + i) % 8))), by rw [List.length_set]; exact h1, (xorL_set _ T D _ h1).symm, ?_⟩
  rw [lowB_set _ D _ (by omega), h2, bit_byte, Nat.shiftLeft_xor_distrib, ← Nat.shiftLeft_add, Nat.add_comm bit i]
theorem Turned.head {T T' : List UInt8} {E bit : Nat} (h : Turned T T' E bit) (hb : 8 ≤ bit) : T'.take 1 = T.take 1 := by
  obtain ⟨D, h1, rfl, h2⟩ := h
  cases T with
  | nil => rfl
  | cons t T =>
    cases D with
    | nil => simp at h1
    | cons d D =>
      have hd : d.toNat = 0 := by
        have h3 : lowB (d :: D) % 256 = d.toNat := by
          rw [lowB_cons]
          have h4 := Nat.xor_mod_two_pow (a := d.toNat) (b := lowB D <<< 8) (n := 8)
          have h5 : lowB D <<< 8 % 2 ^ 8 = 0 := by rw [Nat.shiftLeft_eq]; exact Nat.mul_mod_left _ _
          rw [h5, Nat.xor_zero] at h4
          have h6 : (2 : Nat) ^ 8 = 256 := by decide
          rw [h6] at h4
          rw [h4]
          exact Nat.mod_eq_of_lt d.toNat_lt
        have h7 : E <<< bit % 256 = 0 := by
          rw [Nat.shiftLeft_eq, show bit = 8 + (bit - 8) by omega, Nat.pow_add, Nat.mul_left_comm]
          exact Nat.mul_mod_right _ _
        rw [← h3, h2, h7]
      have hd0 : d = 0 := UInt8.toNat_inj.1 hd
      subst hd0
      simp [xorL]
/-- A record turned within 32 bits, behind its length and ahead of its sum, is none. -/
theorem getF_turned (x T' : List UInt8) (E bit : Nat) (hx : x.length ≤ 127) (h : Turned (encV 9 x.length ++ x) T' E bit) (h8 : 8 ≤ bit) (hE : E < 4294967296) (h0 : E ≠ 0) (hbit : bit ≤ 8 + 8 * x.length) :
    getF (T' ++ bigB (crc (encV 9 x.length ++ x)) 4) = ([], 0, 12) := by
  have hP : encV 9 x.length = [UInt8.ofNat x.length] := encV_small 9 _ (by omega)
  have hl := h.length
  have hh := h.head h8
  obtain ⟨T, hT⟩ : ∃ T, T = encV 9 x.length ++ x := ⟨_, rfl⟩
  rw [← hT] at h hl hh ⊢
  have hTl : T.length = 1 + x.length := by rw [hT, hP, List.length_append]; rfl
  have hT1 : T'.take 1 = encV 9 x.length := by rw [hh, hT, hP]; rfl
  have hV : getV (T' ++ bigB (crc T) 4) = (x.length, 1, 0) := by
    have h1 : T' ++ bigB (crc T) 4 = encV 9 x.length ++ (T'.drop 1 ++ bigB (crc T) 4) := by rw [← hT1, ← List.append_assoc, List.take_append_drop]
    rw [h1, getV_enc x.length (by omega), hP]
    rfl
  have hne : crc T' ≠ crc T := by
    obtain ⟨D, d1, d2, d3⟩ := h
    have h1 := crL_turn T T' D E bit d1 d2 d3 hE h0 (by omega) 4294967295
    have l1 := crL_lt T' (show 4294967295 < 4294967296 by decide)
    have l2 := crL_lt T (show 4294967295 < 4294967296 by decide)
    unfold crc
    omega
  have hbn : bigB (crc T') 4 ≠ bigB (crc T) 4 := by
    intro e
    have h1 := congrArg valB e
    rw [valB_bigB, valB_bigB] at h1
    have l1 := crc_lt T'
    have l2 := crc_lt T
    have h256 : (256 : Nat) ^ 4 = 4294967296 := by decide
    rw [h256, Nat.mod_eq_of_lt l1, Nat.mod_eq_of_lt l2] at h1
    exact hne h1
  unfold getF
  rw [hV]
  simp only
  have hTx : T'.length = 1 + x.length := by omega
  rw [if_neg (by simp), if_neg (by omega), if_neg (by rw [List.length_append, bigB_length]; omega), List.take_left' hTx, List.drop_left' hTx, List.take_of_length_le (by rw [bigB_length]; decide), if_pos hbn]

end Go.Proofs.YtepcaaejadeklaaDoor
