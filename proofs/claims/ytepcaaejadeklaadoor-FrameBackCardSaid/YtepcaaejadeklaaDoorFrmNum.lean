/-
  Sums of bytes, bit by bit (layer 4): no program, no condition but those of each theorem.
-/
import Derived.Test.YtepcaaejadeklaaDoorOctNum
namespace Go.Proofs.YtepcaaejadeklaaDoor

/-- Halved, and turned if it was odd. -/
def crT (x : Nat) : Nat := (x >>> 1) ^^^ (if x % 2 = 1 then 2197175160 else 0)
def crTn : Nat → Nat → Nat
  | 0, x => x
  | n + 1, x => crTn n (crT x)

theorem crTn_add (a b x : Nat) : crTn (a + b) x = crTn b (crTn a x) := by
  induction a generalizing x with
  | zero => simp [crTn]
  | succ a ih => rw [Nat.succ_add]; simp only [crTn]; exact ih (crT x)
theorem crTn_succ' (n x : Nat) : crTn (n + 1) x = crT (crTn n x) := by rw [crTn_add n 1]; rfl

theorem xor_mod2 (x y : Nat) : (x ^^^ y) % 2 = (x % 2 + y % 2) % 2 := by
  have h := Nat.testBit_xor x y 0
  rw [Nat.testBit_zero, Nat.testBit_zero, Nat.testBit_zero] at h
  rcases Nat.mod_two_eq_zero_or_one x with hx | hx <;> rcases Nat.mod_two_eq_zero_or_one y with hy | hy <;> rcases Nat.mod_two_eq_zero_or_one (x ^^^ y) with hz | hz <;> simp_all

theorem crT_xor (x y : Nat) : crT (x ^^^ y) = crT x ^^^ crT y := by
  unfold crT
  rw [Nat.shiftRight_xor_distrib, xor_mod2]
  rcases Nat.mod_two_eq_zero_or_one x with hx | hx <;> rcases Nat.mod_two_eq_zero_or_one y with hy | hy <;> rw [hx, hy] <;> simp <;> apply Nat.eq_of_testBit_eq <;> intro i <;> simp only [Nat.testBit_xor] <;> cases (x >>> 1).testBit i <;> cases (y >>> 1).testBit i <;> cases Nat.testBit 2197175160 i <;> rfl
theorem crTn_xor (n x y : Nat) : crTn n (x ^^^ y) = crTn n x ^^^ crTn n y := by
  induction n generalizing x y with
  | zero => rfl
  | succ n ih => simp only [crTn]; rw [crT_xor, ih]
theorem crT_zero : crT 0 = 0 := by decide
theorem crTn_zero (n : Nat) : crTn n 0 = 0 := by
  induction n with
  | zero => rfl
  | succ n ih => simp only [crTn, crT_zero, ih]
/-- What is moved up comes down again. -/
theorem crT_shl (x : Nat) : crT (x <<< 1) = x := by
  unfold crT
  have h : (x <<< 1) % 2 = 0 := by rw [Nat.shiftLeft_eq]; omega
  rw [h]
  simp
theorem crTn_shl (n x : Nat) : crTn n (x <<< n) = x := by
  induction n generalizing x with
  | zero => simp [crTn]
  | succ n ih =>
    simp only [crTn]
    have h : x <<< (n + 1) = (x <<< n) <<< 1 := by rw [Nat.shiftLeft_add]
    rw [h, crT_shl, ih]
theorem crT_lt {x : Nat} (h : x < 4294967296) : crT x < 4294967296 := by
  unfold crT
  have h1 : x >>> 1 < 2 ^ 32 := by rw [Nat.shiftRight_eq_div_pow]; omega
  refine Nat.xor_lt_two_pow (n := 32) h1 ?_
  split <;> decide
theorem crTn_lt (n : Nat) {x : Nat} (h : x < 4294967296) : crTn n x < 4294967296 := by
  induction n generalizing x with
  | zero => exact h
  | succ n ih => exact ih (crT_lt h)
theorem crT_ne {x : Nat} (h : x < 4294967296) (h0 : x ≠ 0) : crT x ≠ 0 := by
  unfold crT
  intro e
  by_cases hx : x % 2 = 1
  · rw [if_pos hx] at e
    have h1 : (x >>> 1).testBit 31 = false := by
      apply Nat.testBit_lt_two_pow
      rw [Nat.shiftRight_eq_div_pow]
      omega
    have h2 := congrArg (fun z => Nat.testBit z 31) e
    simp only [Nat.testBit_xor, h1, Nat.zero_testBit] at h2
    exact absurd h2 (by decide)
  · rw [if_neg hx, Nat.xor_zero, Nat.shiftRight_eq_div_pow] at e
    omega
theorem crTn_ne (n : Nat) {x : Nat} (h : x < 4294967296) (h0 : x ≠ 0) : crTn n x ≠ 0 := by
  induction n generalizing x with
  | zero => exact h0
  | succ n ih => exact ih (crT_lt h) (crT_ne h h0)
/-- Some steps at once: by what the low bits come to. -/
theorem crTn_low (k x : Nat) : crTn k x = (x >>> k) ^^^ crTn k (x % 2 ^ k) := by
  have h : x = ((x >>> k) <<< k) ^^^ (x % 2 ^ k) := by
    apply Nat.eq_of_testBit_eq
    intro i
    rw [Nat.testBit_xor, Nat.testBit_shiftLeft, Nat.testBit_mod_two_pow, Nat.testBit_shiftRight]
    by_cases hi : i < k
    · have hki : ¬ k ≤ i := by omega
      simp [hi, hki]
    · have h1 : k + (i - k) = i := by omega
      simp [hi, h1, show k ≤ i by omega]
  conv => lhs; rw [h]
  rw [crTn_xor, crTn_shl]

/-! ### Bytes -/
def crB (x : Nat) (b : UInt8) : Nat := crTn 8 (x ^^^ b.toNat)
def crL (x : Nat) (l : List UInt8) : Nat := l.foldl crB x
/-- The sum. -/
def crc (l : List UInt8) : Nat := 4294967295 - crL 4294967295 l
theorem crL_nil (x : Nat) : crL x [] = x := rfl
theorem crL_cons (x : Nat) (b : UInt8) (l : List UInt8) : crL x (b :: l) = crL (crB x b) l := rfl
theorem crL_snoc (x : Nat) (l : List UInt8) (b : UInt8) : crL x (l ++ [b]) = crB (crL x l) b := by simp [crL]
theorem crB_lt {x : Nat} (b : UInt8) (h : x < 4294967296) : crB x b < 4294967296 := by
  refine crTn_lt 8 ?_
  have hb : b.toNat < 2 ^ 32 := Nat.lt_of_lt_of_le b.toNat_lt (by decide)
  exact Nat.xor_lt_two_pow (n := 32) (by omega) hb
theorem crL_lt {x : Nat} (l : List UInt8) (h : x < 4294967296) : crL x l < 4294967296 := by
  induction l generalizing x with
  | nil => exact h
  | cons b l ih => rw [crL_cons]; exact ih (crB_lt b h)
theorem crc_lt (l : List UInt8) : crc l < 4294967296 := by unfold crc; omega

/-- Xored byte by byte. -/
def xorL : List UInt8 → List UInt8 → List UInt8
  | a :: l, b :: m => (a ^^^ b) :: xorL l m
  | _, _ => []
theorem xorL_length (l m : List UInt8) (h : l.length = m.length) : (xorL l m).length = l.length := by
  induction l generalizing m with
  | nil => rfl
  | cons a l ih =>
    cases m with
    | nil => simp at h
    | cons b m => simp only [xorL, List.length_cons]; rw [ih m (by simpa using h)]
theorem crL_xor (l m : List UInt8) (h : l.length = m.length) (x y : Nat) : crL (x ^^^ y) (xorL l m) = crL x l ^^^ crL y m := by
  induction l generalizing m x y with
  | nil => cases m with
    | nil => rfl
    | cons b m => simp at h
  | cons a l ih =>
    cases m with
    | nil => simp at h
    | cons b m =>
      simp only [xorL]
      rw [crL_cons, crL_cons, crL_cons, ← ih m (by simpa using h)]
      congr 1
      unfold crB
      rw [← crTn_xor]
      congr 1
      rw [UInt8.toNat_xor]
      apply Nat.eq_of_testBit_eq
      intro i
      simp only [Nat.testBit_xor]
      cases x.testBit i <;> cases y.testBit i <;> cases a.toNat.testBit i <;> cases b.toNat.testBit i <;> rfl

/-- The number of bytes, the lowest first. -/
def lowB : List UInt8 → Nat
  | [] => 0
  | b :: l => b.toNat ^^^ (lowB l <<< 8)
/-- From nought: as the number's bits, all at once. -/
theorem crL_low (l : List UInt8) (x : Nat) : crL x l = crTn (8 * l.length) (x ^^^ lowB l) := by
  induction l generalizing x with
  | nil => simp [crL, lowB, crTn]
  | cons b l ih =>
    rw [crL_cons, ih, List.length_cons, show 8 * (l.length + 1) = 8 + 8 * l.length by omega, crTn_add]
    congr 1
    have hl : lowB (b :: l) = b.toNat ^^^ (lowB l <<< 8) := rfl
    rw [hl]
    unfold crB
    rw [← Nat.xor_assoc, crTn_xor 8 (x ^^^ b.toNat), crTn_shl]

/-- A TURN OF 32 BITS ON END IS NOTICED: E, not nought, turned at a bit, changes the sum. -/
theorem crL_turn (l m d : List UInt8) (E bit : Nat) (h : l.length = d.length) (hm : m = xorL l d) (hd : lowB d = E <<< bit) (hE : E < 4294967296) (h0 : E ≠ 0) (hbit : bit ≤ 8 * l.length) (x : Nat) : crL x m ≠ crL x l := by
  subst hm
  have h1 : crL x (xorL l d) = crL x l ^^^ crL 0 d := by
    have := crL_xor l d h x 0
    rwa [Nat.xor_zero] at this
  have h2 : crL 0 d ≠ 0 := by
    rw [crL_low, Nat.zero_xor, hd, ← h]
    have h3 : 8 * l.length = bit + (8 * l.length - bit) := by omega
    rw [h3, crTn_add, crTn_shl]
    exact crTn_ne _ hE h0
  rw [h1]
  intro e
  apply h2
  have h4 : (crL x l ^^^ crL 0 d) ^^^ crL x l = crL x l ^^^ crL x l := by rw [e]
  rw [Nat.xor_self, Nat.xor_comm, ← Nat.xor_assoc, Nat.xor_self, Nat.zero_xor] at h4
  exact h4

end Go.Proofs.YtepcaaejadeklaaDoor
