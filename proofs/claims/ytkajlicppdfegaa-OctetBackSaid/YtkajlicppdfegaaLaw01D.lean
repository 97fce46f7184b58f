/-
  Plain facts for the law OctetBack: rows of numbers' bytes, read from the front, and with a byte less. No program walked.
-/
import Derived.Test.YtkajlicppdfegaaOctI
namespace Go.Proofs.Ytkajlicppdfegaa

/-- The j-th number's bytes. -/
def seg (xs zs : List Nat) (j : Nat) : List UInt8 := bigB (xs.getD j 0) (zs.getD j 0 % 8 + 1)
theorem seg_length (xs zs : List Nat) (j : Nat) : (seg xs zs j).length = zs.getD j 0 % 8 + 1 := bigB_length _ _
/-- The bytes of n numbers from the j-th on. -/
def rst (xs zs : List Nat) (j n : Nat) : List UInt8 := ((List.range' j n).map (seg xs zs)).flatten
theorem rst_zero (xs zs : List Nat) (j : Nat) : rst xs zs j 0 = [] := rfl
theorem rst_succ (xs zs : List Nat) (j n : Nat) : rst xs zs j (n + 1) = seg xs zs j ++ rst xs zs (j + 1) n := by simp [rst, List.range'_succ]
theorem rst_snoc (xs zs : List Nat) (n : Nat) : rst xs zs 0 (n + 1) = rst xs zs 0 n ++ seg xs zs n := by simp [rst, List.range'_concat]
theorem rst_length (xs zs : List Nat) (j n : Nat) : n ≤ (rst xs zs j n).length ∧ (rst xs zs j n).length ≤ 8 * n := by
  induction n generalizing j with
  | zero => simp [rst_zero]
  | succ n ih =>
    rw [rst_succ, List.length_append, seg_length]
    have := ih (j + 1)
    omega

theorem nx_front (a b : List UInt8) : nx (a ++ b) 0 (a.length : Int) = (a, b, 0) := by
  rw [nx_ok (by omega) (by rw [List.length_append]; omega), Int.toNat_natCast]
  simp
theorem nm_front (a b : List UInt8) (h1 : 1 ≤ a.length) (h8 : a.length ≤ 8) : nm (a ++ b) 0 (a.length : Int) = (valB a, b, 0) := by
  have h : ¬ ((0 : Int) = 0 ∧ ¬ ((1 : Int) ≤ (a.length : Int) ∧ (a.length : Int) ≤ 8)) := by omega
  unfold nm
  rw [if_neg h, nx_front]

theorem read_one (xs zs : List Nat) (j n : Nat) (q : Int) (hq : q = ((zs.getD j 0 % 8 + 1 : Nat) : Int)) :
    nm (rst xs zs j (n + 1)) 0 q = (xs.getD j 0 % 256 ^ (zs.getD j 0 % 8 + 1), rst xs zs (j + 1) n, 0) := by
  have h := nm_front (seg xs zs j) (rst xs zs (j + 1) n) (by rw [seg_length]; omega) (by rw [seg_length]; omega)
  rw [seg_length] at h
  rw [rst_succ, hq, h]
  unfold seg
  rw [valB_bigB]

/-- A byte less. -/
def less (l : List UInt8) : List UInt8 := l.take (l.length - 1)
/-- What is left behind j of n numbers, with a byte less, and the error. -/
def st2 (xs zs : List Nat) (n j : Nat) : List UInt8 × Int := if j < n then (less (rst xs zs j (n - j)), 0) else (less (rst xs zs (n - 1) 1), 10)
theorem less_front (a b : List UInt8) (hb : 0 < b.length) : less (a ++ b) = a ++ less b := by
  unfold less
  rw [List.length_append, List.take_append]
  have e1 : a.length + b.length - 1 - a.length = b.length - 1 := by omega
  rw [e1, List.take_of_length_le (by omega)]
theorem st2_step (xs zs : List Nat) (n j : Nat) (hj : j < n) (q : Int) (hq : q = ((zs.getD j 0 % 8 + 1 : Nat) : Int)) :
    ((nm (st2 xs zs n j).1 (st2 xs zs n j).2 q).2.1, (nm (st2 xs zs n j).1 (st2 xs zs n j).2 q).2.2) = st2 xs zs n (j + 1) := by
  unfold st2
  rw [if_pos hj]
  by_cases hl : j + 1 < n
  · rw [if_pos hl]
    obtain ⟨m, hm⟩ : ∃ m, n - j = m + 1 := ⟨n - j - 1, by omega⟩
    have hm' : n - (j + 1) = m := by omega
    rw [hm, hm', rst_succ, less_front _ _ (by have := (rst_length xs zs (j + 1) m).1; omega), hq, ← seg_length xs zs j,
      nm_front _ _ (by rw [seg_length]; omega) (by rw [seg_length]; omega)]
  · rw [if_neg hl]
    have e : n - j = 1 := by omega
    have e2 : n - 1 = j := by omega
    rw [e, e2]
    have hs : rst xs zs j 1 = seg xs zs j := by rw [rst_succ, rst_zero, List.append_nil]
    rw [hs]
    have hlen : (less (seg xs zs j)).length = zs.getD j 0 % 8 := by unfold less; rw [List.length_take, seg_length]; omega
    have hx : nx (less (seg xs zs j)) 0 q = ([], less (seg xs zs j), 10) := nx_short (by omega) (by rw [hlen]; omega)
    have hn : ¬ ((0 : Int) = 0 ∧ ¬ (1 ≤ q ∧ q ≤ 8)) := by omega
    unfold nm
    rw [if_neg hn, hx]

theorem mod_pow (x k : Nat) : x % 256 ^ (k + 1) % 256 ^ k = x % 256 ^ k := Nat.mod_mod_of_dvd x ⟨256, by rw [Nat.pow_succ]⟩

end Go.Proofs.Ytkajlicppdfegaa
