/-
  Plain facts on numbers and their bytes: no program. The number of bytes, the greatest first (valB); a number's bytes in so many (bigB); how many a number needs (lenB).
-/
import Derived.Test.YtkpbjgjflabloaaRows
namespace Go.Proofs.Ytkpbjgjflabloaa

/-- The number of bytes, the greatest first. -/
def valB (l : List UInt8) : Nat := l.foldl (fun a b => a * 256 + b.toNat) 0

theorem valB_nil : valB [] = 0 := rfl
theorem valB_snoc (l : List UInt8) (b : UInt8) : valB (l ++ [b]) = valB l * 256 + b.toNat := by simp [valB]

theorem foldl_val (l : List UInt8) (a : Nat) : l.foldl (fun a b => a * 256 + b.toNat) a = a * 256 ^ l.length + valB l := by
  induction l generalizing a with
  | nil => simp [valB]
  | cons b l ih =>
    have h1 : valB (b :: l) = b.toNat * 256 ^ l.length + valB l := by
      show List.foldl _ _ (b :: l) = _
      rw [List.foldl_cons, ih]; simp
    rw [List.foldl_cons, ih, h1, List.length_cons, Nat.pow_succ, Nat.add_mul]
    have : a * 256 * 256 ^ l.length = a * (256 ^ l.length * 256) := by rw [Nat.mul_assoc, Nat.mul_comm 256]
    omega
theorem valB_cons (b : UInt8) (l : List UInt8) : valB (b :: l) = b.toNat * 256 ^ l.length + valB l := by
  show List.foldl _ _ (b :: l) = _
  rw [List.foldl_cons, foldl_val]; simp
theorem valB_append (a b : List UInt8) : valB (a ++ b) = valB a * 256 ^ b.length + valB b := by
  show List.foldl _ _ (a ++ b) = _
  rw [List.foldl_append, foldl_val]; rfl
theorem byte_lt (b : UInt8) : b.toNat < 256 := b.toNat_lt
theorem valB_lt (l : List UInt8) : valB l < 256 ^ l.length := by
  induction l with
  | nil => simp [valB]
  | cons b l ih =>
    rw [valB_cons, List.length_cons, Nat.pow_succ]
    have := byte_lt b
    have h : (b.toNat + 1) * 256 ^ l.length ≤ 256 * 256 ^ l.length := Nat.mul_le_mul_right _ (by omega)
    rw [Nat.add_mul] at h
    omega
theorem valB_take_le (l : List UInt8) (k : Nat) : valB (l.take k) ≤ valB l := by
  have h : valB l = valB (l.take k) * 256 ^ (l.drop k).length + valB (l.drop k) := by rw [← valB_append, List.take_append_drop]
  have : valB (l.take k) * 1 ≤ valB (l.take k) * 256 ^ (l.drop k).length := Nat.mul_le_mul_left _ (Nat.pow_pos (by decide))
  omega
theorem take_snoc (l : List UInt8) (k : Nat) (h : k < l.length) : l.take (k + 1) = l.take k ++ [l[k]] := by
  rw [List.take_succ_eq_append_getElem h]
theorem valB_take_snoc (l : List UInt8) (k : Nat) (h : k < l.length) : valB (l.take (k + 1)) = valB (l.take k) * 256 + l[k].toNat := by
  rw [take_snoc l k h, valB_snoc]

/-- What Value answers. -/
def valR (l : List UInt8) : Nat × Bool := if valB l < 18446744073709551616 then (valB l, true) else (0, false)
theorem valR_yes {l : List UInt8} (h : valB l < 18446744073709551616) : valR l = (valB l, true) := by simp [valR, h]
theorem valR_no {l : List UInt8} (h : ¬ valB l < 18446744073709551616) : valR l = (0, false) := by simp [valR, h]

/-- A number's bytes in so many, the greatest first. -/
def bigB (x size : Nat) : List UInt8 := (List.range size).map fun k => UInt8.ofNat (x / 256 ^ (size - 1 - k))
theorem bigB_length (x size : Nat) : (bigB x size).length = size := by simp [bigB]
theorem bigB_zero (x : Nat) : bigB x 0 = [] := rfl
theorem bigB_succ (x size : Nat) : bigB x (size + 1) = bigB (x / 256) size ++ [UInt8.ofNat x] := by
  unfold bigB
  rw [List.range_succ, List.map_append]
  congr 1
  · refine List.map_congr_left fun k hk => ?_
    have hk := List.mem_range.1 hk
    have e : size + 1 - 1 - k = (size - 1 - k) + 1 := by omega
    rw [e, Nat.pow_succ, Nat.mul_comm, Nat.div_div_eq_div_mul]
  · simp
theorem ofNat_toNat (x : Nat) : (UInt8.ofNat x).toNat = x % 256 := by simp
theorem valB_bigB (x size : Nat) : valB (bigB x size) = x % 256 ^ size := by
  induction size generalizing x with
  | zero => simp [bigB_zero, valB_nil, Nat.mod_one]
  | succ n ih =>
    rw [bigB_succ, valB_snoc, ih, ofNat_toNat, Nat.pow_succ, Nat.mul_comm (256 ^ n), Nat.mod_mul]
    omega

/-- How many bytes a number needs: none of 0. -/
def lenB : Nat → Nat → Nat
  | 0, _ => 0
  | f + 1, x => if x = 0 then 0 else lenB f (x / 256) + 1
theorem lenB_spec (f x : Nat) (h : x < 256 ^ f) : x < 256 ^ lenB f x ∧ (0 < lenB f x → 256 ^ (lenB f x - 1) ≤ x) ∧ lenB f x ≤ f := by
  induction f generalizing x with
  | zero => simp [lenB] at h ⊢; omega
  | succ f ih =>
    unfold lenB
    by_cases h0 : x = 0
    · simp [h0]
    · rw [if_neg h0]
      have h1 : x / 256 < 256 ^ f := by rw [Nat.pow_succ] at h; omega
      obtain ⟨a, b, c⟩ := ih (x / 256) h1
      refine ⟨?_, fun _ => ?_, by omega⟩
      · rw [Nat.pow_succ]; omega
      · show 256 ^ (lenB f (x / 256)) ≤ x
        rcases Nat.eq_zero_or_pos (lenB f (x / 256)) with hz | hz
        · rw [hz]; simp; omega
        · have := b hz
          have e : lenB f (x / 256) = (lenB f (x / 256) - 1) + 1 := by omega
          rw [e, Nat.pow_succ]; omega
end Go.Proofs.Ytkpbjgjflabloaa
