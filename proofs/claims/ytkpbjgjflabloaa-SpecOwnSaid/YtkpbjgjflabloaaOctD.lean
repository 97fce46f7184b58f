/-
  What package octet's Big and Least answer. No condition but those of each theorem.
-/
import Derived.Test.YtkpbjgjflabloaaOctC
namespace Go.Proofs.Ytkpbjgjflabloaa
open Go.RowKit

/-- The row of Big behind k rounds. -/
def bigRow (x n k : Nat) : Array Value := ((List.range n).map fun j => if n ≤ j + k then byteV (UInt8.ofNat (x / 256 ^ (n - 1 - j))) else Value.int .u8 0).toArray
theorem bigRow_size (x n k : Nat) : (bigRow x n k).size = n := by simp [bigRow]
theorem bigRow_zero (x n : Nat) : bigRow x n 0 = madeCells #[Value.int .u8 0] n := by
  apply Array.ext
  · simp [bigRow, size_madeCells]
  · intro i h1 h2
    have hi : i < n := by simpa [bigRow] using h1
    have hm : i % 1 = 0 := Nat.mod_one i
    simp [bigRow, madeCells, hm]
    intro h
    omega
theorem bigRow_full (x n : Nat) : bigRow x n n = ((bigB x n).map byteV).toArray := by
  unfold bigRow bigB
  rw [List.map_map]
  congr 1
  refine List.map_congr_left fun j _ => ?_
  rw [if_pos (by omega)]; rfl
theorem bigRow_step (x n k j : Nat) (h : j + k + 1 = n) : (bigRow x n k).setIfInBounds j (byteV (UInt8.ofNat (x / 256 ^ k))) = bigRow x n (k + 1) := by
  apply Array.ext
  · simp [bigRow]
  · intro i h1 h2
    have hi : i < n := by simpa [bigRow] using h2
    rw [Array.getElem_setIfInBounds (by simpa [bigRow] using hi)]
    split
    · next e =>
      subst e
      simp [bigRow]
      rw [if_pos (by omega)]
      congr 4
      omega
    · next e =>
      simp [bigRow]
      by_cases hc : n ≤ i + k
      · rw [if_pos hc, if_pos (by omega)]
      · rw [if_neg hc, if_neg (by omega)]

theorem shr_8k (x k : Nat) : Value.int .u8 ((x : Int) / 2 ^ (8 * k) % 256) = byteV (UInt8.ofNat (x / 256 ^ k)) := by
  unfold byteV
  rw [ofNat_toNat]
  have e : (2 : Int) ^ (8 * k) = ((256 ^ k : Nat) : Int) := by
    have h : (2 : Nat) ^ (8 * k) = 256 ^ k := by rw [Nat.pow_mul]
    rw [← h]; simp
  rw [e]
  congr 1

def BigPost (x n : Nat) (w : World) (r : Ending) (w' : World) : Prop :=
  r = .returned (.slice (some ⟨w.heap.size, 0, none⟩) n n) ∧ Blk w' w.heap.size 5 ((bigB x n).map byteV).toArray ∧ Below w.heap.size w w' ∧ Sz w' (w.heap.size + 1)

theorem fits_yes {n : Int} (h1 : 1 ≤ n) (h2 : n ≤ 8) : fitsB n = true := by simp [fitsB, h1, h2]
theorem fits_no {n : Int} (h : ¬ (1 ≤ n ∧ n ≤ 8)) : fitsB n = false := by simp [fitsB]; omega

theorem big_rd {x n : Nat} {w : World} {r : Ending} {w' : World} (h : BigPost x n w r w') (hn : n ≤ 8) : ∃ v, r = .returned v ∧ v = .slice (some ⟨w.heap.size, 0, none⟩) n n ∧ Rd w' w.heap.size v (bigB x n) := by
  obtain ⟨rfl, hb, _, _⟩ := h
  have hr := Rd.of_blk hb (by rw [bigB_length]; omega)
  rw [bigB_length] at hr
  exact ⟨_, rfl, rfl, hr⟩

/-- Big's post at any size up to 8: no bytes, or a new block. -/
def BigAny (x n : Nat) (w : World) (r : Ending) (w' : World) : Prop :=
  ∃ v, r = .returned v ∧ Rd w' w.heap.size v (bigB x n) ∧ Below w.heap.size w w' ∧ w'.heap.size ≤ w.heap.size + 1

/-! ### Least -/
/-- How many bytes a number of 64 bits needs. -/
def least (x : Nat) : Nat := lenB 8 x
theorem least_spec {x : Nat} (h : x < 18446744073709551616) : x < 256 ^ least x ∧ (0 < least x → 256 ^ (least x - 1) ≤ x) ∧ least x ≤ 8 := lenB_spec 8 x (by omega)

theorem pow_mono {a b : Nat} (h : a ≤ b) : 256 ^ a ≤ 256 ^ b := Nat.pow_le_pow_right (by decide) h
theorem least_test {x k : Nat} (h : x < 18446744073709551616) (hk : k ≤ least x) : ((x : Int) / 2 ^ (8 * k) != 0) = decide (k < least x) := by
  have e : (2 : Int) ^ (8 * k) = ((256 ^ k : Nat) : Int) := by
    have h : (2 : Nat) ^ (8 * k) = 256 ^ k := by rw [Nat.pow_mul]
    rw [← h]; simp
  obtain ⟨h1, h2, _⟩ := least_spec h
  rw [e]
  rcases Nat.lt_or_ge k (least x) with hlt | hge
  · have hp : 256 ^ k ≤ x := Nat.le_trans (pow_mono (by omega)) (h2 (by omega))
    have hd : 0 < x / 256 ^ k := Nat.div_pos hp (Nat.pow_pos (by decide))
    have : ((x : Int) / ((256 ^ k : Nat) : Int)) = ((x / 256 ^ k : Nat) : Int) := by simp
    rw [this]
    generalize x / 256 ^ k = q at hd
    simp [hlt]
    omega
  · obtain rfl : k = least x := by omega
    have hd : x / 256 ^ least x = 0 := Nat.div_eq_of_lt h1
    have : ((x : Int) / ((256 ^ least x : Nat) : Int)) = ((x / 256 ^ least x : Nat) : Int) := by simp
    rw [this, hd]
    simp

end Go.Proofs.Ytkpbjgjflabloaa
