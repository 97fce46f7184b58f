/-
  What the library's strconv tells of decimal digits, against the document's numbers. No program; no condition but those of each theorem.
-/
import Derived.Test.YtpaapjafnjipfaaDoorSclNum
import Derived.Lib.ItoaNum
import Derived.Lib.ParseIntB
namespace Go.Proofs.YtpaapjafnjipfaaDoor
set_option linter.unusedSimpArgs false

theorem decDigits_dec (x : Nat) : Lib.decDigits x = dec x := by
  refine ten_ind (p := fun x => Lib.decDigits x = dec x) (fun x h => ?_) (fun x h ih => ?_) x
  · rw [Lib.decDigits_one (by omega), dec_small h]
    unfold dgB
    rw [Nat.mod_eq_of_lt (by omega)]
  · rw [Lib.decDigits, dif_neg (by omega), ih, dec_big h]
    rfl
theorem val_grow (s : List UInt8) : ∀ a, a ≤ valFrom a s := by
  induction s with
  | nil => intro a; exact Nat.le_refl _
  | cons c s ih =>
    intro a
    have := ih (10 * a + (c.toNat - 48))
    show a ≤ valFrom (10 * a + (c.toNat - 48)) s
    omega
theorem parse_val (s : List UInt8) : ∀ a, (∀ c ∈ s, isDg c = true) → valFrom a s ≤ 18446744073709551615 → Lib.parseUintM 18446744073709551615 a s = .ok (valFrom a s) := by
  induction s with
  | nil => intro a _ _; rfl
  | cons c s ih =>
    intro a h hv
    have hc := isDg_iff.1 (h c (by simp))
    have hv' : valFrom (10 * a + (c.toNat - 48)) s ≤ 18446744073709551615 := hv
    have hg := val_grow s (10 * a + (c.toNat - 48))
    unfold Lib.parseUintM
    rw [if_pos hc, if_neg (by omega), if_neg (by omega), Nat.mul_comm a 10]
    exact ih _ (fun d hd => h d (by simp [hd])) hv'
theorem parse_le (s : List UInt8) : ∀ a u, a ≤ 18446744073709551615 → Lib.parseUintM 18446744073709551615 a s = .ok u → u ≤ 18446744073709551615 := by
  induction s with
  | nil => intro a u ha h; unfold Lib.parseUintM at h; injection h with h; omega
  | cons c s ih =>
    intro a u ha h
    unfold Lib.parseUintM at h
    split at h
    · split at h
      · cases h
      · split at h
        · cases h
        · exact ih _ u (by omega) h
    · cases h
theorem eM64 : (2 : Nat) ^ 64 - 1 = 18446744073709551615 := by decide
theorem parse_dec {x : Nat} (h : x < 18446744073709551616) : Lib.parseUintB 64 (dec x) = .ok x := by
  have hv : valFrom 0 (dec x) = x := val_dec x
  unfold Lib.parseUintB
  rw [if_neg (dec_ne x), eM64, parse_val (dec x) 0 (dec_all x) (by rw [hv]; omega), hv]
theorem parse_lt {s : List UInt8} {u : Nat} (h : Lib.parseUintB 64 s = .ok u) : u < 18446744073709551616 := by
  unfold Lib.parseUintB at h
  rw [eM64] at h
  split at h
  · cases h
  · have := parse_le s 0 u (by omega) h
    omega
/-- WHAT Uint IS TO TELL, BY WHAT THE LIBRARY TELLS. -/
theorem uint_parse_ok {s : List UInt8} {u : Nat} (h : Lib.parseUintB 64 s = .ok u) : uintX s = if dec u = s then some u else none := by
  split
  · rename_i e
    rw [← e]
    exact uint_dec (parse_lt h)
  · rename_i e
    cases hu : uintX s with
    | none => rfl
    | some x =>
      obtain ⟨hx, rfl⟩ := uint_iff.1 hu
      rw [parse_dec hx] at h
      injection h with h
      subst h
      exact absurd rfl e
theorem uint_parse_bad {s : List UInt8} (h : ∀ u, Lib.parseUintB 64 s ≠ .ok u) : uintX s = none := by
  cases hu : uintX s with
  | none => rfl
  | some x =>
    obtain ⟨hx, rfl⟩ := uint_iff.1 hu
    exact absurd (parse_dec hx) (h x)
end Go.Proofs.YtpaapjafnjipfaaDoor
