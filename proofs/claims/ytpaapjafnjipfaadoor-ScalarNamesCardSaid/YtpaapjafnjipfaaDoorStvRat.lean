/-
  strings.CutSuffix at a unit's sign, and scalar's times and Rate. No condition but those of each theorem.
-/
import Derived.Test.YtpaapjafnjipfaaDoorStvPar
import Derived.Lib.Strings
import Derived.Lib.Slices
import Derived.Lib.Walk
namespace Go.Proofs.YtpaapjafnjipfaaDoor
open Go.RowKit
set_option linter.unusedSimpArgs false

set_option maxHeartbeats 1000000 in
theorem cut_raw (s p : ByteArray) (w : World) (hs : s.size ≤ 9223372036854775807) :
    Calls Tryd.prog 19 #[.string s, .string p] w fun e w' => e = .returned (.tuple #[.string ⟨(Lib.trimSuffix s.data.toList p.data.toList).toArray⟩, .bool (Lib.hasSuffix s.data.toList p.data.toList)]) ∧ w' = w := by
  have hlo : p.size ≤ s.size → ((s.size : Int) - (p.size : Int) + 9223372036854775808) % 18446744073709551616 - 9223372036854775808 = ((s.size - p.size : Nat) : Int) := fun _ => by omega
  go_enter Tryd.func19, Tryd.ntmps19
  go_wp2
  · have h2 : (!((s.extract (s.size - p.size) s.size).toList == p.toList)) = true := by assumption
    have h3 : (decide (p.size ≤ s.size) && ((s.extract (s.size - p.size) s.size).toList == p.toList)) = false := by
      have : ((s.extract (s.size - p.size) s.size).toList == p.toList) = false := by simpa using h2
      rw [this]
      simp
    go_ret2
    refine ⟨?_, rfl⟩
    rw [Lib.trimSuffix_miss s p h3, ← Lib.hasSuffix_raw, h3]
    rfl
  · have h1 : p.size ≤ s.size := by assumption
    have h2 : (!((s.extract (s.size - p.size) s.size).toList == p.toList)) = false := by assumption
    have h2' : ((s.extract (s.size - p.size) s.size).toList == p.toList) = true := by simpa using h2
    go_ret2
    refine ⟨?_, rfl⟩
    rw [Lib.trimSuffix_hit s p h1 h2', ← Lib.hasSuffix_raw, h2', decide_eq_true h1]
    rfl
  · have h1 : ¬ p.size ≤ s.size := by assumption
    have h3 : (decide (p.size ≤ s.size) && ((s.extract (s.size - p.size) s.size).toList == p.toList)) = false := by simp [h1]
    go_ret2
    refine ⟨?_, rfl⟩
    rw [Lib.trimSuffix_miss s p h3, ← Lib.hasSuffix_raw, h3]
    rfl
theorem suffix_one (s : List UInt8) (c : UInt8) : Lib.hasSuffix (s ++ [c]) [c] = true := by
  unfold Lib.hasSuffix
  rw [List.isSuffixOf_iff_suffix]
  exact List.suffix_append s [c]
theorem trim_one (s : List UInt8) (c : UInt8) : Lib.trimSuffix (s ++ [c]) [c] = s := by
  unfold Lib.trimSuffix
  rw [if_pos (suffix_one s c), List.length_append]
  simp
theorem suffix_none {s : List UInt8} {c : UInt8} (h : s.getLast? ≠ some c) : Lib.hasSuffix s [c] = false := by
  unfold Lib.hasSuffix
  rw [Bool.eq_false_iff]
  intro e
  rw [List.isSuffixOf_iff_suffix] at e
  obtain ⟨t, rfl⟩ := e
  exact h (by simp)
/-- A text that ends so .. -/
theorem cut_hit (s : List UInt8) (c : UInt8) (w : World) (hs : s.length ≤ 100000) :
    Calls Tryd.prog 19 #[.string (txt (s ++ [c])), .string (txt [c])] w fun e w' => e = .returned (.tuple #[.string (txt s), .bool true]) ∧ w = w' :=
  (cut_raw (txt (s ++ [c])) (txt [c]) w (by rw [txt_size, List.length_append]; simp; omega)).mono fun e w' h => ⟨by
    rw [h.1, txt_data, txt_data, suffix_one, trim_one]; rfl, h.2.symm⟩
/-- .. and one that doesn't. -/
theorem cut_miss {s : List UInt8} {c : UInt8} (h : s.getLast? ≠ some c) (w : World) (hs : s.length ≤ 100000) :
    Calls Tryd.prog 19 #[.string (txt s), .string (txt [c])] w fun e w' => (∃ t, e = .returned (.tuple #[.string t, .bool false])) ∧ w = w' :=
  (cut_raw (txt s) (txt [c]) w (by rw [txt_size]; omega)).mono fun e w' h' => ⟨⟨txt (Lib.trimSuffix s [c]), by rw [h'.1, txt_data, txt_data, suffix_none h]; rfl⟩, h'.2.symm⟩

def timesX (s : List UInt8) (m : Nat) : Option Nat := match uintX s with
  | none => none
  | some x => if 18446744073709551615 / m < x then none else some (x * m)
theorem times_none {s : List UInt8} {m : Nat} (h : uintX s = none) : timesX s m = none := by unfold timesX; rw [h]
theorem times_big {s : List UInt8} {m x : Nat} (h : uintX s = some x) (hm : 0 < m) (h2 : 18446744073709551616 ≤ x * m) : timesX s m = none := by
  unfold timesX
  rw [h]
  simp only
  rw [if_pos]
  rw [Nat.div_lt_iff_lt_mul hm]
  omega
theorem times_some {s : List UInt8} {m x : Nat} (h : uintX s = some x) (hm : 0 < m) (h2 : x * m < 18446744073709551616) : timesX s m = some (x * m) := by
  unfold timesX
  rw [h]
  simp only
  rw [if_neg]
  rw [Nat.div_lt_iff_lt_mul hm]
  omega
theorem rate_times (s : List UInt8) : rateX s = timesX (unitX s).1 (unitX s).2 := rfl
theorem rate_one {s : List UInt8} (h : unitX s = (s, 1)) : rateX s = uintX s := by
  unfold rateX
  rw [h]
  cases hu : uintX s with
  | none => rfl
  | some x =>
    have := (uint_iff.1 hu).1
    simp only
    rw [if_neg (by omega), Nat.mul_one]
def TimesP (s : List UInt8) (m : Nat) (w : World) (r : Ending) (w' : World) : Prop := r = .returned (optR (timesX s m)) ∧ Below w.heap.size w w'
set_option maxHeartbeats 2000000 in
set_option maxRecDepth 100000 in
theorem times_any (s : List UInt8) (m : Nat) (hm : 0 < m) (hm64 : m < 18446744073709551616) (hs : s.length ≤ 100000) (w : World) (hT : Tab6 w) :
    Calls Tryd.prog 20 #[.string (txt s), .int .u64 (m : Int)] w (TimesP s m w) := by
  have HU := Lib.hid (uint_any s hs w hT)
  clear hT
  go_enter Tryd.func20, Tryd.ntmps20
  go_wp2_with fail
  refine HU.out.mono ?_
  rintro r w1 ⟨rfl, hB⟩
  have HB := Lib.hid hB
  clear hB HU
  cases hu : uintX s with
  | none =>
    have HV := Lib.hid (times_none (m := m) hu)
    clear hu
    have e : optR none = .tuple #[.int .u64 0, .bool false] := rfl
    rw [e]
    go_wp2
    go_ret2
    exact ⟨by rw [HV.out]; rfl, HB.out⟩
  | some x =>
    have hx := (uint_iff.1 hu).1
    have HM := Lib.hid (mul_any x m hx hm64 w1)
    have e : optR (some x) = .tuple #[.int .u64 (x : Int), .bool true] := rfl
    rw [e]
    clear e
    by_cases hb : 18446744073709551616 ≤ x * m
    · have HV := Lib.hid (times_big hu hm hb)
      have hne : (((x * m / 18446744073709551616 : Nat) : Int) == 0) = false := beq_eq_false_iff_ne.2 (by
        have : 1 ≤ x * m / 18446744073709551616 := (Nat.le_div_iff_mul_le (by omega)).2 (by omega)
        omega)
      obtain ⟨hi, hhi⟩ : ∃ hi, hi = x * m / 18446744073709551616 := ⟨_, rfl⟩
      obtain ⟨lo, hlo⟩ : ∃ lo, lo = x * m % 18446744073709551616 := ⟨_, rfl⟩
      rw [← hhi] at HM hne
      rw [← hlo] at HM
      have hne2 : ((hi : Int) != 0) = true := by unfold bne; rw [hne]; rfl
      clear hu hb hhi hlo
      go_wp2_with fail
      refine HM.out.mono ?_
      rintro r w2 ⟨rfl, rfl⟩
      clear HM
      go_wp2
      go_ret2
      exact ⟨by rw [HV.out]; rfl, HB.out⟩
    · have HV := Lib.hid (times_some hu hm (by omega))
      obtain ⟨z, hz⟩ : ∃ z, z = x * m := ⟨_, rfl⟩
      rw [← hz] at HM HV hb
      have e1 : z / 18446744073709551616 = 0 := Nat.div_eq_of_lt (by omega)
      have e2 : z % 18446744073709551616 = z := Nat.mod_eq_of_lt (by omega)
      rw [e1, e2] at HM
      clear hu hb hz e1 e2
      go_wp2_with fail
      refine HM.out.mono ?_
      rintro r w2 ⟨rfl, rfl⟩
      clear HM
      go_wp2
      go_ret2
      exact ⟨by rw [HV.out]; rfl, HB.out⟩
end Go.Proofs.YtpaapjafnjipfaaDoor
