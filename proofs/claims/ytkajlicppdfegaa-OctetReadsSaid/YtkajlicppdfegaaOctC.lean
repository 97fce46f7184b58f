/-
  What package octet's Value, Big and Least answer. No condition but those of each theorem.
-/
import Derived.Test.YtkajlicppdfegaaOctB
import Derived.Test.YtkajlicppdfegaaOctNum
namespace Go.Proofs.Ytkajlicppdfegaa
open Go.RowKit

/-- It is a number of eight bytes. -/
def Below64 (n : Nat) : Prop := n < 18446744073709551616
instance (n : Nat) : Decidable (Below64 n) := inferInstanceAs (Decidable (n < 18446744073709551616))

theorem value_yes (d : Nat) (v : Value) (l : List UInt8) (w : World) (h : Rd w d v l) (hv : valB l < 18446744073709551616) :
    Calls Try.prog 23 #[v] w fun r w' => r = .returned (.tuple #[.int .u64 (valB l : Int), .bool true]) ∧ w = w' := by
  obtain ⟨A, c, rfl, hlc, hc47, hA⟩ := h
  go_enter Try.func23, Try.ntmps23
  go_wp2
  go_loop [4, 9] (fun x i => ∃ k : Nat, k ≤ l.length ∧ i = .int .i64 k ∧ x = .int .u64 (valB (l.take k) : Int)) (fun _ i => l.length - (intOf i).toNat)
  case atStart => exact ⟨0, Nat.zero_le _, rfl, rfl⟩
  case round =>
    obtain ⟨k, hk, rfl, rfl⟩ := hrel
    by_cases hlt : k < l.length
    · obtain ⟨off, rfl, hc⟩ := hA (by omega)
      have hcell : w.cell? ⟨d, off + k, none⟩ = some (.int .u8 (l[k].toNat : Int)) := hc k _ (List.getElem?_eq_getElem hlt)
      have hsn := valB_take_snoc l k hlt
      have hle := valB_take_le l (k + 1)
      have hby := byte_lt l[k]
      have h56 : ((valB (l.take k) : Int) / 72057594037927936 != 0) = false := by simp; omega
      have hor : bits .or .u64 (IntKind.u64.wrap ((valB (l.take k) : Int) * 256)) (l[k].toNat : Int) = (valB (l.take (k + 1)) : Int) := by
        have h1 := u64_or_nat (valB (l.take k) * 256) l[k].toNat (by omega) (by omega)
        rw [nat_join 8 (valB (l.take k) * 256) l[k].toNat (by omega) (by omega)] at h1
        rw [hsn, IntKind.wrap_u64, Int.emod_eq_of_lt (by omega) (by omega)]
        simpa using h1
      have HOR := Lib.hid hor
      clear hA hc hsn hor hle
      go_wp2
      go_round
      case rel => exact ⟨k + 1, by omega, by go_num, by rw [HOR.out]⟩
      case measure => simp [intOf]; omega
    · go_wp2
      go_ret2
      exact ⟨by rw [List.take_of_length_le (by omega)]; rfl, rfl⟩

theorem value_no (d : Nat) (v : Value) (l : List UInt8) (w : World) (h : Rd w d v l) (hv : ¬ valB l < 18446744073709551616) :
    Calls Try.prog 23 #[v] w fun r w' => r = .returned (.tuple #[.int .u64 0, .bool false]) ∧ w = w' := by
  obtain ⟨A, c, rfl, hlc, hc47, hA⟩ := h
  have HV := Lib.hid hv
  clear hv
  go_enter Try.func23, Try.ntmps23
  go_wp2
  go_loop [4, 9] (fun x i => ∃ k : Nat, k ≤ l.length ∧ Below64 (valB (l.take k)) ∧ i = .int .i64 k ∧ x = .int .u64 (valB (l.take k) : Int)) (fun _ i => l.length - (intOf i).toNat)
  case atStart => exact ⟨0, Nat.zero_le _, by simp [valB, Below64], rfl, rfl⟩
  case round =>
    obtain ⟨k, hk, h64, rfl, rfl⟩ := hrel
    by_cases hlt : k < l.length
    · obtain ⟨off, rfl, hc⟩ := hA (by omega)
      have hcell : w.cell? ⟨d, off + k, none⟩ = some (.int .u8 (l[k].toNat : Int)) := hc k _ (List.getElem?_eq_getElem hlt)
      have hsn := valB_take_snoc l k hlt
      have hby := byte_lt l[k]
      by_cases h56' : valB (l.take k) / 72057594037927936 = 0
      · have h56 : ((valB (l.take k) : Int) / 72057594037927936 != 0) = false := by simp; omega
        have h64' : Below64 (valB (l.take (k + 1))) := by unfold Below64; omega
        have hor : bits .or .u64 (IntKind.u64.wrap ((valB (l.take k) : Int) * 256)) (l[k].toNat : Int) = (valB (l.take (k + 1)) : Int) := by
          have h1 := u64_or_nat (valB (l.take k) * 256) l[k].toNat (by omega) (by omega)
          rw [nat_join 8 (valB (l.take k) * 256) l[k].toNat (by omega) (by omega)] at h1
          rw [hsn, IntKind.wrap_u64, Int.emod_eq_of_lt (by omega) (by omega)]
          simpa using h1
        have HOR := Lib.hid hor
        clear hA hc hsn hor h56'
        go_wp2
        go_round
        case rel => exact ⟨k + 1, by omega, h64', by go_num, by rw [HOR.out]⟩
        case measure => simp [intOf]; omega
      · have h56 : ((valB (l.take k) : Int) / 72057594037927936 != 0) = true := by simp; omega
        clear hA hc hsn h56'
        go_wp2
        go_ret2
        exact ⟨rfl, rfl⟩
    · exfalso
      rw [List.take_of_length_le (by omega)] at h64
      exact HV.out h64

end Go.Proofs.Ytkajlicppdfegaa
