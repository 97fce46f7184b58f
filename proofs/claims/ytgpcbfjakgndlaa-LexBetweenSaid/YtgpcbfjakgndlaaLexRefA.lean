/-
  What the document's size, letter and digit answer (package tollbarref05). No condition but those of each theorem.
-/
import Derived.Test.YtgpcbfjakgndlaaLexMem
import Derived.Test.YtgpcbfjakgndlaaOctRefB
import Derived.Outline
namespace Go.Proofs.Ytgpcbfjakgndlaa
open Go.RowKit
set_option linter.unusedSimpArgs false

theorem rsize_any (c : Nat) (w : World) : Calls Try.prog 30 #[.int .i32 (c : Int)] w fun r w' => r = .returned (.int .i64 (sz c : Int)) ∧ w = w' := by
  unfold sz
  by_cases h1 : c < 128
  · have d1 : (c : Int) < 128 := by omega
    rw [if_pos h1]
    clear h1
    go_enter Try.func30, Try.ntmps30
    go_wp2
    go_ret
    exact ⟨rfl, rfl⟩
  have d1 : ¬ (c : Int) < 128 := by omega
  rw [if_neg h1]
  by_cases h2 : c < 2048
  · have d2 : (c : Int) < 2048 := by omega
    rw [if_pos h2]
    clear h1 h2
    go_enter Try.func30, Try.ntmps30
    go_wp2
    go_ret
    exact ⟨rfl, rfl⟩
  have d2 : ¬ (c : Int) < 2048 := by omega
  rw [if_neg h2]
  by_cases h3 : c < 65536
  · have d3 : (c : Int) < 65536 := by omega
    rw [if_pos h3]
    clear h1 h2 h3
    go_enter Try.func30, Try.ntmps30
    go_wp2
    go_ret
    exact ⟨rfl, rfl⟩
  have d3 : ¬ (c : Int) < 65536 := by omega
  rw [if_neg h3]
  clear h1 h2 h3
  go_enter Try.func30, Try.ntmps30
  go_wp2
  go_ret
  exact ⟨rfl, rfl⟩

theorem letterB_long {t : List UInt8} (h : t.length ≠ 1) : letterB t = false := by
  unfold letterB
  split
  · simp at h
  · rfl
/-- A letter, by the number of its byte. -/
theorem letterB_nat (c : UInt8) : letterB [c] = (decide (97 ≤ c.toNat ∧ c.toNat ≤ 122) || decide (65 ≤ c.toNat ∧ c.toNat ≤ 90) || decide (48 ≤ c.toNat ∧ c.toNat ≤ 57) || decide (c.toNat = 95) || decide (c.toNat = 45) || decide (c.toNat = 46)) := by
  have e1 : ∀ k : UInt8, (c == k) = decide (c.toNat = k.toNat) := fun k => by
    by_cases h : c = k
    · simp [h]
    · have : c.toNat ≠ k.toNat := fun e => h (UInt8.toNat_inj.1 e)
      simp [h, this]
  simp only [letterB, e1, UInt8.le_iff_toNat_le, Bool.decide_and]
  rfl
set_option maxRecDepth 100000 in
theorem rletter_any (t : List UInt8) (w : World) (hl : t.length ≤ 100000) : Calls Try.prog 21 #[.string (txt t)] w fun r w' => r = .returned (.bool (letterB t)) ∧ w = w' := by
  have hsz := txt_size t
  by_cases h1 : t.length = 1
  · obtain ⟨c, rfl⟩ : ∃ c, t = [c] := by
      match t, h1 with
      | [c], _ => exact ⟨c, rfl⟩
    have hin : 0 < (txt [c]).size := by rw [txt_size]; simp
    have hix : (((txt [c])[0]'hin).toNat : Int) = (c.toNat : Int) := by rw [txt_get [c] 0 (by simp) hin]; rfl
    have hc := UInt8.toNat_lt c
    have hb := letterB_nat c
    have d0 : ((txt [c]).size : Int) = 1 := by rw [txt_size]; rfl
    generalize c.toNat = n at hix hb hc
    have HB := Lib.hid hb
    clear hb
    go_enter Try.func21, Try.ntmps21
    go_wp2
    all_goals go_ret
    all_goals refine ⟨congrArg (fun b => Ending.returned (Value.bool b)) (?_ : _ = letterB [c]), rfl⟩
    all_goals rw [HB.out, Bool.eq_iff_iff]
    all_goals simp only [Bool.or_eq_true, Bool.and_eq_true, decide_eq_true_eq, beq_iff_eq, true_iff, false_iff, Bool.false_eq_true]
    all_goals omega
  · have hb := letterB_long h1
    have hd : ((t.length : Int) != 1) = true := by simpa using (show (t.length : Int) ≠ 1 by omega)
    rw [hb]
    clear h1 hb
    go_enter Try.func21, Try.ntmps21
    go_wp2
    go_ret
    exact ⟨rfl, rfl⟩

/-! ### digit -/
theorem digB_long {t : List UInt8} (h : t.length ≠ 1) : digB t = none := by
  unfold digB
  split
  · simp at h
  · rfl
/-- What digit hands back. -/
def digI (t : List UInt8) : Int := match digB t with
  | some i => (i : Int)
  | none => -1
theorem dig_at {t : List UInt8} {i : Nat} (hi : i < 16) (h : t = [hexes.getD i 0]) : digI t = (i : Int) := by
  have e : ∀ i, i < 16 → hexes.idxOf? (hexes.getD i 0) = some i := by decide
  subst h
  simp only [digI, digB, e i hi]
theorem dig_no {t : List UInt8} (h : ∀ i, i < 16 → t ≠ [hexes.getD i 0]) : digI t = -1 := by
  unfold digI digB
  split
  · rename_i i e
    split at e
    · rename_i c
      have hm : c ∈ hexes := by
        rcases Decidable.em (c ∈ hexes) with hm | hm
        · exact hm
        · rw [List.idxOf?_eq_none_iff.2 hm] at e; cases e
      obtain ⟨k, hk, hc⟩ := List.getElem_of_mem hm
      have hk16 : k < 16 := hk
      exact absurd (by rw [← hc]; simp [List.getD, hk]) (h k hk16)
    · cases e
  · rfl
theorem hex_cmp (t : List UInt8) {k : Nat} (h : k < 16) : ((txt t).toList == ((ByteArray.mk #[48, 49, 50, 51, 52, 53, 54, 55, 56, 57, 97, 98, 99, 100, 101, 102]).extract k (k + 1)).toList) = decide (t = [hexes.getD k 0]) := by
  have e0 : ∀ k, k < 16 → (hexes.take (k + 1)).drop k = [hexes.getD k 0] := by decide
  have e1 : (ByteArray.mk #[48, 49, 50, 51, 52, 53, 54, 55, 56, 57, 97, 98, 99, 100, 101, 102]) = txt hexes := rfl
  rw [e1, txt_extract, txt_toList, txt_toList, e0 k h]
  by_cases h2 : t = [hexes.getD k 0]
  · rw [decide_eq_true h2, h2]; exact beq_self_eq_true _
  · rw [decide_eq_false h2]; exact beq_eq_false_iff_ne.2 h2
set_option maxRecDepth 100000 in
theorem rdigit_any (t : List UInt8) (w : World) : Calls Try.prog 31 #[.string (txt t)] w fun r w' => r = .returned (.int .i64 (digI t)) ∧ w = w' := by
  have hsz := txt_size t
  go_enter Try.func31, Try.ntmps31
  go_wp2
  go_loop [3] (fun i => ∃ k : Nat, k ≤ 16 ∧ i = .int .i64 (k : Int) ∧ Hid (∀ j, j < k → t ≠ [hexes.getD j 0])) (fun i => 16 - (intOf i).toNat)
  case atStart => exact ⟨0, by omega, rfl, Lib.hid (fun j hj => absurd hj (by omega))⟩
  case round =>
    obtain ⟨k, hk, rfl, HK⟩ := hrel
    by_cases h1 : k < 16
    · have d1 : (k : Int) < 16 := by omega
      have hcmp := hex_cmp t h1
      by_cases h2 : t = [hexes.getD k 0]
      · have HD := Lib.hid (dig_at h1 h2)
        rw [decide_eq_true h2] at hcmp
        clear h1 h2
        go_wp2
        go_ret
        exact ⟨by rw [HD.out]; rfl, rfl⟩
      · have HN : Hid (∀ j, j < k + 1 → t ≠ [hexes.getD j 0]) := Lib.hid (fun j hj => by
          rcases Nat.lt_or_ge j k with h | h
          · exact HK.out j h
          · obtain rfl : j = k := by omega
            exact h2)
        rw [decide_eq_false h2] at hcmp
        clear h2
        go_wp2
        go_round
        case rel => exact ⟨k + 1, by omega, by go_num, HN⟩
        case measure => simp [intOf]; omega
    · obtain rfl : k = 16 := by omega
      have HD := Lib.hid (dig_no HK.out)
      clear h1
      go_wp2
      go_ret
      exact ⟨by rw [HD.out]; rfl, rfl⟩

end Go.Proofs.Ytgpcbfjakgndlaa
