/-
  What the document's Sum answers (package tollbarref04), and its Big (package tollbarref01). No condition but those of each theorem.
-/
import Derived.Test.YtepcaaejadeklaaDoorFrmNum
import Derived.Test.YtepcaaejadeklaaDoorVarRef
import Derived.Test.YtepcaaejadeklaaDoorOctD
import Derived.Outline
namespace Go.Proofs.YtepcaaejadeklaaDoor
open Go.RowKit
set_option linter.unusedSimpArgs false

theorem crT_even {x : Nat} (h : x % 2 = 0) : crT x = x / 2 := by
  unfold crT
  rw [h]
  simp [Nat.shiftRight_eq_div_pow]
theorem crT_odd {x : Nat} (h : x % 2 = 1) : crT x = x / 2 ^^^ 2197175160 := by
  unfold crT
  rw [h]
  simp [Nat.shiftRight_eq_div_pow]

set_option maxRecDepth 100000 in
set_option maxHeartbeats 4000000 in
theorem rsum_any (s : List UInt8) (w : World) (hs : s.length ≤ 100000) : Calls Tryd.prog 15 #[.string (txt s)] w (fun r w' => r = .returned (.int .u32 (crc s : Int)) ∧ w = w') := by
  have hsz := txt_size s
  go_enter Tryd.func15, Tryd.ntmps15
  go_wp2
  go_loop [3, 4] (fun x i => ∃ (j X : Nat), j ≤ s.length ∧ i = .int .i64 (j : Int) ∧ x = .int .u32 (X : Int) ∧ X < 4294967296 ∧ Hid (X = crL 4294967295 (s.take j))) (fun _ i => s.length - (intOf i).toNat)
  case atStart => exact ⟨0, 4294967295, Nat.zero_le _, rfl, rfl, by decide, Lib.hid rfl⟩
  case round =>
    obtain ⟨j, X, hj, rfl, rfl, hX, HX⟩ := hrel
    by_cases hlt : j < s.length
    · obtain ⟨b, hb⟩ : ∃ b, s[j]? = some b := ⟨_, List.getElem?_eq_getElem hlt⟩
      have hin : j < (txt s).size := by rw [txt_size]; exact hlt
      have hix : (((txt s)[j]'hin).toNat : Int) = (b.toNat : Int) := by rw [txt_get s j hlt hin]; rw [List.getElem?_eq_getElem hlt] at hb; injection hb with hb; rw [hb]
      have hb8 := UInt8.toNat_lt b
      obtain ⟨Y, hY⟩ : ∃ Y, Y = X ^^^ b.toNat := ⟨_, rfl⟩
      have hxr : bits .xor .u32 (X : Int) (b.toNat : Int) = (Y : Int) := by rw [hY]; exact u32_xor_nat X b.toNat hX (by omega)
      have hY32 : Y < 4294967296 := by
        rw [hY]
        have := Nat.xor_lt_two_pow (x := X) (y := b.toNat) (n := 32) (by omega) (by omega)
        omega
      have HN : Hid (crTn 8 Y = crL 4294967295 (s.take (j + 1))) := Lib.hid (by
        rw [List.take_succ_eq_append_getElem hlt, crL_snoc, ← HX.out, hY]
        rw [List.getElem?_eq_getElem hlt] at hb
        injection hb with hb
        rw [hb]; rfl)
      clear hb hY
      go_wp2
      clear hxr
      go_loop [3, 5] (fun x k => ∃ (i Z : Nat), i ≤ 8 ∧ k = .int .i64 (i : Int) ∧ x = .int .u32 (Z : Int) ∧ Z < 4294967296 ∧ Hid (crTn (8 - i) Z = crTn 8 Y)) (fun _ k => 8 - (intOf k).toNat)
      case atStart => exact ⟨0, Y, Nat.zero_le _, rfl, rfl, hY32, Lib.hid rfl⟩
      case round =>
        obtain ⟨i, Z, hi, rfl, rfl, hZ, HZ⟩ := hrel
        by_cases hi8 : i < 8
        · have hst : crTn (8 - i) Z = crTn (8 - (i + 1)) (crT Z) := by
            have : 8 - i = (8 - (i + 1)) + 1 := by omega
            rw [this]; rfl
          obtain ⟨H, hH⟩ : ∃ H, H = Z / 2 := ⟨_, rfl⟩
          have hHI : (Z : Int) / 2 = (H : Int) := by omega
          have hTl := crT_lt hZ
          rcases Nat.mod_two_eq_zero_or_one Z with h2 | h2
          · have hb1 : ((Z : Int) % 2 == 1) = false := by
              have h : (Z : Int) % 2 = 0 := by omega
              rw [h]; rfl
            have hT : crT Z = H := by rw [crT_even h2, hH]
            rw [hT] at hst hTl
            have HNZ : Hid (crTn (8 - (i + 1)) H = crTn 8 Y) := Lib.hid (by rw [← hst]; exact HZ.out)
            clear hst hT h2 hH
            go_wp2
            go_round
            case rel => exact ⟨i + 1, H, by omega, by go_num, rfl, hTl, HNZ⟩
            case measure => simp [intOf]; omega
          · have hb1 : ((Z : Int) % 2 == 1) = true := by
              have h : (Z : Int) % 2 = 1 := by omega
              rw [h]; rfl
            obtain ⟨Q, hQ⟩ : ∃ Q, Q = crT Z := ⟨_, rfl⟩
            have hxr2 : bits .xor .u32 (H : Int) 2197175160 = (Q : Int) := by
              rw [hQ, crT_odd h2, ← hH]
              exact u32_xor_nat H 2197175160 (by omega) (by decide)
            rw [← hQ] at hst hTl
            have HNZ : Hid (crTn (8 - (i + 1)) Q = crTn 8 Y) := Lib.hid (by rw [← hst]; exact HZ.out)
            clear hst h2 hH hQ
            go_wp2
            go_round
            case rel => exact ⟨i + 1, Q, by omega, by go_num, rfl, hTl, HNZ⟩
            case measure => simp [intOf]; omega
        · obtain rfl : i = 8 := by omega
          have HZ8 : Hid (Z = crL 4294967295 (s.take (j + 1))) := Lib.hid (by rw [← HN.out, ← HZ.out]; rfl)
          clear hi8
          go_wp2
          go_round
          case rel => exact ⟨j + 1, Z, by omega, by go_num, rfl, hZ, HZ8⟩
          case measure => simp [intOf]; omega
    · obtain rfl : j = s.length := by omega
      have hc : ((4294967295 : Int) - (X : Int)) = (crc s : Int) := by
        have h := HX.out
        rw [List.take_of_length_le (Nat.le_refl _)] at h
        unfold crc
        rw [← h]
        omega
      have HCC := Lib.hid hc
      clear hc hlt
      go_wp2
      go_ret
      exact ⟨by rw [← HCC.out]; rfl, rfl⟩

end Go.Proofs.YtepcaaejadeklaaDoor
