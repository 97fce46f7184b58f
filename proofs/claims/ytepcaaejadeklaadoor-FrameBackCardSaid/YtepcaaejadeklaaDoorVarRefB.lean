/-
  What the document's answers for layer 2 compute, the rest: Get and Take. No condition but those of each theorem.
-/
import Derived.Test.YtepcaaejadeklaaDoorVarRef
import Derived.WalkLawsBesides
namespace Go.Proofs.YtepcaaejadeklaaDoor
open Go.RowKit
set_option linter.unusedSimpArgs false

def getOut (s : List UInt8) : Ending := .returned (.tuple #[.int .u64 ((getV s).1 : Int), .int .i64 ((getV s).2.1 : Int), .int .i64 (getV s).2.2])
def RGetPost (s : List UInt8) (w : World) (r : Ending) (w' : World) : Prop := r = getOut s ∧ w = w'

set_option maxRecDepth 100000 in
set_option maxHeartbeats 4000000 in
theorem rget_any (s : List UInt8) (w : World) (hs : s.length ≤ 100000) : Calls Tryd.prog 27 #[.string (txt s)] w (RGetPost s w) := by
  have hsz := txt_size s
  go_enter Tryd.func27, Tryd.ntmps27
  go_wp2
  go_loop [5] (fun i => ∃ k : Nat, k ≤ 10 ∧ k ≤ s.length ∧ i = .int .i64 (k : Int) ∧ Hid (∀ j b, j < k → s[j]? = some b → 127 < b.toNat)) (fun i => 10 - (intOf i).toNat)
  case atStart => exact ⟨0, by omega, by omega, rfl, fun j b hj => absurd hj (by omega)⟩
  case round =>
    obtain ⟨k, hk10, hkl, rfl, HK⟩ := hrel
    by_cases h1 : k < s.length
    · by_cases h2 : k < 10
      · obtain ⟨b, hb⟩ : ∃ b, s[k]? = some b := ⟨_, List.getElem?_eq_getElem h1⟩
        have hin : k < (txt s).size := by rw [txt_size]; exact h1
        have hix : (((txt s)[k]'hin).toNat : Int) = (b.toNat : Int) := by rw [txt_get s k h1 hin]; rw [List.getElem?_eq_getElem h1] at hb; injection hb with hb; rw [hb]
        have hd1 : decide (k < s.length) = true := decide_eq_true h1
        have hd2 : decide ((k : Int) < 10) = true := decide_eq_true (by omega)
        by_cases h3 : 127 < b.toNat
        · have h3' : (127 : Int) < (b.toNat : Int) := by omega
          have HN : Hid (∀ j c, j < k + 1 → s[j]? = some c → 127 < c.toNat) := fun j c hj hc => by
            rcases Nat.lt_or_ge j k with hlt | hge
            · exact HK j c hlt hc
            · obtain rfl : j = k := by omega
              rw [hb] at hc; injection hc with hc; rw [← hc]; exact h3
          clear h3 hb
          go_wp2
          go_round
          case rel => exact ⟨k + 1, by omega, by omega, by go_num, HN⟩
          case measure => simp [intOf]; omega
        · have h3' : ¬ (127 : Int) < (b.toNat : Int) := by omega
          have hl : lead 10 s = k := lead_eq 10 s k hk10 hkl HK.out (.inr (.inr ⟨b, hb, h3⟩))
          have HL := Lib.hid hl
          clear hl
          have hk1 : (s.take (k + 1)).length = k + 1 := by rw [List.length_take]; omega
          have hkl' : ¬ k = s.length := by omega
          have hkb : (s.getD k 0).toNat = b.toNat := by simp [List.getD, hb]
          have HKB := Lib.hid hkb
          have hk10' : ((k : Int) == 10) = false := beq_eq_false_iff_ne.2 (by omega)
          have hkl2 : ((k : Int) == (s.length : Int)) = false := beq_eq_false_iff_ne.2 (by omega)
          have HB := Lib.hid hb
          clear hkb hb hk1
          go_wp2
          clear hd1 hd2 h3 h3'
          go_loop [6, 7] (fun x i => ∃ (m X : Nat) (iI : Int), m ≤ k + 1 ∧ iI = (m : Int) - 1 ∧ i = .int .i64 iI ∧ x = .int .u64 (X : Int) ∧ Hid (X = horner ((s.take (k + 1)).drop m)) ∧ Hid (X < 18446744073709551616)) (fun _ i => (intOf i + 1).toNat)
          case atStart => exact ⟨k + 1, 0, (k : Int), by omega, by omega, rfl, rfl, Lib.hid (by rw [List.drop_eq_nil_of_le (by rw [List.length_take]; omega)]; rfl), Lib.hid (by decide)⟩
          case round =>
            obtain ⟨m, X, iI, hm, hiI, rfl, rfl, HX, HX64⟩ := hrel
            cases m with
            | zero =>
              obtain rfl : iI = -1 := by omega
              clear hiI hm
              have hX : horner (s.take (k + 1)) = X := by have h := HX.out; rw [List.drop_zero] at h; exact h.symm
              have HF : Hid (0 < k → b.toNat = 0 → getOut s = .returned (.tuple #[.int .u64 0, .int .i64 0, .int .i64 11])) := Lib.hid (fun h0 hb0 => by
                have hl := HL.out
                have h10 : ¬ k = 10 := by omega
                have h64 : ¬ 18446744073709551616 ≤ X := Nat.not_le.2 HX64.out
                have hkb := HKB.out
                unfold getOut getV
                rw [hl, if_neg h10, if_neg hkl', hX, if_neg h64, if_pos ⟨h0, by omega⟩]
                rfl)
              have HG : Hid (¬ (0 < k ∧ b.toNat = 0) → getOut s = .returned (.tuple #[.int .u64 (X : Int), .int .i64 ((k : Int) + 1), .int .i64 0])) := Lib.hid (fun h0 => by
                have hl := HL.out
                have h10 : ¬ k = 10 := by omega
                have h64 : ¬ 18446744073709551616 ≤ X := Nat.not_le.2 HX64.out
                have hkb := HKB.out
                unfold getOut getV
                rw [hl, if_neg h10, if_neg hkl', hX, if_neg h64, if_neg (by rw [hkb]; exact h0)]
                rfl)
              clear hX
              go_wp2_with fail
              all_goals
                go_ret3
                refine ⟨?_, rfl⟩
                first
                | (rename (((b.toNat : Int)) == 0) = true => hz; exact (HF.out (by omega) (by have := eq_of_beq hz; omega)).symm)
                | (exact (HG.out (fun h => by
                    obtain ⟨h1, h2⟩ := h
                    first
                    | omega
                    | (rename (((b.toNat : Int)) == 0) = false => hz; rw [h2] at hz; exact absurd hz (by decide)))).symm)
            | succ p =>
              obtain rfl : iI = (p : Int) := by omega
              obtain ⟨c, hc⟩ : ∃ c, s[p]? = some c := ⟨_, List.getElem?_eq_getElem (by omega)⟩
              have hin2 : p < (txt s).size := by rw [txt_size]; omega
              have hix2 : (((txt s)[p]'hin2).toNat : Int) = (c.toNat : Int) := by rw [txt_get s p (by omega) hin2]; rw [List.getElem?_eq_getElem (by omega)] at hc; injection hc with hc; rw [hc]
              have hct : (s.take (k + 1))[p]? = some c := by rw [List.getElem?_take_of_lt (by omega)]; exact hc
              have hdr := horner_drop _ _ _ hct
              obtain ⟨q, hq⟩ : ∃ q, q = c.toNat % 128 := ⟨_, rfl⟩
              have hqI : (c.toNat : Int) % 128 = (q : Int) := by omega
              have hq128 : q < 128 := by omega
              by_cases hbigx : 144115188075855871 < X
              · have hge := horner_ge (s.take (k + 1)) (p + 1)
                have hpow : 128 ≤ 128 ^ (p + 1) := by rw [Nat.pow_succ]; have : 0 < 128 ^ p := Nat.pow_pos (by decide); omega
                have hbig2 : 18446744073709551616 ≤ horner (s.take (k + 1)) := by
                  rw [← HX.out] at hge
                  have : X * 128 ≤ X * 128 ^ (p + 1) := Nat.mul_le_mul_left _ hpow
                  omega
                have HO : Hid (getOut s = .returned (.tuple #[.int .u64 0, .int .i64 0, .int .i64 14])) := Lib.hid (by
                  have hl := HL.out
                  have h10 : ¬ k = 10 := by omega
                  unfold getOut getV
                  rw [hl, if_neg h10, if_neg hkl', if_pos hbig2]
                  rfl)
                have hbX : decide ((144115188075855871 : Int) < (X : Int)) = true := decide_eq_true (by omega)
                clear hge hpow hbig2 hdr hct hc hq hbigx hiI
                go_wp2
                go_ret3
                exact ⟨HO.out.symm, rfl⟩
              · have hbX : decide ((144115188075855871 : Int) < (X : Int)) = false := decide_eq_false (by omega)
                have hX57 : X ≤ 144115188075855871 := by omega
                have HN : Hid (128 * X + q = horner ((s.take (k + 1)).drop p)) := Lib.hid (by rw [hdr, ← HX.out, ← hq]; omega)
                have HN64 : Hid (128 * X + q < 18446744073709551616) := Lib.hid (by omega)
                clear hdr hct hc hq hbigx hiI
                go_wp2
                go_round
                case rel => exact ⟨p, 128 * X + q, (p : Int) - 1, by omega, rfl, rfl, by go_num, HN, HN64⟩
                case measure => simp [intOf]
      · obtain rfl : k = 10 := by omega
        have hl : lead 10 s = 10 := lead_eq 10 s 10 (by omega) hkl HK.out (.inl rfl)
        have HO : Hid (getOut s = .returned (.tuple #[.int .u64 0, .int .i64 0, .int .i64 14])) := Lib.hid (by simp [getOut, getV, hl])
        clear hl
        go_wp2
        go_ret3
        exact ⟨HO.out.symm, rfl⟩
    · obtain rfl : k = s.length := by omega
      have hl : lead 10 s = s.length := lead_eq 10 s _ hk10 hkl HK.out (.inr (.inl rfl))
      by_cases h10 : s.length = 10
      · have HO : Hid (getOut s = .returned (.tuple #[.int .u64 0, .int .i64 0, .int .i64 14])) := Lib.hid (by simp [getOut, getV, hl, h10])
        clear hl
        go_wp2
        go_ret3
        exact ⟨HO.out.symm, rfl⟩
      · have HO : Hid (getOut s = .returned (.tuple #[.int .u64 0, .int .i64 0, .int .i64 10])) := Lib.hid (by simp [getOut, getV, hl, h10])
        have hne : ((s.length : Int) == 10) = false := beq_eq_false_iff_ne.2 (by omega)
        clear hl
        go_wp2
        go_ret3
        exact ⟨HO.out.symm, rfl⟩

end Go.Proofs.YtepcaaejadeklaaDoor
