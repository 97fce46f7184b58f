/-
  What package varint's Get answers, and its helper. No condition but those of each theorem.
-/
import Derived.Test.YtepcaaejadeklaaDoorVarB
import Derived.Test.YtepcaaejadeklaaDoorVarMath
import Derived.Test.YtepcaaejadeklaaDoorOctI
import Derived.Lib.MinMax
import Derived.Outline
namespace Go.Proofs.YtepcaaejadeklaaDoor
open Go.RowKit

/-- What Get's helper answers: of some groups that are x, with a last one q behind k of them. -/
def endV (x k q : Nat) : Nat × Nat × Int :=
  if 18446744073709551616 ≤ q * 128 ^ k then (0, 0, 14) else if 0 < k ∧ q = 0 then (0, 0, 11) else (x + q * 128 ^ k, k + 1, 0)
def outV (v : Nat × Nat × Int) : Ending := .returned (.tuple #[.int .u64 (v.1 : Int), .int .i64 (v.2.1 : Int), .int .i64 v.2.2])
theorem outV_big {x k q : Nat} (h : 18446744073709551616 ≤ q * 128 ^ k) : outV (endV x k q) = .returned (.tuple #[.int .u64 0, .int .i64 0, .int .i64 14]) := by
  unfold endV; rw [if_pos h]; rfl
theorem outV_form {x k q : Nat} (h : ¬ 18446744073709551616 ≤ q * 128 ^ k) (h2 : 0 < k ∧ q = 0) : outV (endV x k q) = .returned (.tuple #[.int .u64 0, .int .i64 0, .int .i64 11]) := by
  unfold endV; rw [if_neg h, if_pos h2]; rfl
theorem outV_ok {x k q : Nat} (h : ¬ 18446744073709551616 ≤ q * 128 ^ k) (h2 : ¬ (0 < k ∧ q = 0)) : outV (endV x k q) = .returned (.tuple #[.int .u64 ((x + q * 128 ^ k : Nat) : Int), .int .i64 ((k : Int) + 1), .int .i64 0]) := by
  unfold endV; rw [if_neg h, if_neg h2]; rfl

theorem pow7 (k : Nat) : (2 : Int) ^ (7 * k) = ((128 ^ k : Nat) : Int) := by
  have h : (2 : Nat) ^ (7 * k) = 128 ^ k := by rw [Nat.pow_mul]
  rw [← h]; simp
/-- A group that is moved up, and back, is the same just if it fits. -/
theorem shift_back (k q : Nat) : (IntKind.u64.wrap ((q : Int) * 2 ^ (7 * k)) / 2 ^ (7 * k) != (q : Int)) = decide (18446744073709551616 ≤ q * 128 ^ k) := by
  rw [pow7, IntKind.wrap_u64]
  have hP : 0 < 128 ^ k := Nat.pow_pos (by decide)
  generalize 128 ^ k = P at hP
  have e : ((q : Int) * (P : Int)) % 18446744073709551616 = ((q * P % 18446744073709551616 : Nat) : Int) := by simp
  rw [e]
  have e2 : (((q * P % 18446744073709551616 : Nat) : Int) / (P : Int)) = ((q * P % 18446744073709551616 / P : Nat) : Int) := by simp
  rw [e2]
  by_cases h : 18446744073709551616 ≤ q * P
  · rw [decide_eq_true h]
    have hlt : q * P % 18446744073709551616 / P < q := by
      rw [Nat.div_lt_iff_lt_mul hP]
      have := Nat.mod_lt (q * P) (show 0 < 18446744073709551616 by decide)
      omega
    have : ((q * P % 18446744073709551616 / P : Nat) : Int) ≠ (q : Int) := by omega
    simpa using this
  · rw [decide_eq_false h, Nat.mod_eq_of_lt (by omega), Nat.mul_div_cancel _ hP]
    simp
/-- A group that fits, on top of those below. -/
theorem or_groups (x k q : Nat) (hx64 : x < 18446744073709551616) (hx : x < 128 ^ k) (h : q * 128 ^ k < 18446744073709551616) : bits .or .u64 (x : Int) (IntKind.u64.wrap ((q : Int) * 2 ^ (7 * k))) = ((x + q * 128 ^ k : Nat) : Int) := by
  rw [pow7, IntKind.wrap_u64]
  have e : ((q : Int) * ((128 ^ k : Nat) : Int)) % 18446744073709551616 = ((q * 128 ^ k : Nat) : Int) := by
    have e1 : ((q : Int) * ((128 ^ k : Nat) : Int)) = ((q * 128 ^ k : Nat) : Int) := by simp
    rw [e1]; omega
  rw [e]
  have hP : 128 ^ k = 2 ^ (7 * k) := by rw [Nat.pow_mul]
  rcases Nat.eq_zero_or_pos q with h0 | h0
  · subst h0
    rw [Nat.zero_mul]
    by_cases hb : x < 18446744073709551616
    · rw [u64_or_nat x 0 hb (by decide)]; simp
    · exfalso; exact hb hx64
  · rw [u64_or_nat x (q * 128 ^ k) hx64 h, Nat.or_comm, hP, nat_join (7 * k) (q * 2 ^ (7 * k)) x (by simp) (by rw [← hP]; exact hx)]
    congr 1
    exact Nat.add_comm _ _

theorem horner_snoc (l : List UInt8) (b : UInt8) : horner (l ++ [b]) = horner l + b.toNat % 128 * 128 ^ l.length := by
  induction l with
  | nil => simp [horner_cons, horner_nil]
  | cons c l ih =>
    rw [List.cons_append, horner_cons, horner_cons, ih, List.length_cons, Nat.pow_succ, Nat.add_mul, Nat.mul_assoc]
    omega
theorem horner_lt (l : List UInt8) : horner l < 128 ^ l.length := by
  induction l with
  | nil => simp [horner_nil]
  | cons c l ih =>
    rw [horner_cons, List.length_cons, Nat.pow_succ]
    omega

theorem ended_any (x k q : Nat) (w : World) (hk : k ≤ 9) (hq : q < 128) (hx : x < 18446744073709551616) (hxk : x < 128 ^ k) :
    Calls Tryd.prog 33 #[.int .u64 (x : Int), .int .i64 (k : Int), .int .u8 (q : Int)] w fun r w' => r = outV (endV x k q) ∧ w = w' := by
  have hsb := shift_back k q
  by_cases h1 : 18446744073709551616 ≤ q * 128 ^ k
  · have HO := Lib.hid (outV_big (x := x) h1)
    rw [decide_eq_true h1] at hsb
    clear h1 hxk
    go_enter Tryd.func33, Tryd.ntmps33
    go_wp2
    go_ret3
    exact ⟨HO.out.symm, rfl⟩
  · rw [decide_eq_false h1] at hsb
    have HOR := Lib.hid (or_groups x k q hx hxk (by omega))
    by_cases h2 : 0 < k ∧ q = 0
    · have HO := Lib.hid (outV_form (x := x) h1 h2)
      obtain ⟨h2, rfl⟩ := h2
      have hz : (((0 : Nat) : Int) == 0) = true := rfl
      clear h1 hxk
      go_enter Tryd.func33, Tryd.ntmps33
      go_wp2
      go_ret3
      exact ⟨HO.out.symm, rfl⟩
    · have HO := Lib.hid (outV_ok (x := x) h1 h2)
      by_cases h3 : 0 < k
      · have hz : ((q : Int) == 0) = false := beq_eq_false_iff_ne.2 (by omega)
        clear h1 hxk h2
        go_enter Tryd.func33, Tryd.ntmps33
        go_wp2
        go_ret3
        exact ⟨by rw [HO.out, ← HOR.out]; rfl, rfl⟩
      · obtain rfl : k = 0 := by omega
        have HO2 : Hid (outV (endV x 0 q) = .returned (.tuple #[.int .u64 (bits .or .u64 (x : Int) (q : Int)), .int .i64 1, .int .i64 0])) := Lib.hid (by
          have e : IntKind.u64.wrap ((q : Int) * 2 ^ (7 * 0)) = (q : Int) := by
            rw [IntKind.wrap_u64]; simp; omega
          rw [HO.out, ← HOR.out, e]
          rfl)
        clear h1 hxk h2 h3
        go_enter Tryd.func33, Tryd.ntmps33
        go_wp2
        go_ret3
        exact ⟨by rw [HO2.out]; rfl, rfl⟩

theorem getV_at (l : List UInt8) (k : Nat) (c : UInt8) (hk : k < 10) (hc : l[k]? = some c) (hlt : c.toNat < 128) (hgt : ∀ j b, j < k → l[j]? = some b → 127 < b.toNat) : endV (horner (l.take k)) k c.toNat = getV l := by
  have hkl : k < l.length := (List.getElem?_eq_some_iff.1 hc).1
  have hl : lead 10 l = k := lead_eq 10 l k (by omega) (by omega) hgt (.inr (.inr ⟨c, hc, by omega⟩))
  have hts : l.take (k + 1) = l.take k ++ [c] := by
    rw [List.take_succ_eq_append_getElem hkl]
    congr 2
    rw [List.getElem?_eq_getElem hkl] at hc
    injection hc
  have hh : horner (l.take (k + 1)) = horner (l.take k) + c.toNat * 128 ^ k := by
    rw [hts, horner_snoc, List.length_take, Nat.min_eq_left (by omega), Nat.mod_eq_of_lt hlt]
  have hlt2 : horner (l.take k) < 128 ^ k := by
    have h := horner_lt (l.take k)
    rwa [List.length_take, Nat.min_eq_left (by omega)] at h
  have hgd : (l.getD k 0).toNat = c.toNat := by simp [List.getD, hc]
  have hbig : 18446744073709551616 ≤ horner (l.take (k + 1)) ↔ 18446744073709551616 ≤ c.toNat * 128 ^ k := by
    rw [hh]
    constructor
    · intro h
      obtain ⟨M, hM⟩ : ∃ M, 18446744073709551616 = M * 128 ^ k := ⟨2 ^ (64 - 7 * k), by
        have : (128 : Nat) ^ k = 2 ^ (7 * k) := by rw [Nat.pow_mul]
        rw [this, ← Nat.pow_add]
        have : 64 - 7 * k + 7 * k = 64 := by omega
        rw [this]⟩
      rw [hM] at h ⊢
      have hP : 0 < 128 ^ k := Nat.pow_pos (by decide)
      apply Nat.mul_le_mul_right
      rcases Nat.lt_or_ge c.toNat M with hcm | hcm
      · exfalso
        have : (c.toNat + 1) * 128 ^ k ≤ M * 128 ^ k := Nat.mul_le_mul_right _ hcm
        rw [Nat.add_mul] at this
        omega
      · exact hcm
    · intro h; omega
  unfold endV getV
  rw [hl, if_neg (by omega : ¬ k = 10), if_neg (by omega : ¬ k = l.length), hgd]
  by_cases h1 : 18446744073709551616 ≤ c.toNat * 128 ^ k
  · rw [if_pos h1, if_pos (hbig.2 h1)]
  · rw [if_neg h1, if_neg (fun h => h1 (hbig.1 h)), hh]

set_option maxRecDepth 100000 in
set_option maxHeartbeats 1000000 in
theorem get_any (d : Nat) (v : Value) (l : List UInt8) (w : World) (h : Rd w d v l) : Calls Tryd.prog 24 #[v] w fun r w' => r = outV (getV l) ∧ w = w' := by
  obtain ⟨A, c, rfl, hlc, hc47, hA⟩ := h
  obtain ⟨m, hm⟩ : ∃ m : Nat, min (l.length : Int) 10 = (m : Int) := ⟨min l.length 10, by omega⟩
  have hm10 : m ≤ 10 := by omega
  have hml : m ≤ l.length := by omega
  have HM : Hid (m = 10 ∨ m = l.length) := Lib.hid (by omega)
  have hmx : max (m : Int) 0 = (m : Int) := by omega
  go_enter Tryd.func24, Tryd.ntmps24
  go_wp2
  clear hm hmx
  go_loop [5, 14] (fun x i => ∃ (k X : Nat), k ≤ m ∧ i = .int .i64 (k : Int) ∧ x = .int .u64 (X : Int) ∧ X < 18446744073709551616 ∧ Hid (k ≤ 9 → X = horner (l.take k)) ∧ Hid (∀ j b, j < k → l[j]? = some b → 127 < b.toNat)) (fun _ i => m - (intOf i).toNat)
  case atStart => exact ⟨0, 0, Nat.zero_le _, rfl, rfl, by decide, Lib.hid (fun _ => rfl), Lib.hid (fun j b hj => absurd hj (by omega))⟩
  case round =>
    obtain ⟨k, X, hk, rfl, rfl, hX, HX, HK⟩ := hrel
    by_cases hlt : k < m
    · obtain ⟨b, hb⟩ : ∃ b, l[k]? = some b := ⟨_, List.getElem?_eq_getElem (by omega)⟩
      obtain ⟨off, rfl, hc⟩ := hA (by omega)
      have hcell : w.cell? ⟨d, off + k, none⟩ = some (.int .u8 (b.toNat : Int)) := hc k _ hb
      have hXk := HX.out (by omega)
      by_cases hb7 : b.toNat < 128
      · have hE := getV_at l k b (by omega) hb hb7 HK.out
        rw [← hXk] at hE
        have HE := Lib.hid hE
        have hxk : X < 128 ^ k := by
          have h := horner_lt (l.take k)
          rw [List.length_take, Nat.min_eq_left (by omega), ← hXk] at h
          exact h
        obtain ⟨V, hV⟩ : ∃ V, V = endV X k b.toNat := ⟨_, rfl⟩
        have HC : Hid (Calls Tryd.prog 33 #[.int .u64 (X : Int), .int .i64 (k : Int), .int .u8 (b.toNat : Int)] w fun r w' => r = .returned (.tuple #[.int .u64 (V.1 : Int), .int .i64 (V.2.1 : Int), .int .i64 V.2.2]) ∧ w = w') :=
          Lib.hid (by rw [hV]; exact ended_any X k b.toNat w (by omega) hb7 hX hxk)
        rw [← hV] at HE
        have hb7' : (b.toNat : Int) < 128 := by omega
        clear hc hA hE hXk hxk hb hb7 hV
        go_wp2_with fail
        refine HC.out.mono ?_
        rintro r w' ⟨rfl, rfl⟩
        go_wp2
        go_ret3
        exact ⟨by rw [← HE.out]; rfl, rfl⟩
      · have hb7' : ¬ (b.toNat : Int) < 128 := by omega
        have hb8 := UInt8.toNat_lt b
        have HN : Hid (∀ j c, j < k + 1 → l[j]? = some c → 127 < c.toNat) := Lib.hid (fun j c hj hc => by
          rcases Nat.lt_or_ge j k with hlt | hge
          · exact HK.out j c hlt hc
          · obtain rfl : j = k := by omega
            rw [hb] at hc; injection hc with hc; rw [← hc]; omega)
        obtain ⟨q, hq⟩ : ∃ q, q = b.toNat % 128 := ⟨_, rfl⟩
        have hqI : (b.toNat : Int) - 128 = (q : Int) := by omega
        have hq128 : q < 128 := by omega
        obtain ⟨X', hX'⟩ : ∃ X' : Nat, bits .or .u64 (X : Int) (IntKind.u64.wrap ((q : Int) * 2 ^ (7 * k))) = (X' : Int) ∧ X' < 18446744073709551616 ∧ (k + 1 ≤ 9 → X' = horner (l.take (k + 1))) := by
          by_cases hk8 : k + 1 ≤ 9
          · have hxk : X < 128 ^ k := by
              have h := horner_lt (l.take k)
              rw [List.length_take, Nat.min_eq_left (by omega), ← hXk] at h
              exact h
            have hpw : 128 ^ k * 128 ≤ 128 ^ 9 := by rw [← Nat.pow_succ]; exact Nat.pow_le_pow_right (by decide) hk8
            have hqp : (q + 1) * 128 ^ k ≤ 128 * 128 ^ k := Nat.mul_le_mul_right _ hq128
            have h9 : (128 : Nat) ^ 9 = 9223372036854775808 := by decide
            rw [Nat.add_mul] at hqp
            refine ⟨X + q * 128 ^ k, or_groups X k q hX hxk (by omega), by omega, fun _ => ?_⟩
            have hts : l.take (k + 1) = l.take k ++ [b] := by
              have hkl : k < l.length := by omega
              rw [List.take_succ_eq_append_getElem hkl]
              congr 2
              rw [List.getElem?_eq_getElem hkl] at hb
              injection hb
            rw [hts, horner_snoc, List.length_take, Nat.min_eq_left (by omega), ← hXk, ← hq]
          · refine ⟨X ||| (IntKind.u64.wrap ((q : Int) * 2 ^ (7 * k))).toNat, ?_, ?_, fun h => absurd h hk8⟩
            · have hw : 0 ≤ IntKind.u64.wrap ((q : Int) * 2 ^ (7 * k)) ∧ IntKind.u64.wrap ((q : Int) * 2 ^ (7 * k)) < 18446744073709551616 := by
                rw [IntKind.wrap_u64]
                generalize (q : Int) * 2 ^ (7 * k) = z
                omega
              generalize IntKind.u64.wrap ((q : Int) * 2 ^ (7 * k)) = z at hw
              obtain ⟨z, rfl⟩ := Int.eq_ofNat_of_zero_le hw.1
              exact u64_or_nat X z hX (by omega)
            · have hw : (IntKind.u64.wrap ((q : Int) * 2 ^ (7 * k))).toNat < 2 ^ 64 := by
                rw [IntKind.wrap_u64]
                generalize (q : Int) * 2 ^ (7 * k) = z
                omega
              have := Nat.or_lt_two_pow (x := X) (n := 64) (by omega) hw
              omega
        obtain ⟨hX1, hX2, hX3⟩ := hX'
        have HX1 := Lib.hid hX1
        have HX3 := Lib.hid hX3
        clear hc hA hXk hb hb7 hq hX1 hX3
        go_wp2
        go_round
        case rel => exact ⟨k + 1, X', by omega, by go_num, by rw [← HX1.out], hX2, HX3, HN⟩
        case measure => simp [intOf]; omega
    · obtain rfl : k = m := by omega
      by_cases h10 : l.length < 10
      · have hkl : k = l.length := by rcases HM.out with h | h <;> omega
        have hl : lead 10 l = l.length := lead_eq 10 l _ (by omega) (Nat.le_refl _) (fun j b hj hb => HK.out j b (by omega) hb) (.inr (.inl rfl))
        have HO : Hid (outV (getV l) = .returned (.tuple #[.int .u64 0, .int .i64 0, .int .i64 10])) := Lib.hid (by
          unfold getV
          rw [hl, if_neg (by omega), if_pos rfl]
          rfl)
        clear hl hkl
        go_wp2
        go_ret3
        exact ⟨HO.out.symm, rfl⟩
      · have hkl : k = 10 := by rcases HM.out with h | h <;> omega
        have hl : lead 10 l = 10 := lead_eq 10 l _ (by omega) (by omega) (fun j b hj hb => HK.out j b (by omega) hb) (.inl rfl)
        have HO : Hid (outV (getV l) = .returned (.tuple #[.int .u64 0, .int .i64 0, .int .i64 14])) := Lib.hid (by
          unfold getV
          rw [hl, if_pos rfl]
          rfl)
        clear hl hkl
        go_wp2
        go_ret3
        exact ⟨HO.out.symm, rfl⟩

end Go.Proofs.YtepcaaejadeklaaDoor
