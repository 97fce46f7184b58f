/-
  Characters as numbers, as package lex has them (below 0: the end, a byte that is no valid encoding), and what stands behind a backslash. No program; no condition but those of each theorem.
-/
import Derived.Test.YtgpcbfjakgndlaaLexQuo
import Derived.Lib.RuneBytes
namespace Go.Proofs.Ytgpcbfjakgndlaa
set_option linter.unusedSimpArgs false

def wc (x : It) : Int := if x.2 then ((dc x.1).1 : Int) else -2
theorem u8_of {z : Int} {a : UInt8} (h : z = (a.toNat : Int)) : z.toNat.toUInt8 = a := by rw [h]; simp
theorem encR_one {a : UInt8} (h : a.toNat < 128) : Lib.encodeRune (a.toNat : Int) = [a] := by
  unfold Lib.encodeRune
  rw [Lib.encodeRuneZ_one (by omega) (by omega)]
  simp
theorem encR_two {a b : UInt8} (h : V2 a b) : Lib.encodeRune ((a.toNat % 32 * 64 + b.toNat % 64 : Nat) : Int) = [a, b] := by
  have hl := v2_lt (a := a) (b := b)
  obtain ⟨h1, h2, h3⟩ := h
  unfold Lib.encodeRune
  rw [Lib.encodeRuneZ_two (by omega) (by omega)]
  simp only [List.map_cons, List.map_nil, List.cons.injEq, and_true]
  exact ⟨u8_of (by omega), u8_of (by omega)⟩
theorem encR_three {a b c : UInt8} (h : V3 a b c) : Lib.encodeRune ((a.toNat % 16 * 4096 + b.toNat % 64 * 64 + c.toNat % 64 : Nat) : Int) = [a, b, c] := by
  have hl := v3_lt (a := a) (b := b) (c := c)
  obtain ⟨h1, h2, h3, h4, h5⟩ := h
  unfold surr at h5
  unfold Lib.encodeRune
  rw [Lib.encodeRuneZ_three (by omega)]
  simp only [List.map_cons, List.map_nil, List.cons.injEq, and_true]
  exact ⟨u8_of (by omega), u8_of (by omega), u8_of (by omega)⟩
theorem encR_four {a b c d : UInt8} (h : V4 a b c d) : Lib.encodeRune ((a.toNat % 8 * 262144 + b.toNat % 64 * 4096 + c.toNat % 64 * 64 + d.toNat % 64 : Nat) : Int) = [a, b, c, d] := by
  obtain ⟨h1, h2, h3, h4, h5, h6⟩ := h
  unfold surr at h6
  unfold Lib.encodeRune
  rw [Lib.encodeRuneZ_four (by omega) (by omega)]
  simp only [List.map_cons, List.map_nil, List.cons.injEq, and_true]
  exact ⟨u8_of (by omega), u8_of (by omega), u8_of (by omega), u8_of (by omega)⟩
/-- Which it is. -/
theorem wc_cases {x : It} (h : ItOk x) : (x.2 = false ∧ wc x = -2 ∧ ∃ a, x.1 = [a] ∧ 128 ≤ a.toNat) ∨ (∃ a, x = ([a], true) ∧ a.toNat < 128 ∧ wc x = (a.toNat : Int) ∧ Lib.encodeRune (wc x) = x.1) ∨
    (x.2 = true ∧ 2 ≤ x.1.length ∧ 128 ≤ wc x ∧ wc x ≤ 1114111 ∧ Lib.encodeRune (wc x) = x.1) := by
  obtain ⟨t, b⟩ := x
  obtain ⟨h1, h2, h3, h4⟩ := h
  simp only at h1 h2 h3 h4 ⊢
  cases b with
  | false => exact .inl ⟨rfl, rfl, h3 rfl⟩
  | true =>
    right
    rcases h4 rfl with ⟨a, rfl, ha⟩ | ⟨g1, g2, g3, g4⟩
    · left
      have e : wc ([a], true) = (a.toNat : Int) := by unfold wc; rw [if_pos rfl, dc_one [] ha]
      exact ⟨a, rfl, ha, e, by rw [e]; exact encR_one ha⟩
    · right
      refine ⟨rfl, g1, ?_⟩
      unfold wc
      rw [if_pos rfl]
      simp only
      rcases dc_cases t with ⟨a, r, rfl, h⟩ | ⟨a, b, r, rfl, h⟩ | ⟨a, b, c, r, rfl, h⟩ | ⟨a, b, c, d, r, rfl, h⟩ | h
      · rw [dc_one r h] at g4; simp only at g4; omega
      · have e := dc_two r h
        rw [e] at g4 ⊢
        simp only [List.length_cons] at g4
        obtain rfl : r = [] := List.length_eq_zero_iff.1 (by omega)
        have hl := v2_lt (a := a) (b := b)
        have := h.2.2
        exact ⟨by simp only; omega, by simp only; omega, encR_two h⟩
      · have e := dc_three r h
        rw [e] at g4 ⊢
        simp only [List.length_cons] at g4
        obtain rfl : r = [] := List.length_eq_zero_iff.1 (by omega)
        have hl := v3_lt (a := a) (b := b) (c := c)
        have := h.2.2.2.1
        exact ⟨by simp only; omega, by simp only; omega, encR_three h⟩
      · have e := dc_four r h
        rw [e] at g4 ⊢
        simp only [List.length_cons] at g4
        obtain rfl : r = [] := List.length_eq_zero_iff.1 (by omega)
        have h5 := h.2.2.2.2.1
        have h6 := h.2.2.2.2.2
        unfold surr at h6
        exact ⟨by simp only; omega, by simp only; omega, encR_four h⟩
      · rw [dc_none h1 h] at g4; simp only at g4; omega
theorem wc_range {x : It} (h : ItOk x) : -2 ≤ wc x ∧ wc x ≤ 1114111 ∧ wc x ≠ -1 := by
  rcases wc_cases h with ⟨_, e, _⟩ | ⟨a, _, ha, e, _⟩ | ⟨_, _, h1, h2, _⟩ <;> omega
theorem wc_neg {x : It} (h : ItOk x) : wc x = -2 ↔ x.2 = false := by
  rcases wc_cases h with ⟨e1, e, _⟩ | ⟨a, rfl, ha, e, _⟩ | ⟨e1, _, h1, h2, _⟩
  · exact ⟨fun _ => e1, fun _ => e⟩
  · exact ⟨fun h => by omega, fun h => by cases h⟩
  · exact ⟨fun h => by omega, fun h => by rw [e1] at h; cases h⟩
theorem wc_rune {x : It} (h : ItOk x) (h2 : x.2 = true) : Lib.encodeRune (wc x) = x.1 := by
  rcases wc_cases h with ⟨e1, _, _⟩ | ⟨a, _, _, _, e⟩ | ⟨_, _, _, _, e⟩
  · rw [e1] at h2; cases h2
  · exact e
  · exact e
/-- An ASCII character is told by its number. -/
theorem wc_ascii {x : It} (h : ItOk x) (c : UInt8) (hc : c.toNat < 128) : wc x = (c.toNat : Int) ↔ x.1 = [c] := by
  rcases wc_cases h with ⟨e1, e, a, ha, hb⟩ | ⟨a, rfl, ha, e, _⟩ | ⟨e1, hl, h1, h2, _⟩
  · refine ⟨fun h => by omega, fun h => ?_⟩
    rw [ha] at h
    injection h with h
    rw [h] at hb
    omega
  · refine ⟨fun h => ?_, fun h => ?_⟩
    · simp only [List.cons.injEq, and_true]
      exact UInt8.toNat_inj.1 (by omega)
    · injection h with h
      rw [e, h]
  · refine ⟨fun h => by omega, fun h => ?_⟩
    rw [h] at hl
    simp at hl
theorem wc_beq {x : It} (h : ItOk x) (c : UInt8) (hc : c.toNat < 128) : (wc x == (c.toNat : Int)) = (x.1 == [c]) := by
  rw [Bool.eq_iff_iff, beq_iff_eq, beq_iff_eq]
  exact wc_ascii h c hc
/-- The number at the front; -1: the end. -/
def hdc (l : List It) : Int := match l with | [] => -1 | x :: _ => wc x
def nxP (p : Ps) (l : List It) : Ps := match l with | [] => p | x :: _ => adv p x
/-- Is it one of a word? -/
def wordB (n : Int) : Bool := (decide (97 ≤ n) && decide (n ≤ 122)) || (decide (65 ≤ n) && decide (n ≤ 90)) || (decide (48 ≤ n) && decide (n ≤ 57)) || n == 95 || n == 45 || n == 46
theorem dec8 (a b : UInt8) (n m : Nat) (ha : a.toNat = n) (hb : b.toNat = m) : decide (a ≤ b) = decide ((n : Int) ≤ (m : Int)) := by
  rw [Bool.eq_iff_iff, decide_eq_true_eq, decide_eq_true_eq, UInt8.le_iff_toNat_le]
  omega
theorem beq8 (a b : UInt8) (n m : Nat) (ha : a.toNat = n) (hb : b.toNat = m) : (a == b) = ((n : Int) == (m : Int)) := by
  rw [Bool.eq_iff_iff, beq_iff_eq, beq_iff_eq, ← UInt8.toNat_inj]
  omega
theorem wordB_byte (a : UInt8) : wordB (a.toNat : Int) = letterB [a] := by
  unfold wordB letterB
  simp only
  rw [dec8 97 a 97 a.toNat rfl rfl, dec8 a 122 a.toNat 122 rfl rfl, dec8 65 a 65 a.toNat rfl rfl, dec8 a 90 a.toNat 90 rfl rfl, dec8 48 a 48 a.toNat rfl rfl, dec8 a 57 a.toNat 57 rfl rfl, beq8 a 95 a.toNat 95 rfl rfl, beq8 a 45 a.toNat 45 rfl rfl, beq8 a 46 a.toNat 46 rfl rfl]
  rfl
theorem wordB_out {n : Int} (h : n < 0 ∨ 128 ≤ n) : wordB n = false := by
  unfold wordB
  simp only [Bool.or_eq_false_iff, Bool.and_eq_false_iff, decide_eq_false_iff_not, beq_eq_false_iff_ne]
  omega
theorem letter_len {t : List UInt8} (h : t.length ≠ 1) : letterB t = false := by
  unfold letterB
  split
  · simp at h
  · rfl
theorem wordB_wc {x : It} (h : ItOk x) : wordB (wc x) = letterB x.1 := by
  rcases wc_cases h with ⟨e1, e, a, ha, hb⟩ | ⟨a, rfl, ha, e, _⟩ | ⟨e1, hl, h1, h2, _⟩
  · rw [wordB_out (by omega), ha]
    symm
    cases hx : letterB [a] with
    | false => rfl
    | true => have := letter_asc hx; omega
  · rw [e]; exact wordB_byte a
  · rw [wordB_out (by omega), letter_len (by omega)]
theorem wordB_hd (l : List It) (h : ∀ x ∈ l, ItOk x) : wordB (hdc l) = match l with | [] => false | x :: _ => letterB x.1 := by
  cases l with
  | nil => rfl
  | cons x l => exact wordB_wc (h x List.mem_cons_self)
/-- A digit's value by its number. -/
def digN (n : Int) : Option Nat := if 48 ≤ n ∧ n ≤ 57 then some (n - 48).toNat else if 97 ≤ n ∧ n ≤ 102 then some (n - 87).toNat else none
theorem digN_byte : ∀ k, k < 128 → digN ((UInt8.ofNat k).toNat : Int) = digB [UInt8.ofNat k] := by decide
theorem digB_byte (a : UInt8) (h : a.toNat < 128) : digN (a.toNat : Int) = digB [a] := by
  have := digN_byte a.toNat h
  rwa [show UInt8.ofNat a.toNat = a by simp] at this
theorem digB_high {a : UInt8} (h : 128 ≤ a.toNat) : digB [a] = none := by
  unfold digB
  simp only
  rw [List.idxOf?_eq_none_iff]
  intro hm
  have : ∀ c ∈ hexes, c.toNat < 128 := by decide
  have := this a hm
  omega
theorem digB_len {t : List UInt8} (h : t.length ≠ 1) : digB t = none := by
  unfold digB
  split
  · simp at h
  · rfl
theorem digN_wc {x : It} (h : ItOk x) : digN (wc x) = digB x.1 := by
  have out : ∀ n : Int, (n < 0 ∨ 128 ≤ n) → digN n = none := fun n h => by unfold digN; rw [if_neg (by omega), if_neg (by omega)]
  rcases wc_cases h with ⟨e1, e, a, ha, hb⟩ | ⟨a, rfl, ha, e, _⟩ | ⟨e1, hl, h1, h2, _⟩
  · rw [out _ (by omega), ha, digB_high hb]
  · rw [e]; exact digB_byte a ha
  · rw [out _ (by omega), digB_len (by omega)]
theorem digN_lt {n : Int} {i : Nat} (h : digN n = some i) : i < 16 := by
  unfold digN at h
  split at h
  · injection h with h; omega
  split at h
  · injection h with h; omega
  · cases h
/-- What stands behind a backslash: the byte, and how many characters; or where it is wrong. -/
def escX (p : Ps) (l : List It) : Sum Ps (UInt8 × Nat) := match l with
  | [] => .inl p
  | y :: r2 =>
    if y.1 = [34] then .inr (34, 1)
    else if y.1 = [92] then .inr (92, 1)
    else if y.1 = [110] then .inr (10, 1)
    else if y.1 = [116] then .inr (9, 1)
    else if y.1 = [120] then match digN (hdc r2) with
      | none => .inl (adv p y)
      | some i => match digN (hdc r2.tail) with
        | none => .inl (nxP (adv p y) r2)
        | some j => .inr (UInt8.ofNat (16 * i + j), 3)
    else .inl p
theorem digN_end : digN (hdc []) = none := by decide
theorem part_esc {p : Ps} {x : It} {r : List It} (hx : x.1 = [92]) (h2 : x.2 = true) (hr : ∀ y ∈ r, ItOk y) : partOf p (x :: r) = match escX (adv p x) r with
    | .inl q => .bad q
    | .inr (c, n) => .part [c] (n + 1) := by
  have h1 : ¬ (x.1 = [10] ∨ x.2 = false) := by rw [hx, h2]; decide
  have h3 : ¬ x.1 ≠ [92] := fun e => e hx
  unfold partOf escX
  simp only [if_neg h1, if_neg h3]
  cases r with
  | nil => rfl
  | cons y r2 =>
    simp only
    by_cases e1 : y.1 = [34]
    · simp [e1]
    by_cases e2 : y.1 = [92]
    · simp [e2]
    by_cases e3 : y.1 = [110]
    · simp [e3]
    by_cases e4 : y.1 = [116]
    · simp [e4]
    by_cases e5 : y.1 = [120]
    · have e0 : ¬ (y.1 = [34] ∨ y.1 = [92]) := fun h => h.elim e1 e2
      rw [if_neg e0, if_neg e3, if_neg e4, if_pos e5, if_neg e1, if_neg e2, if_neg e3, if_neg e4, if_pos e5]
      cases r2 with
      | nil => rw [digN_end]
      | cons a r3 =>
        have ea : digN (hdc (a :: r3)) = digB a.1 := digN_wc (hr a (by simp))
        rw [ea]
        simp only
        cases digB a.1 with
        | none => rfl
        | some i =>
          simp only [List.tail_cons]
          cases r3 with
          | nil => rw [digN_end]; rfl
          | cons c r4 =>
            have ec : digN (hdc (c :: r4)) = digB c.1 := digN_wc (hr c (by simp))
            rw [ec]
            simp only
            cases digB c.1 with
            | none => rfl
            | some j => rfl
    · simp [e1, e2, e3, e4, e5]

end Go.Proofs.Ytgpcbfjakgndlaa
