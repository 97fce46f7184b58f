/-
  Numbers in decimal digits, rates with a unit behind them, and names: pure mathematics of layer 6. No program; no condition but those of each theorem.
-/
import Derived.Test.YtpaapjafnjipfaaDoorOctRef
namespace Go.Proofs.YtpaapjafnjipfaaDoor
set_option linter.unusedSimpArgs false

/-! ### Digits -/
/-- The last digit. -/
def dgB (x : Nat) : UInt8 := UInt8.ofNat (48 + x % 10)
theorem dg_toNat (x : Nat) : (dgB x).toNat = 48 + x % 10 := by
  unfold dgB
  rw [UInt8.toNat_ofNat']
  omega
def isDg (c : UInt8) : Bool := decide (48 ≤ c.toNat) && decide (c.toNat ≤ 57)
theorem isDg_iff {c : UInt8} : isDg c = true ↔ 48 ≤ c.toNat ∧ c.toNat ≤ 57 := by simp [isDg]
theorem dg_is (x : Nat) : isDg (dgB x) = true := by rw [isDg_iff, dg_toNat]; omega
theorem dg_of {c : UInt8} (h : isDg c = true) (x : Nat) (hx : x % 10 = c.toNat - 48) : dgB x = c := by
  rw [isDg_iff] at h
  apply UInt8.toNat_inj.1
  rw [dg_toNat, hx]
  omega
def decF : Nat → Nat → List UInt8
  | 0, x => [dgB x]
  | f + 1, x => if x ≤ 9 then [dgB x] else decF f (x / 10) ++ [dgB x]
theorem decF_fuel : ∀ (f g x : Nat), x ≤ f → x ≤ g → decF f x = decF g x := by
  intro f
  induction f with
  | zero =>
    intro g x hf hg
    obtain rfl : x = 0 := by omega
    cases g with
    | zero => rfl
    | succ g => simp [decF]
  | succ f ih =>
    intro g x hf hg
    cases g with
    | zero =>
      obtain rfl : x = 0 := by omega
      simp [decF]
    | succ g =>
      unfold decF
      by_cases h : x ≤ 9
      · rw [if_pos h, if_pos h]
      · rw [if_neg h, if_neg h, ih g (x / 10) (by omega) (by omega)]
/-- A number's text. -/
def dec (x : Nat) : List UInt8 := decF x x
theorem dec_small {x : Nat} (h : x ≤ 9) : dec x = [dgB x] := by
  unfold dec
  cases x with
  | zero => rfl
  | succ x => unfold decF; rw [if_pos h]
theorem dec_big {x : Nat} (h : 9 < x) : dec x = dec (x / 10) ++ [dgB x] := by
  obtain ⟨y, rfl⟩ : ∃ y, x = y + 1 := ⟨x - 1, by omega⟩
  show decF (y + 1) (y + 1) = _
  unfold decF
  rw [if_neg (by omega), decF_fuel y ((y + 1) / 10) ((y + 1) / 10) (by omega) (Nat.le_refl _)]
  rfl
/-- By tenths. -/
theorem ten_ind {p : Nat → Prop} (h0 : ∀ x, x ≤ 9 → p x) (h1 : ∀ x, 9 < x → p (x / 10) → p x) (x : Nat) : p x := by
  suffices h : ∀ n x, x ≤ n → p x from h x x (Nat.le_refl _)
  intro n
  induction n with
  | zero => intro x hx; exact h0 x (by omega)
  | succ n ih =>
    intro x hx
    by_cases h : x ≤ 9
    · exact h0 x h
    · exact h1 x (by omega) (ih _ (by omega))
/-- All digits but the last one. -/
def decH (x : Nat) : List UInt8 := if x ≤ 9 then [] else dec (x / 10)
theorem dec_head_last (x : Nat) : dec x = decH x ++ [dgB x] := by
  unfold decH
  by_cases h : x ≤ 9
  · rw [if_pos h, dec_small h]; rfl
  · rw [if_neg h, dec_big (by omega)]
theorem dec_ne (x : Nat) : dec x ≠ [] := by rw [dec_head_last]; simp
theorem dec_all (x : Nat) : ∀ c ∈ dec x, isDg c = true := by
  refine ten_ind (p := fun x => ∀ c ∈ dec x, isDg c = true) (fun x h => ?_) (fun x h ih => ?_) x
  · rw [dec_small h]; intro c hc; simp at hc; rw [hc]; exact dg_is x
  · rw [dec_big h]
    intro c hc
    rcases List.mem_append.1 hc with hc | hc
    · exact ih c hc
    · simp at hc; rw [hc]; exact dg_is x
theorem dec_zero_head (x : Nat) (h : (dec x).getD 0 0 = 48) : x = 0 := by
  revert h
  refine ten_ind (p := fun x => (dec x).getD 0 0 = 48 → x = 0) (fun x h => ?_) (fun x h ih => ?_) x
  · rw [dec_small h]
    intro e
    have e2 : (dgB x).toNat = 48 := by
      have : dgB x = 48 := by simpa using e
      rw [this]; rfl
    rw [dg_toNat] at e2
    omega
  · rw [dec_big h]
    intro e
    have hp := List.length_pos_iff.2 (dec_ne (x / 10))
    rw [List.getD, List.getElem?_append_left hp] at e
    have := ih e
    omega
/-- A text's value. -/
def valFrom (a : Nat) (s : List UInt8) : Nat := s.foldl (fun x c => 10 * x + (c.toNat - 48)) a
def valF (s : List UInt8) : Nat := valFrom 0 s
theorem val_snoc (s : List UInt8) (c : UInt8) : valF (s ++ [c]) = 10 * valF s + (c.toNat - 48) := by unfold valF valFrom; rw [List.foldl_append]; rfl
theorem val_dec (x : Nat) : valF (dec x) = x := by
  refine ten_ind (p := fun x => valF (dec x) = x) (fun x h => ?_) (fun x h ih => ?_) x
  · rw [dec_small h]
    show 10 * 0 + ((dgB x).toNat - 48) = x
    rw [dg_toNat]; omega
  · rw [dec_big h, val_snoc, ih, dg_toNat]; omega
theorem snoc_ind {p : List UInt8 → Prop} (h0 : p []) (h1 : ∀ s c, p s → p (s ++ [c])) (s : List UInt8) : p s := by
  have h : ∀ t : List UInt8, p t.reverse := by
    intro t
    induction t with
    | nil => exact h0
    | cons c t ih => rw [List.reverse_cons]; exact h1 _ _ ih
  have := h s.reverse
  rwa [List.reverse_reverse] at this
/-- DIGITS WITHOUT A LEADING ZERO ARE THE TEXT OF THEIR VALUE. -/
theorem dec_val (s : List UInt8) : (∀ c ∈ s, isDg c = true) → s ≠ [] → (s.length = 1 ∨ s.getD 0 0 ≠ 48) → dec (valF s) = s := by
  refine snoc_ind (p := fun s => (∀ c ∈ s, isDg c = true) → s ≠ [] → (s.length = 1 ∨ s.getD 0 0 ≠ 48) → dec (valF s) = s) (fun _ h => absurd rfl h) (fun s c ih ha _ hz => ?_) s
  have hc := ha c (by simp)
  have hc2 := isDg_iff.1 hc
  rw [val_snoc]
  by_cases h0 : s = []
  · subst h0
    rw [show 10 * valF [] + (c.toNat - 48) = c.toNat - 48 by show 10 * 0 + _ = _; omega, dec_small (by omega), dg_of hc _ (by omega)]
    rfl
  have hp := List.length_pos_iff.2 h0
  have hz2 : s.getD 0 0 ≠ 48 := by
    rcases hz with h | h
    · rw [List.length_append] at h; simp at h; exact absurd h h0
    · rwa [List.getD, List.getElem?_append_left hp] at h
  have ih2 := ih (fun d hd => ha d (by simp [hd])) h0 (.inr hz2)
  have hv : 0 < valF s := by
    rcases Nat.eq_zero_or_pos (valF s) with e | e
    · rw [e] at ih2
      rw [← ih2] at hz2
      exact absurd rfl hz2
    · exact e
  rw [dec_big (by omega), show (10 * valF s + (c.toNat - 48)) / 10 = valF s by omega, ih2, dg_of hc _ (by omega)]
theorem dec_len (k : Nat) : ∀ x, x < 10 ^ (k + 1) → (dec x).length ≤ k + 1 := by
  induction k with
  | zero => intro x h; rw [dec_small (by simpa using Nat.le_of_lt_succ h)]; simp
  | succ k ih =>
    intro x h
    by_cases h9 : x ≤ 9
    · rw [dec_small h9]; simp
    · rw [dec_big (by omega), List.length_append]
      have := ih (x / 10) (by rw [Nat.div_lt_iff_lt_mul (by decide)]; rw [Nat.pow_succ] at h; exact h)
      simp only [List.length_cons, List.length_nil]
      omega
theorem dec_len20 {x : Nat} (h : x < 18446744073709551616) : (dec x).length ≤ 20 := dec_len 19 x (by omega)
theorem dec_mono : ∀ {x y : Nat}, x ≤ y → (dec x).length ≤ (dec y).length := by
  intro x y
  revert x
  refine ten_ind (p := fun y => ∀ {x}, x ≤ y → (dec x).length ≤ (dec y).length) (fun y h x hx => ?_) (fun y h ih x hx => ?_) y
  · rw [dec_small h, dec_small (by omega)]; exact Nat.le_refl _
  · rw [dec_big h, List.length_append]
    by_cases h9 : x ≤ 9
    · rw [dec_small h9]; simp
    · rw [dec_big (by omega), List.length_append]
      have := ih (x := x / 10) (by omega)
      simp only [List.length_cons, List.length_nil]
      omega
theorem dec_ten {x : Nat} (h : 0 < x) : (dec (10 * x)).length = (dec x).length + 1 := by
  rw [dec_big (by omega), List.length_append, show 10 * x / 10 = x by omega]
  rfl
/-! ### Told again -/
def stepW (x : Nat) (c : UInt8) : Nat := (10 * x + c.toNat + 18446744073709551568) % 18446744073709551616
def w20 (s : List UInt8) : Nat := (s.take 20).foldl stepW 0
theorem stepW_val (s : List UInt8) : ∀ a, (∀ c ∈ s, isDg c = true) → s.foldl stepW (a % 18446744073709551616) = valFrom a s % 18446744073709551616 := by
  induction s with
  | nil => intro a _; rfl
  | cons c s ih =>
    intro a h
    have hc := isDg_iff.1 (h c (by simp))
    have e : stepW (a % 18446744073709551616) c = (10 * a + (c.toNat - 48)) % 18446744073709551616 := by unfold stepW; omega
    rw [List.foldl_cons, e, ih _ (fun d hd => h d (by simp [hd]))]
    rfl
theorem w20_lt (s : List UInt8) : w20 s < 18446744073709551616 := by
  unfold w20
  generalize s.take 20 = t
  rcases List.eq_nil_or_concat t with rfl | ⟨t, c, rfl⟩
  · rw [List.foldl_nil]; omega
  · rw [List.concat_eq_append, List.foldl_append, List.foldl_cons, List.foldl_nil]
    unfold stepW
    exact Nat.mod_lt _ (by omega)
theorem w20_dec {x : Nat} (h : x < 18446744073709551616) : w20 (dec x) = x := by
  unfold w20
  rw [List.take_of_length_le (dec_len20 h)]
  have e := stepW_val (dec x) 0 (dec_all x)
  rw [show valFrom 0 (dec x) = x from val_dec x] at e
  rw [show (0 : Nat) = 0 % 18446744073709551616 from rfl, e]
  omega
/-- What Uint tells. -/
def uintX (s : List UInt8) : Option Nat := if dec (w20 s) = s then some (w20 s) else none
theorem uint_iff {s : List UInt8} {x : Nat} : uintX s = some x ↔ x < 18446744073709551616 ∧ s = dec x := by
  unfold uintX
  constructor
  · intro h
    split at h
    · rename_i e
      injection h with h
      subst h
      exact ⟨w20_lt s, e.symm⟩
    · cases h
  · rintro ⟨h, rfl⟩
    rw [w20_dec h, if_pos rfl]
theorem uint_dec {x : Nat} (h : x < 18446744073709551616) : uintX (dec x) = some x := uint_iff.2 ⟨h, rfl⟩
theorem uint_val {s : List UInt8} (h1 : ∀ c ∈ s, isDg c = true) (h2 : s ≠ []) (h3 : s.length = 1 ∨ s.getD 0 0 ≠ 48) (h4 : valF s < 18446744073709551616) : uintX s = some (valF s) := uint_iff.2 ⟨h4, (dec_val s h1 h2 h3).symm⟩
theorem uint_no {s : List UInt8} (h : (∃ c ∈ s, isDg c = false) ∨ s = [] ∨ (1 < s.length ∧ s.getD 0 0 = 48) ∨ 20 < s.length ∨ 18446744073709551616 ≤ valF s) : uintX s = none := by
  cases hu : uintX s with
  | none => rfl
  | some x =>
    obtain ⟨hx, rfl⟩ := uint_iff.1 hu
    rcases h with ⟨c, hc, hd⟩ | h | ⟨h, h'⟩ | h | h
    · rw [dec_all x c hc] at hd; cases hd
    · exact absurd h (dec_ne x)
    · have := dec_zero_head x h'
      subst this
      exact absurd h (by decide)
    · have := dec_len20 hx; omega
    · rw [val_dec] at h; omega
/-! ### Rates -/
def unitX (s : List UInt8) : List UInt8 × Nat := if s.getLast? = some 109 then (s.dropLast, 1000000) else if s.getLast? = some 107 then (s.dropLast, 1000) else (s, 1)
def rateX (s : List UInt8) : Option Nat := match uintX (unitX s).1 with
  | none => none
  | some x => if 18446744073709551615 / (unitX s).2 < x then none else some (x * (unitX s).2)
def showRateX (x : Nat) : List UInt8 := if 0 < x ∧ x % 1000000 = 0 then dec (x / 1000000) ++ [109] else if 0 < x ∧ x % 1000 = 0 then dec (x / 1000) ++ [107] else dec x
theorem unit_m (s : List UInt8) : unitX (s ++ [109]) = (s, 1000000) := by unfold unitX; simp
theorem unit_k (s : List UInt8) : unitX (s ++ [107]) = (s, 1000) := by unfold unitX; simp
theorem unit_dec (x : Nat) : unitX (dec x) = (dec x, 1) := by
  have h : (dec x).getLast? = some (dgB x) := by rw [dec_head_last]; simp
  have ht := dg_toNat x
  unfold unitX
  rw [h, if_neg (fun e => by injection e with e; rw [e] at ht; have : (109 : UInt8).toNat = 109 := rfl; omega), if_neg (fun e => by injection e with e; rw [e] at ht; have : (107 : UInt8).toNat = 107 := rfl; omega)]
theorem unit_ways (s : List UInt8) : (∃ t, s = t ++ [109] ∧ unitX s = (t, 1000000)) ∨ (∃ t, s = t ++ [107] ∧ unitX s = (t, 1000)) ∨ (unitX s = (s, 1) ∧ s.getLast? ≠ some 109 ∧ s.getLast? ≠ some 107) := by
  by_cases h0 : s = []
  · subst h0; exact .inr (.inr ⟨rfl, by simp, by simp⟩)
  have hl := List.dropLast_concat_getLast h0
  have hg := List.getLast?_eq_some_getLast h0
  by_cases h1 : s.getLast h0 = 109
  · rw [h1] at hl
    exact .inl ⟨s.dropLast, hl.symm, by rw [← hl, unit_m]; simp⟩
  by_cases h2 : s.getLast h0 = 107
  · rw [h2] at hl
    exact .inr (.inl ⟨s.dropLast, hl.symm, by rw [← hl, unit_k]; simp⟩)
  · have n1 : s.getLast? ≠ some 109 := by rw [hg]; simpa using h1
    have n2 : s.getLast? ≠ some 107 := by rw [hg]; simpa using h2
    exact .inr (.inr ⟨by unfold unitX; rw [if_neg n1, if_neg n2], n1, n2⟩)
theorem rate_m {x : Nat} (h : x < 18446744073709551616) : rateX (dec x ++ [109]) = if 18446744073709 < x then none else some (x * 1000000) := by unfold rateX; rw [unit_m]; simp only [uint_dec h]
theorem rate_k {x : Nat} (h : x < 18446744073709551616) : rateX (dec x ++ [107]) = if 18446744073709551 < x then none else some (x * 1000) := by unfold rateX; rw [unit_k]; simp only [uint_dec h]
theorem rate_dec {x : Nat} (h : x < 18446744073709551616) : rateX (dec x) = some x := by
  unfold rateX
  rw [unit_dec]
  simp only [uint_dec h]
  rw [if_neg (by omega), Nat.mul_one]
theorem rate_show {x : Nat} (h : x < 18446744073709551616) : rateX (showRateX x) = some x := by
  unfold showRateX
  by_cases h1 : 0 < x ∧ x % 1000000 = 0
  · rw [if_pos h1, rate_m (by omega), if_neg (by omega)]
    congr 1
    omega
  rw [if_neg h1]
  by_cases h2 : 0 < x ∧ x % 1000 = 0
  · rw [if_pos h2, rate_k (by omega), if_neg (by omega)]
    congr 1
    omega
  · rw [if_neg h2, rate_dec h]
theorem rate_lt {s : List UInt8} {y : Nat} (h : rateX s = some y) : y < 18446744073709551616 := by
  unfold rateX at h
  split at h
  · cases h
  · rename_i x hx
    split at h
    · cases h
    · rename_i hn
      injection h with h
      rcases unit_ways s with ⟨t, _, e⟩ | ⟨t, _, e⟩ | ⟨e, _⟩ <;> rw [e] at h hn <;> simp only at h hn <;> omega
theorem dec_thou {x : Nat} (h : 0 < x) : (dec (1000 * x)).length = (dec x).length + 3 := by
  rw [show 1000 * x = 10 * (10 * (10 * x)) by omega, dec_ten (by omega), dec_ten (by omega), dec_ten h]
theorem dec_one (x : Nat) : 1 ≤ (dec x).length := List.length_pos_iff.2 (dec_ne x)
/-- NO TEXT OF A RATE IS SHORTER THAN THE ONE SHOWN. -/
theorem rate_short {s : List UInt8} {y : Nat} (h : rateX s = some y) : (showRateX y).length ≤ s.length := by
  unfold rateX at h
  cases hu : uintX (unitX s).1 with
  | none => rw [hu] at h; cases h
  | some x =>
    rw [hu] at h
    simp only at h
    split at h
    · cases h
    rename_i hn
    injection h with h
    obtain ⟨hx, ht⟩ := uint_iff.1 hu
    unfold showRateX
    have d0 := dec_one 0
    have z0 : (dec 0).length = 1 := rfl
    rcases unit_ways s with ⟨t, rfl, e⟩ | ⟨t, rfl, e⟩ | ⟨e, _⟩
    all_goals
      rw [e] at h ht hn
      simp only at h ht hn
      subst ht
      subst h
    · have d1 := dec_one x
      by_cases h1 : 0 < x * 1000000 ∧ x * 1000000 % 1000000 = 0
      · rw [if_pos h1, show x * 1000000 / 1000000 = x by omega]
        simp
      · obtain rfl : x = 0 := by omega
        simp [z0]
    · have d1 := dec_one x
      by_cases h1 : 0 < x * 1000 ∧ x * 1000 % 1000000 = 0
      · rw [if_pos h1, List.length_append, List.length_append]
        have := dec_mono (x := x * 1000 / 1000000) (y := x) (by omega)
        simp only [List.length_cons, List.length_nil]
        omega
      rw [if_neg h1]
      by_cases h2 : 0 < x * 1000 ∧ x * 1000 % 1000 = 0
      · rw [if_pos h2, show x * 1000 / 1000 = x by omega]
        simp
      · obtain rfl : x = 0 := by omega
        simp [z0]
    · rw [Nat.mul_one]
      by_cases h1 : 0 < x ∧ x % 1000000 = 0
      · rw [if_pos h1, List.length_append]
        have := dec_thou (x := x / 1000) (by omega)
        have h3 := dec_mono (x := x / 1000000) (y := x / 1000) (by omega)
        rw [show 1000 * (x / 1000) = x by omega] at this
        simp only [List.length_cons, List.length_nil]
        omega
      rw [if_neg h1]
      by_cases h2 : 0 < x ∧ x % 1000 = 0
      · rw [if_pos h2, List.length_append]
        have := dec_thou (x := x / 1000) (by omega)
        rw [show 1000 * (x / 1000) = x by omega] at this
        simp only [List.length_cons, List.length_nil]
        omega
      · rw [if_neg h2]
        exact Nat.le_refl _
/-! ### Names -/
def smB (c : UInt8) : Bool := decide (97 ≤ c.toNat) && decide (c.toNat ≤ 122)
def nmB (c : UInt8) : Bool := smB c || (decide (48 ≤ c.toNat) && decide (c.toNat ≤ 57)) || c == 45
def identX (s : List UInt8) : Bool := match s with
  | [] => false
  | c :: r => smB c && r.all nmB && decide (r.length + 1 ≤ 12)
theorem sm_nm {c : UInt8} (h : smB c = true) : nmB c = true := by unfold nmB; rw [h]; rfl
theorem ident_len {s : List UInt8} (h : identX s = true) : 0 < s.length ∧ s.length ≤ 12 := by
  cases s with
  | nil => cases h
  | cons c r => simp [identX] at h; simp; omega
theorem ident_front {s : List UInt8} (h : identX s = true) {k : Nat} (h0 : 0 < k) : identX (s.take k) = true := by
  cases s with
  | nil => cases h
  | cons c r =>
    obtain ⟨k, rfl⟩ : ∃ j, k = j + 1 := ⟨k - 1, by omega⟩
    simp only [identX, Bool.and_eq_true, decide_eq_true_eq, List.all_eq_true] at h
    simp only [List.take_succ_cons, identX, Bool.and_eq_true, decide_eq_true_eq, List.all_eq_true]
    refine ⟨⟨h.1.1, fun d hd => h.1.2 d (List.mem_of_mem_take hd)⟩, ?_⟩
    rw [List.length_take]
    omega
theorem ident_more {s : List UInt8} (h : identX s = true) (c : UInt8) : identX (s ++ [c]) = (nmB c && decide (s.length < 12)) := by
  cases s with
  | nil => cases h
  | cons d r =>
    simp only [identX, Bool.and_eq_true, decide_eq_true_eq] at h
    simp only [List.cons_append, identX, h.1.1, List.all_append, h.1.2, Bool.true_and, List.all_cons, List.all_nil, Bool.and_true, List.length_append, List.length_cons, List.length_nil]
    congr 1
theorem ident_no {c : UInt8} (h : smB c = false) (s : List UInt8) : identX (c :: s) = false := by simp [identX, h]

end Go.Proofs.YtpaapjafnjipfaaDoor
