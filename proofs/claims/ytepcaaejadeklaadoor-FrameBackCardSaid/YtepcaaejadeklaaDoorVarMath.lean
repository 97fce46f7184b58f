/-
  What layer 2's numbers and bytes have to do with one another: no program, no condition but those of each theorem.
-/
import Derived.Test.YtepcaaejadeklaaDoorVarNum
namespace Go.Proofs.YtepcaaejadeklaaDoor

theorem ofNat_lt (n : Nat) (h : n < 256) : (UInt8.ofNat n).toNat = n := by
  rw [UInt8.toNat_ofNat']; exact Nat.mod_eq_of_lt h

theorem encV_ne (f x : Nat) : encV f x ≠ [] := by
  have := encV_length f x
  intro h
  rw [h] at this
  simp at this

/-- A number's bytes are that number. -/
theorem horner_enc (f : Nat) : ∀ x, x < 128 ^ (f + 1) → horner (encV f x) = x := by
  induction f with
  | zero =>
    intro x h
    have hx : x < 128 := by simpa using h
    rw [encV_small 0 x hx, horner_cons, horner_nil, ofNat_lt x (by omega)]
    omega
  | succ f ih =>
    intro x h
    by_cases hx : x < 128
    · rw [encV_small _ x hx, horner_cons, horner_nil, ofNat_lt x (by omega)]
      omega
    · rw [encV_big f x hx, horner_cons, ih (x / 128) (by rw [Nat.pow_succ] at h; omega), ofNat_lt _ (by omega)]
      omega

/-- All but its last byte are above 127, and the last isn't. -/
theorem lead_enc (f : Nat) : ∀ (g x : Nat) (r : List UInt8), f ≤ g → x < 128 ^ (f + 1) → lead (g + 1) (encV f x ++ r) + 1 = (encV f x).length := by
  induction f with
  | zero =>
    intro g x r _ h
    have hx : x < 128 := by simpa using h
    rw [encV_small 0 x hx]
    simp only [List.cons_append, List.nil_append, lead, List.length_cons, List.length_nil]
    rw [if_neg (by rw [ofNat_lt x (by omega)]; omega)]
  | succ f ih =>
    intro g x r hg h
    by_cases hx : x < 128
    · rw [encV_small _ x hx]
      simp only [List.cons_append, List.nil_append, lead, List.length_cons, List.length_nil]
      rw [if_neg (by rw [ofNat_lt x (by omega)]; omega)]
    · obtain ⟨g, rfl⟩ : ∃ g', g = g' + 1 := ⟨g - 1, by omega⟩
      rw [encV_big f x hx]
      have hi := ih g (x / 128) r (by omega) (by rw [Nat.pow_succ] at h; omega)
      rw [List.cons_append, List.length_cons, ← hi]
      conv => lhs; unfold lead
      rw [if_pos (by rw [ofNat_lt _ (by omega)]; omega)]

/-- The last byte of a number that is not 0 is not 0. -/
theorem last_enc (f : Nat) : ∀ x, 0 < x → x < 128 ^ (f + 1) → ∀ r, ((encV f x ++ r).getD ((encV f x).length - 1) 0).toNat ≠ 0 := by
  induction f with
  | zero =>
    intro x h0 h r
    have hx : x < 128 := by simpa using h
    rw [encV_small 0 x hx]
    simp [ofNat_lt x (by omega)]
    omega
  | succ f ih =>
    intro x h0 h r
    by_cases hx : x < 128
    · rw [encV_small _ x hx]
      simp [ofNat_lt x (by omega)]
      omega
    · have hi := ih (x / 128) (by omega) (by rw [Nat.pow_succ] at h; omega) r
      have hl := (encV_length f (x / 128)).1
      rw [encV_big f x hx, List.cons_append, List.length_cons]
      obtain ⟨k, hk⟩ : ∃ k, (encV f (x / 128)).length = k + 1 := ⟨_, (Nat.sub_add_cancel hl).symm⟩
      rw [hk] at hi ⊢
      simpa using hi

/-- What Put wrote, Get reads. -/
theorem getV_enc (x : Nat) (h : x < 18446744073709551616) (r : List UInt8) : getV (encV 9 x ++ r) = (x, (encV 9 x).length, 0) := by
  have hp : x < 128 ^ (9 + 1) := by have : (18446744073709551616 : Nat) < 128 ^ (9 + 1) := by decide
                                    omega
  have hl : lead 10 (encV 9 x ++ r) + 1 = (encV 9 x).length := lead_enc 9 9 x r (Nat.le_refl _) hp
  have hlen := encV_length 9 x
  have hh := horner_enc 9 x hp
  have hlast := fun h0 => last_enc 9 x h0 hp r
  unfold getV
  have e1 : lead 10 (encV 9 x ++ r) = (encV 9 x).length - 1 := by omega
  rw [e1, if_neg (by omega), if_neg (by rw [List.length_append]; omega)]
  have e2 : (encV 9 x ++ r).take ((encV 9 x).length - 1 + 1) = encV 9 x := by rw [Nat.sub_add_cancel hlen.1, List.take_left']; rfl
  rw [e2, hh, if_neg (by omega), if_neg (fun hc => by
    by_cases h0 : 0 < x
    · exact hlast h0 hc.2
    · have : x = 0 := by omega
      subst this
      rw [encV_small 9 0 (by decide)] at hc
      simp at hc), Nat.sub_add_cancel hlen.1]

/-- Bytes of which all but the last are above 127, and the last is neither, are the number's. -/
theorem enc_horner (k : Nat) : ∀ (l : List UInt8) (f : Nat), l.length = k + 1 → k ≤ f → (∀ j b, j < k → l[j]? = some b → 127 < b.toNat) → (l.getD k 0).toNat ≤ 127 → (0 < k → (l.getD k 0).toNat ≠ 0) → encV f (horner l) = l := by
  induction k with
  | zero =>
    intro l f hl _ _ hle _
    match l, hl with
    | [b], _ =>
      have hb : b.toNat ≤ 127 := by simpa using hle
      have e : horner [b] = b.toNat := by rw [horner_cons, horner_nil]; omega
      rw [e, encV_small f _ (by omega)]
      simp
  | succ k ih =>
    intro l f hl hf hgt hle hnz
    match l, hl with
    | b :: l, hl =>
      have hl' : l.length = k + 1 := by simpa using hl
      obtain ⟨f, rfl⟩ : ∃ f', f = f' + 1 := ⟨f - 1, by omega⟩
      have hb : 127 < b.toNat := hgt 0 b (by omega) rfl
      have hb2 : b.toNat < 256 := UInt8.toNat_lt b
      have hle' : (l.getD k 0).toNat ≤ 127 := by simpa using hle
      have hnz' : (l.getD k 0).toNat ≠ 0 := by simpa using hnz (by omega)
      have hi := ih l f hl' (by omega) (fun j c hj hc => hgt (j + 1) c (by omega) (by simpa using hc)) hle' (fun _ => hnz')
      have hpos : 0 < horner l := by
        rcases Nat.eq_zero_or_pos (horner l) with h0 | h0
        · exfalso
          rw [h0, encV_small f 0 (by decide)] at hi
          rw [← hi] at hnz' hl'
          have : k = 0 := by simpa using hl'.symm
          subst this
          simp at hnz'
        · exact h0
      rw [horner_cons, encV_big f _ (by omega)]
      have e1 : (horner l * 128 + b.toNat % 128) / 128 = horner l := by omega
      have e2 : (horner l * 128 + b.toNat % 128) % 128 + 128 = b.toNat := by omega
      rw [e1, e2, hi]
      simp

theorem lead_gt (f : Nat) : ∀ (s : List UInt8) (j : Nat) (b : UInt8), j < lead f s → s[j]? = some b → 127 < b.toNat := by
  induction f with
  | zero => intro s j b h; simp [lead] at h
  | succ f ih =>
    intro s j b h hb
    cases s with
    | nil => simp [lead] at h
    | cons c l =>
      unfold lead at h
      by_cases hc : 127 < c.toNat
      · rw [if_pos hc] at h
        cases j with
        | zero => simp at hb; subst hb; exact hc
        | succ j => exact ih l j b (by omega) (by simpa using hb)
      · rw [if_neg hc] at h; omega
theorem lead_stop (f : Nat) : ∀ (s : List UInt8), lead f s ≠ f → lead f s ≠ s.length → (s.getD (lead f s) 0).toNat ≤ 127 ∧ lead f s < s.length ∧ lead f s < f := by
  induction f with
  | zero => intro s h; simp [lead] at h
  | succ f ih =>
    intro s h1 h2
    cases s with
    | nil => simp [lead] at h2
    | cons c l =>
      unfold lead at h1 h2 ⊢
      by_cases hc : 127 < c.toNat
      · rw [if_pos hc] at h1 h2 ⊢
        have := ih l (by omega) (by simpa using h2)
        simp
        simp at this
        omega
      · rw [if_neg hc]
        simp
        omega

/-- What is got is put as the very bytes. -/
theorem getV_own (s : List UInt8) (h : (getV s).2.2 = 0) : 1 ≤ (getV s).2.1 ∧ (getV s).2.1 ≤ s.length ∧ (getV s).2.1 ≤ 10 ∧ (getV s).1 < 18446744073709551616 ∧ encV 9 (getV s).1 = s.take (getV s).2.1 := by
  unfold getV at h ⊢
  by_cases h1 : lead 10 s = 10
  · rw [if_pos h1] at h; exact absurd h (by decide)
  rw [if_neg h1] at h ⊢
  by_cases h2 : lead 10 s = s.length
  · rw [if_pos h2] at h; exact absurd h (by decide)
  rw [if_neg h2] at h ⊢
  by_cases h3 : 18446744073709551616 ≤ horner (s.take (lead 10 s + 1))
  · rw [if_pos h3] at h; exact absurd h (by decide)
  rw [if_neg h3] at h ⊢
  by_cases h4 : 0 < lead 10 s ∧ (s.getD (lead 10 s) 0).toNat = 0
  · rw [if_pos h4] at h; exact absurd h (by decide)
  rw [if_neg h4]
  obtain ⟨g1, g2, g3⟩ := lead_stop 10 s h1 h2
  have hg : (s.take (lead 10 s + 1)).getD (lead 10 s) 0 = s.getD (lead 10 s) 0 := by
    simp [List.getD, List.getElem?_take_of_lt]
  refine ⟨by simp, by show lead 10 s + 1 ≤ _; omega, by show lead 10 s + 1 ≤ _; omega, by show horner _ < _; omega, ?_⟩
  refine enc_horner (lead 10 s) _ 9 (by rw [List.length_take]; omega) (by omega) (fun j b hj hb => ?_) (by rw [hg]; exact g1) (fun h0 hz => h4 ⟨h0, by rw [← hg]; exact hz⟩)
  rw [List.getElem?_take_of_lt (by omega)] at hb
  exact lead_gt 10 s j b hj hb

/-- With an error there is no number. -/
theorem getV_err (s : List UInt8) (h : (getV s).2.2 ≠ 0) : (getV s).1 = 0 ∧ (getV s).2.1 = 0 := by
  unfold getV at h ⊢
  by_cases h1 : lead 10 s = 10
  · rw [if_pos h1]; exact ⟨rfl, rfl⟩
  rw [if_neg h1] at h ⊢
  by_cases h2 : lead 10 s = s.length
  · rw [if_pos h2]; exact ⟨rfl, rfl⟩
  rw [if_neg h2] at h ⊢
  by_cases h3 : 18446744073709551616 ≤ horner (s.take (lead 10 s + 1))
  · rw [if_pos h3]; exact ⟨rfl, rfl⟩
  rw [if_neg h3] at h ⊢
  by_cases h4 : 0 < lead 10 s ∧ (s.getD (lead 10 s) 0).toNat = 0
  · rw [if_pos h4]; exact ⟨rfl, rfl⟩
  rw [if_neg h4] at h
  exact absurd rfl h

theorem enc_inj {x y : Nat} (hx : x < 18446744073709551616) (hy : y < 18446744073709551616) {r t : List UInt8} (h : encV 9 x ++ r = encV 9 y ++ t) : x = y := by
  have h1 := getV_enc x hx r
  rw [h, getV_enc y hy t] at h1
  exact (congrArg Prod.fst h1).symm

theorem enc_mono (f : Nat) : ∀ x y, x ≤ y → (encV f x).length ≤ (encV f y).length := by
  induction f with
  | zero => intro x y _; simp [encV]
  | succ f ih =>
    intro x y h
    by_cases hx : x < 128
    · rw [encV_small _ x hx]
      exact (encV_length (f + 1) y).1
    · rw [encV_big f x hx, encV_big f y (by omega)]
      simp only [List.length_cons]
      exact Nat.add_le_add_right (ih _ _ (by omega)) 1

/-- A byte less is short. -/
theorem getV_short (x : Nat) (h : x < 18446744073709551616) : getV (encV 9 x).dropLast = (0, 0, 10) := by
  have hp : x < 128 ^ (9 + 1) := by have : (18446744073709551616 : Nat) < 128 ^ (9 + 1) := by decide
                                    omega
  have hl : lead 10 (encV 9 x ++ []) + 1 = (encV 9 x).length := lead_enc 9 9 x [] (Nat.le_refl _) hp
  rw [List.append_nil] at hl
  have hlen := encV_length 9 x
  have hg := lead_gt 10 (encV 9 x)
  have hd : (encV 9 x).dropLast.length = (encV 9 x).length - 1 := List.length_dropLast
  have e : lead 10 (encV 9 x).dropLast = (encV 9 x).dropLast.length := by
    refine lead_eq 10 _ _ (by omega) (Nat.le_refl _) (fun j b hj hb => ?_) (.inr (.inl rfl))
    refine hg j b (by omega) ?_
    rw [List.dropLast_eq_take, List.getElem?_take_of_lt (by omega)] at hb
    exact hb
  unfold getV
  rw [e, if_neg (by omega), if_pos rfl]

end Go.Proofs.YtepcaaejadeklaaDoor
