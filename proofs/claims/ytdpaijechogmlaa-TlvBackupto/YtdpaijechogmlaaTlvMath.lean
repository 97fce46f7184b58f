/-
  What is read of bytes may be put, and is put as the very bytes; where an error is; a byte less. No program, no condition but those of each theorem.
-/
import Derived.Test.YtdpaijechogmlaaTlvNum
namespace Go.Proofs.Ytdpaijechogmlaa

/-- Where the error is: within the bytes. -/
theorem gt_off (n : Nat) : ∀ (s : List UInt8) (deep at_ : Nat), s.length ≤ n → (gt n s deep at_).2.2 ≤ at_ + s.length := by
  induction n with
  | zero => intro s deep at_ _; simp [gt]
  | succ n ih =>
    intro s deep at_ hn
    by_cases hs : s = []
    · subst hs; rw [gt_nil]; simp
    · obtain ⟨t, a, e, h1⟩ : ∃ t a e, getV s = (t, a, e) := ⟨_, _, _, rfl⟩
      obtain ⟨long, b, f, h2⟩ : ∃ t b e, getV (s.drop a) = (t, b, e) := ⟨_, _, _, rfl⟩
      rw [gt_step hs h1 h2]
      by_cases c1 : e ≠ 0
      · rw [if_pos c1]; show at_ ≤ _; omega
      rw [if_neg c1]
      have o1 := getV_own s (by rw [h1]; exact Decidable.not_not.1 c1)
      rw [h1] at o1
      obtain ⟨a1, a2, -⟩ := o1
      dsimp only at a1 a2
      by_cases c2 : f ≠ 0
      · rw [if_pos c2]; show at_ + a ≤ _; omega
      rw [if_neg c2]
      have o2 := getV_own (s.drop a) (by rw [h2]; exact Decidable.not_not.1 c2)
      rw [h2] at o2
      obtain ⟨b1, b2, -⟩ := o2
      dsimp only at b1 b2
      rw [List.length_drop] at b2
      by_cases c3 : s.length - a - b < long
      · rw [if_pos c3]; show at_ + a + b ≤ _; omega
      rw [if_neg c3]
      by_cases c4 : 6 < deep
      · rw [if_pos c4]; show at_ ≤ _; omega
      rw [if_neg c4]
      have hk : (if t % 2 = 0 then (Fo.nil, (0 : Int), 0) else gt n ((s.drop (a + b)).take long) (deep + 1) (at_ + a + b)).2.2 ≤ at_ + s.length := by
        by_cases c5 : t % 2 = 0
        · rw [if_pos c5]; exact Nat.zero_le _
        · rw [if_neg c5]
          have h := ih ((s.drop (a + b)).take long) (deep + 1) (at_ + a + b) (by rw [List.length_take, List.length_drop]; omega)
          rw [List.length_take, List.length_drop] at h
          omega
      have hr := ih (s.drop (a + b + long)) deep (at_ + (a + b + long)) (by rw [List.length_drop]; omega)
      rw [List.length_drop] at hr
      unfold fin
      by_cases d1 : (if t % 2 = 0 then (Fo.nil, (0 : Int), 0) else gt n ((s.drop (a + b)).take long) (deep + 1) (at_ + a + b)).2.1 ≠ 0
      · rw [if_pos d1]; exact hk
      · rw [if_neg d1]
        by_cases d2 : (gt n (s.drop (a + b + long)) deep (at_ + (a + b + long))).2.1 ≠ 0
        · rw [if_pos d2]; show (gt n (s.drop (a + b + long)) deep (at_ + (a + b + long))).2.2 ≤ _; omega
        · rw [if_neg d2]; exact Nat.zero_le _

/-- WHAT IS GOT IS PUT AS THE VERY BYTES, AND MAY BE PUT. -/
theorem gt_own (n : Nat) : ∀ (s : List UInt8) (deep at_ : Nat), s.length ≤ n → s.length < 18446744073709551616 → (gt n s deep at_).2.1 = 0 →
    (gt n s deep at_).1.all = s ∧ Fo.right deep (gt n s deep at_).1 = true ∧ (gt n s deep at_).1.fit ∧ (gt n s deep at_).2.2 = 0 := by
  induction n with
  | zero =>
    intro s deep at_ hn _ _
    have hs : s = [] := List.eq_nil_of_length_eq_zero (by omega)
    subst hs
    exact ⟨rfl, rfl, trivial, rfl⟩
  | succ n ih =>
    intro s deep at_ hn h64 h
    by_cases hs : s = []
    · subst hs; rw [gt_nil]; exact ⟨rfl, rfl, trivial, rfl⟩
    · obtain ⟨t, a, e, h1⟩ : ∃ t a e, getV s = (t, a, e) := ⟨_, _, _, rfl⟩
      obtain ⟨long, b, f, h2⟩ : ∃ t b e, getV (s.drop a) = (t, b, e) := ⟨_, _, _, rfl⟩
      rw [gt_step hs h1 h2] at h ⊢
      by_cases c1 : e ≠ 0
      · rw [if_pos c1] at h; exact absurd h c1
      rw [if_neg c1] at h ⊢
      have o1 := getV_own s (by rw [h1]; exact Decidable.not_not.1 c1)
      rw [h1] at o1
      obtain ⟨a1, a2, -, t64, ht⟩ := o1
      dsimp only at a1 a2 t64 ht
      by_cases c2 : f ≠ 0
      · rw [if_pos c2] at h; exact absurd h c2
      rw [if_neg c2] at h ⊢
      have o2 := getV_own (s.drop a) (by rw [h2]; exact Decidable.not_not.1 c2)
      rw [h2] at o2
      obtain ⟨b1, b2, -, l64, hl⟩ := o2
      dsimp only at b1 b2 l64 hl
      rw [List.length_drop] at b2
      by_cases c3 : s.length - a - b < long
      · rw [if_pos c3] at h; exact absurd (show (10 : Int) = 0 from h) (by decide)
      rw [if_neg c3] at h ⊢
      by_cases c4 : 6 < deep
      · rw [if_pos c4] at h; exact absurd (show (13 : Int) = 0 from h) (by decide)
      rw [if_neg c4] at h ⊢
      obtain ⟨hk0, hr0, hfin⟩ := fin_ok h
      rw [hfin]
      obtain ⟨r1, r2, r3, -⟩ := ih (s.drop (a + b + long)) deep (at_ + (a + b + long)) (by rw [List.length_drop]; omega) (by rw [List.length_drop]; omega) hr0
      have hcl : ((s.drop (a + b)).take long).length = long := by rw [List.length_take, List.length_drop]; omega
      have hsplit : encV 9 t ++ (encV 9 long ++ ((s.drop (a + b)).take long ++ s.drop (a + b + long))) = s := by
        have e3 : (s.drop (a + b)).take long ++ s.drop (a + b + long) = s.drop (a + b) := by
          have h := List.take_append_drop long (s.drop (a + b))
          rw [List.drop_drop] at h
          exact h
        have e4 : encV 9 long ++ s.drop (a + b) = s.drop a := by
          have h := List.take_append_drop b (s.drop a)
          rw [List.drop_drop] at h
          rw [hl]
          exact h
        rw [e3, e4, ht, List.take_append_drop]
      by_cases c5 : t % 2 = 0
      · have hin : Fo.inn t ((s.drop (a + b)).take long) Fo.nil.all = (s.drop (a + b)).take long := by unfold Fo.inn; rw [if_neg (by omega)]
        simp only [if_pos c5]
        refine ⟨?_, ?_, ⟨t64, trivial, r3⟩, trivial⟩
        · show encV 9 t ++ (encV 9 (Fo.inn t ((s.drop (a + b)).take long) Fo.nil.all).length ++ (Fo.inn t ((s.drop (a + b)).take long) Fo.nil.all ++ _)) = s
          rw [hin, r1, hcl]; exact hsplit
        · simp only [Fo.right, Bool.and_eq_true, decide_eq_true_eq]
          refine ⟨⟨⟨by omega, ?_⟩, trivial⟩, r2⟩
          rw [if_neg (by omega)]; rfl
      · rw [if_neg c5] at hk0
        obtain ⟨k1, k2, k3, -⟩ := ih ((s.drop (a + b)).take long) (deep + 1) (at_ + a + b) (by omega) (by omega) hk0
        simp only [if_neg c5]
        have hin : Fo.inn t [] ((gt n ((s.drop (a + b)).take long) (deep + 1) (at_ + a + b)).1).all = (s.drop (a + b)).take long := by unfold Fo.inn; rw [if_pos (by omega), k1]
        refine ⟨?_, ?_, ⟨t64, k3, r3⟩, trivial⟩
        · show encV 9 t ++ (encV 9 (Fo.inn t [] _).length ++ (Fo.inn t [] _ ++ _)) = s
          rw [hin, r1, hcl]; exact hsplit
        · simp only [Fo.right, Bool.and_eq_true, decide_eq_true_eq]
          refine ⟨⟨⟨by omega, ?_⟩, k2⟩, r2⟩
          rw [if_pos (by omega)]; rfl

theorem dropLast_app (a b : List UInt8) (h : b ≠ []) : (a ++ b).dropLast = a ++ b.dropLast := List.dropLast_append_of_ne_nil h

/-- A BYTE LESS IS SHORT. -/
theorem gt_short (f : Fo) : ∀ (n deep at_ : Nat), f ≠ .nil → f.all.length ≤ n + 1 → f.all.length < 18446744073709551616 → f.fit → Fo.right deep f = true → (gt n f.all.dropLast deep at_).2.1 = 10 := by
  induction f with
  | nil => intro n deep at_ h; exact absurd rfl h
  | cons t d k r ihk ihr =>
    intro n deep at_ _ hn h64 hfit hr
    have hr0 := hr
    obtain ⟨ht, hfk, hfr⟩ := hfit
    have hpos := Fo.all_pos t d k r
    obtain ⟨n, rfl⟩ : ∃ m, n = m + 1 := ⟨n - 1, by omega⟩
    simp only [Fo.right, Bool.and_eq_true, decide_eq_true_eq] at hr
    obtain ⟨⟨⟨hdeep, hshape⟩, hrk⟩, hrr⟩ := hr
    have hall : (Fo.cons t d k r).all = encV 9 t ++ (encV 9 (Fo.inn t d k.all).length ++ (Fo.inn t d k.all ++ r.all)) := rfl
    have hl := congrArg List.length hall
    simp only [List.length_append] at hl
    have e1 := (encV_length 9 t).1
    have e2 := (encV_length 9 (Fo.inn t d k.all).length).1
    by_cases hrn : r = .nil
    · subst hrn
      have hra : Fo.nil.all = [] := rfl
      rw [hall, hra, List.append_nil]
      by_cases hin0 : Fo.inn t d k.all = []
      · rw [hin0]
        simp only [List.length_nil, List.append_nil]
        rw [encV_small 9 0 (by decide)]
        have hdl : (encV 9 t ++ [UInt8.ofNat 0]).dropLast = encV 9 t := by rw [dropLast_app _ _ (by simp)]; simp
        rw [hdl]
        have h1 := getV_enc t ht []
        rw [List.append_nil] at h1
        have hd1 : (encV 9 t).drop (encV 9 t).length = [] := List.drop_length
        have h2 : getV ((encV 9 t).drop (encV 9 t).length) = (0, 0, 10) := by rw [hd1]; decide
        rw [gt_step (encV_ne 9 t) h1 h2, if_neg (by decide), if_pos (by decide)]
      · rw [dropLast_app _ _ (by intro h; have h := congrArg List.length h; simp at h; exact hin0 h.2), dropLast_app _ _ hin0]
        have hil : (Fo.inn t d k.all).dropLast.length < (Fo.inn t d k.all).length := by
          rw [List.length_dropLast]
          have : 0 < (Fo.inn t d k.all).length := List.length_pos_iff.2 hin0
          omega
        rw [gt_item ht (by omega), if_pos hil]
    · have hra : r.all ≠ [] := fun h => hrn (Fo.all_nil h)
      rw [hall, dropLast_app _ _ (by intro h; have h := congrArg List.length h; simp at h; exact hra h.2.2), dropLast_app _ _ (by intro h; have h := congrArg List.length h; simp at h; exact hra h.2), dropLast_app _ _ hra]
      rw [gt_item ht (by omega), if_neg (by rw [List.length_append]; omega), if_neg (by omega), List.take_left, List.drop_left]
      have hr10 := ihr n deep (at_ + ((encV 9 t).length + (encV 9 (Fo.inn t d k.all).length).length + (Fo.inn t d k.all).length)) hrn (by omega) (by omega) hfr hrr
      have hk0 : (if t % 2 = 0 then (Fo.nil, (0 : Int), 0) else gt n (Fo.inn t d k.all) (deep + 1) (at_ + (encV 9 t).length + (encV 9 (Fo.inn t d k.all).length).length)).2.1 = 0 := by
        by_cases hodd : t % 2 = 1
        · have hin : Fo.inn t d k.all = k.all := by unfold Fo.inn; rw [if_pos hodd]
          rw [hin] at hl e2 ⊢
          rw [if_neg (by omega), gt_all k n (deep + 1) _ (by omega) (by omega) hfk hrk]
        · rw [if_pos (by omega)]
      unfold fin
      rw [if_neg (by rw [hk0]; decide), if_pos (by rw [hr10]; decide)]
      exact hr10

end Go.Proofs.Ytdpaijechogmlaa
