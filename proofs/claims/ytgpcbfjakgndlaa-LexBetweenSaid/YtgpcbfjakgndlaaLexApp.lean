/-
  Characters with a newline behind them, and others behind that: the tokens of both. No program; no condition but those of each theorem.
-/
import Derived.Test.YtgpcbfjakgndlaaLexCut
namespace Go.Proofs.Ytgpcbfjakgndlaa
set_option linter.unusedSimpArgs false

def nlI : It := ([10], true)
theorem takeWhile_app {f : It → Bool} {y : It} (h : f y = false) (r T : List It) : (r ++ y :: T).takeWhile f = r.takeWhile f := by
  induction r with
  | nil => simp [h]
  | cons x r ih =>
    rw [List.cons_append, List.takeWhile_cons, List.takeWhile_cons, ih]
theorem takeWhile_len (f : It → Bool) (r : List It) : (r.takeWhile f).length ≤ r.length := by
  induction r with
  | nil => simp
  | cons x r ih =>
    rw [List.takeWhile_cons]
    split
    · simp; exact ih
    · simp
theorem dig_nl : digB [10] = none := by decide
theorem partOf_app (p : Ps) (x : It) (r : List It) (T : List It) : partOf p ((x :: r) ++ nlI :: T) = partOf p (x :: r) := by
  by_cases h1 : x.1 = [10] ∨ x.2 = false
  · simp only [List.cons_append, partOf, if_pos h1]
  by_cases h2 : x.1 ≠ [92]
  · simp only [List.cons_append, partOf, if_neg h1, if_pos h2]
  simp only [List.cons_append, partOf, if_neg h1, if_neg h2]
  cases r with
  | nil => simp [nlI]
  | cons y r2 =>
    simp only [List.cons_append]
    by_cases h3 : y.1 = [34] ∨ y.1 = [92]
    · simp only [if_pos h3]
    by_cases h4 : y.1 = [110]
    · simp only [if_neg h3, if_pos h4]
    by_cases h5 : y.1 = [116]
    · simp only [if_neg h3, if_neg h4, if_pos h5]
    by_cases h6 : y.1 = [120]
    · simp only [if_neg h3, if_neg h4, if_neg h5, if_pos h6]
      cases r2 with
      | nil => simp [nlI, dig_nl]
      | cons a r3 =>
        simp only [List.cons_append]
        cases digB a.1 with
        | none => rfl
        | some i =>
          cases r3 with
          | nil => simp [nlI, dig_nl]
          | cons c r4 => rfl
    · simp only [if_neg h3, if_neg h4, if_neg h5, if_neg h6]
theorem str_app (T : List It) : ∀ (n : Nat) (p : Ps) (l : List It), l.length ≤ n → str p (l ++ nlI :: T) = match str p l with
    | .inl q => .inl q
    | .inr (t, r, q) => .inr (t, r ++ nlI :: T, q) := by
  intro n
  induction n with
  | zero =>
    intro p l h
    rw [List.length_eq_zero_iff.1 (show l.length = 0 by omega), List.nil_append, str_nil, str_bad (q := p) (by decide) (by simp [partOf, nlI])]
  | succ n ih =>
    intro p l h
    cases l with
    | nil => rw [List.nil_append, str_nil, str_bad (q := p) (by decide) (by simp [partOf, nlI])]
    | cons x r =>
      have ha := partOf_app p x r T
      rw [List.cons_append] at ha ⊢
      by_cases h1 : x.1 = [34]
      · rw [str_quote h1, str_quote h1]
      cases e : partOf p (x :: r) with
      | bad q => rw [str_bad h1 (ha.trans e), str_bad h1 e]
      | part t k =>
        have hk := partOf_len e
        have e1 : (x :: (r ++ nlI :: T)).take k = (x :: r).take k := by rw [← List.cons_append]; exact List.take_append_of_le_length hk.2
        have e2 : (x :: (r ++ nlI :: T)).drop k = (x :: r).drop k ++ nlI :: T := by rw [← List.cons_append]; exact List.drop_append_of_le_length hk.2
        rw [str_part h1 (ha.trans e), str_part h1 e, e1, e2, ih _ _ (by rw [List.length_drop]; simp at h ⊢; omega)]
        cases str (advs p ((x :: r).take k)) ((x :: r).drop k) with
        | inl q => rfl
        | inr v => rfl
theorem step_app (p : Ps) (x : It) (r T : List It) : step p x (r ++ nlI :: T) = match step p x r with
    | .bad q => .bad q
    | .go o r' q => .go o (r' ++ nlI :: T) q := by
  have t1 : (r ++ nlI :: T).takeWhile (fun y => !(y.1 == [10])) = r.takeWhile (fun y => !(y.1 == [10])) := takeWhile_app (by decide) r T
  have t2 : (r ++ nlI :: T).takeWhile (fun y => letterB y.1) = r.takeWhile (fun y => letterB y.1) := takeWhile_app (by decide) r T
  unfold step
  rw [t1, t2, List.drop_append_of_le_length (takeWhile_len _ _), List.drop_append_of_le_length (takeWhile_len _ _), str_app T r.length _ r (Nat.le_refl _)]
  by_cases h1 : blankB x.1 = true
  · rw [if_pos h1, if_pos h1]
  rw [if_neg h1, if_neg h1]
  by_cases h2 : x.1 = [35]
  · rw [if_pos h2, if_pos h2]
  rw [if_neg h2, if_neg h2]
  by_cases h3 : x.1 = [123]
  · rw [if_pos h3, if_pos h3]
  rw [if_neg h3, if_neg h3]
  by_cases h4 : x.1 = [125]
  · rw [if_pos h4, if_pos h4]
  rw [if_neg h4, if_neg h4]
  by_cases h5 : x.1 = [59]
  · rw [if_pos h5, if_pos h5]
  rw [if_neg h5, if_neg h5]
  by_cases h6 : x.1 = [34]
  · rw [if_pos h6, if_pos h6]
    cases str (adv p x) r with
    | inl q => rfl
    | inr v => rfl
  rw [if_neg h6, if_neg h6]
  by_cases h7 : letterB x.1 = true
  · rw [if_pos h7, if_pos h7]
  · rw [if_neg h7, if_neg h7]

/-- The tokens end with an End; beside an error there are none. -/
theorem lx_ends (p : Ps) (l : List It) : ((lx p l).2.1 = 0 ∧ (lx p l).2.2 = (0, 0) ∧ ∃ m, (lx p l).1 = m ++ [⟨0, [], advs p l⟩]) ∨ ((lx p l).2.1 = 20 ∧ (lx p l).1 = []) := by
  refine lx_ind (P := fun p l => ((lx p l).2.1 = 0 ∧ (lx p l).2.2 = (0, 0) ∧ ∃ m, (lx p l).1 = m ++ [⟨0, [], advs p l⟩]) ∨ ((lx p l).2.1 = 20 ∧ (lx p l).1 = [])) (fun p => .inl ⟨rfl, rfl, [], rfl⟩) (fun p x r q h => .inr ?_) (fun p x r o r' q h ih => ?_) p l
  · rw [lx_bad h]; exact ⟨rfl, rfl⟩
  · obtain ⟨_, m0, rfl, rfl⟩ := step_len h
    rw [lx_go h]
    unfold consO
    rcases ih with ⟨h1, h2, m, h3⟩ | ⟨h1, h2⟩
    · rw [if_pos h1]
      exact .inl ⟨rfl, rfl, o.toList ++ m, by rw [h3, List.append_assoc, advs_cons, advs_app]⟩
    · rw [if_neg (by rw [h1]; decide)]
      exact .inr ⟨h1, rfl⟩
/-- Tokens ahead of others. -/
def consL (m : List Tok) (x : List Tok × Int × Ps) : List Tok × Int × Ps := if x.2.1 = 0 then (m ++ x.1, 0, (0, 0)) else ([], x.2.1, x.2.2)
theorem consO_eq (o : Option Tok) (x : List Tok × Int × Ps) : consO o x = consL o.toList x := rfl
theorem consL_consL (m n : List Tok) (x : List Tok × Int × Ps) : consL m (consL n x) = consL (m ++ n) x := by
  unfold consL
  by_cases h : x.2.1 = 0
  · simp [h]
  · simp [h]
theorem lx_app (T : List It) (p : Ps) (S : List It) : lx p (S ++ nlI :: T) = if (lx p S).2.1 = 0 then consL (lx p S).1.dropLast (lx (adv (advs p S) nlI) T) else lx p S := by
  refine lx_ind (P := fun p S => lx p (S ++ nlI :: T) = if (lx p S).2.1 = 0 then consL (lx p S).1.dropLast (lx (adv (advs p S) nlI) T) else lx p S) (fun p => ?_) (fun p x r q h => ?_) (fun p x r o r' q h ih => ?_) p S
  · rw [List.nil_append, lx_nil, if_pos rfl]
    have h : step p nlI T = .go none T (adv p nlI) := by unfold step; rw [if_pos (by decide)]
    rw [lx_go h, consO_eq]
    rfl
  · rw [List.cons_append, lx_bad h, if_neg (by simp)]
    exact lx_bad (by rw [step_app, h])
  · obtain ⟨_, m0, e1, e2⟩ := step_len h
    have h' : step p x (r ++ nlI :: T) = .go o (r' ++ nlI :: T) q := by rw [step_app, h]
    rw [List.cons_append, lx_go h', lx_go h, ih, consO_eq, consO_eq]
    have ea : advs p (x :: r) = advs q r' := by rw [advs_cons, e1, advs_app, e2]
    rw [ea]
    rcases lx_ends q r' with ⟨h1, h2, m, h3⟩ | ⟨h1, h2⟩
    · rw [if_pos h1]
      have hc : consL o.toList (lx q r') = (o.toList ++ (lx q r').1, 0, (0, 0)) := by unfold consL; rw [if_pos h1]
      rw [hc, if_pos rfl, consL_consL]
      congr 1
      rw [h3, ← List.append_assoc, List.dropLast_concat, List.dropLast_concat]
    · rw [if_neg (by rw [h1]; decide)]
      have hc : consL o.toList (lx q r') = lx q r' := by
        unfold consL; rw [if_neg (by rw [h1]; decide)]
        rw [← h2]
      rw [hc, if_neg (by rw [h1]; decide)]

/-! ### Further down -/
def shP (d : Nat) (p : Ps) : Ps := (p.1 + d, p.2)
def shT (d : Nat) (t : Tok) : Tok := { t with p := shP d t.p }
def shX (d : Nat) (x : List Tok × Int × Ps) : List Tok × Int × Ps := (x.1.map (shT d), x.2.1, if x.2.1 = 0 then x.2.2 else shP d x.2.2)
theorem adv_sh (d : Nat) (p : Ps) (x : It) : adv (shP d p) x = shP d (adv p x) := by
  unfold adv shP
  by_cases h : x.1 = [10]
  · simp only [if_pos h]; congr 1; omega
  · simp only [if_neg h]
theorem advs_sh (d : Nat) (p : Ps) (l : List It) : advs (shP d p) l = shP d (advs p l) := by
  induction l generalizing p with
  | nil => rfl
  | cons x l ih => rw [advs_cons, advs_cons, adv_sh, ih]
theorem partOf_sh (d : Nat) (p : Ps) (l : List It) : partOf (shP d p) l = match partOf p l with
    | .bad q => .bad (shP d q)
    | .part t n => .part t n := by
  unfold partOf
  repeat' split
  all_goals first | rfl | simp_all [adv_sh]
theorem str_sh (d : Nat) : ∀ (n : Nat) (p : Ps) (l : List It), l.length ≤ n → str (shP d p) l = match str p l with
    | .inl q => .inl (shP d q)
    | .inr (t, r, q) => .inr (t, r, shP d q) := by
  intro n
  induction n with
  | zero =>
    intro p l h
    rw [List.length_eq_zero_iff.1 (show l.length = 0 by omega), str_nil, str_nil]
  | succ n ih =>
    intro p l h
    cases l with
    | nil => rw [str_nil, str_nil]
    | cons x r =>
      have ha := partOf_sh d p (x :: r)
      by_cases h1 : x.1 = [34]
      · rw [str_quote h1, str_quote h1, adv_sh]
      cases e : partOf p (x :: r) with
      | bad q =>
        rw [e] at ha
        rw [str_bad h1 ha, str_bad h1 e]
      | part t k =>
        rw [e] at ha
        have hk := partOf_len e
        rw [str_part h1 ha, str_part h1 e, advs_sh, ih _ _ (by rw [List.length_drop]; simp at h ⊢; omega)]
        cases str (advs p ((x :: r).take k)) ((x :: r).drop k) with
        | inl q => rfl
        | inr v => rfl
theorem step_sh (d : Nat) (p : Ps) (x : It) (r : List It) : step (shP d p) x r = match step p x r with
    | .bad q => .bad (shP d q)
    | .go o r' q => .go (o.map (shT d)) r' (shP d q) := by
  unfold step
  rw [adv_sh, advs_sh, advs_sh, str_sh d r.length _ r (Nat.le_refl _)]
  by_cases h1 : blankB x.1 = true
  · rw [if_pos h1, if_pos h1]; rfl
  rw [if_neg h1, if_neg h1]
  by_cases h2 : x.1 = [35]
  · rw [if_pos h2, if_pos h2]; rfl
  rw [if_neg h2, if_neg h2]
  by_cases h3 : x.1 = [123]
  · rw [if_pos h3, if_pos h3]; rfl
  rw [if_neg h3, if_neg h3]
  by_cases h4 : x.1 = [125]
  · rw [if_pos h4, if_pos h4]; rfl
  rw [if_neg h4, if_neg h4]
  by_cases h5 : x.1 = [59]
  · rw [if_pos h5, if_pos h5]; rfl
  rw [if_neg h5, if_neg h5]
  by_cases h6 : x.1 = [34]
  · rw [if_pos h6, if_pos h6]
    cases str (adv p x) r with
    | inl q => rfl
    | inr v => rfl
  rw [if_neg h6, if_neg h6]
  by_cases h7 : letterB x.1 = true
  · rw [if_pos h7, if_pos h7]; rfl
  · rw [if_neg h7, if_neg h7]
theorem consL_sh (d : Nat) (m : List Tok) (x : List Tok × Int × Ps) : consL (m.map (shT d)) (shX d x) = shX d (consL m x) := by
  unfold consL shX
  by_cases h : x.2.1 = 0
  · simp [h]
  · simp [h]
theorem lx_sh (d : Nat) (p : Ps) (l : List It) : lx (shP d p) l = shX d (lx p l) := by
  refine lx_ind (P := fun p l => lx (shP d p) l = shX d (lx p l)) (fun p => rfl) (fun p x r q h => ?_) (fun p x r o r' q h ih => ?_) p l
  · rw [lx_bad h, lx_bad (by rw [step_sh, h])]
    rfl
  · rw [lx_go h, lx_go (by rw [step_sh, h]), ih, consO_eq, consO_eq, ← consL_sh]
    congr 1
    cases o <;> rfl

end Go.Proofs.Ytgpcbfjakgndlaa
