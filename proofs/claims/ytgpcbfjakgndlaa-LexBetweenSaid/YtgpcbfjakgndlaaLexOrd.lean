/-
  Where tokens are, and where a text is wrong: in their order, and within the text. No program; no condition but those of each theorem.
-/
import Derived.Test.YtgpcbfjakgndlaaLexQuo
namespace Go.Proofs.Ytgpcbfjakgndlaa
set_option linter.unusedSimpArgs false

def ltP (p q : Ps) : Prop := p.1 < q.1 ∨ (p.1 = q.1 ∧ p.2 < q.2)
def leP (p q : Ps) : Prop := p = q ∨ ltP p q
theorem ltP.trans {p q r : Ps} (h : ltP p q) (k : ltP q r) : ltP p r := by unfold ltP at *; omega
theorem leP.lt {p q r : Ps} (h : leP p q) (k : ltP q r) : ltP p r := by
  rcases h with rfl | h
  · exact k
  · exact h.trans k
theorem ltP.le {p q r : Ps} (h : ltP p q) (k : leP q r) : ltP p r := by
  rcases k with rfl | k
  · exact h
  · exact h.trans k
theorem leP.trans {p q r : Ps} (h : leP p q) (k : leP q r) : leP p r := by
  rcases h with rfl | h
  · exact k
  · exact .inr (h.le k)
theorem adv_lt (p : Ps) (x : It) : ltP p (adv p x) := by
  unfold adv ltP
  by_cases h : x.1 = [10]
  · rw [if_pos h]; simp
  · rw [if_neg h]; simp
theorem advs_le (p : Ps) (l : List It) : leP p (advs p l) := by
  induction l generalizing p with
  | nil => exact .inl rfl
  | cons x l ih => exact .inr ((adv_lt p x).le (ih _))
theorem step_tok {p q : Ps} {x : It} {r r' : List It} {t : Tok} (h : step p x r = .go (some t) r' q) : t.p = p ∧ t.k ≠ 0 := by
  unfold step at h
  repeat' split at h
  all_goals first
    | (injection h with h; injection h with h; subst h; exact ⟨rfl, by simp⟩)
    | (injection h with h; cases h)
    | cases h
/-- All tokens stand at p or behind it, each behind the one ahead. -/
theorem lx_order (p : Ps) (l : List It) : (∀ t ∈ (lx p l).1, leP p t.p) ∧ (lx p l).1.Pairwise (fun a b => ltP a.p b.p) := by
  refine lx_ind (P := fun p l => (∀ t ∈ (lx p l).1, leP p t.p) ∧ (lx p l).1.Pairwise (fun a b => ltP a.p b.p)) (fun p => ?_) (fun p x r q h => ?_) (fun p x r o r' q h ih => ?_) p l
  · rw [lx_nil]
    exact ⟨fun t ht => by simp at ht; rw [ht]; exact .inl rfl, by simp⟩
  · rw [lx_bad h]; exact ⟨fun t ht => by simp at ht, by simp⟩
  · obtain ⟨_, m, _, rfl⟩ := step_len h
    have hpq : ltP p (advs (adv p x) m) := (adv_lt p x).le (advs_le _ m)
    rw [lx_go h]
    unfold consO
    by_cases h0 : (lx (advs (adv p x) m) r').2.1 = 0
    · rw [if_pos h0]
      simp only
      cases o with
      | none =>
        simp only [Option.toList_none, List.nil_append]
        exact ⟨fun t ht => .inr (hpq.le (ih.1 t ht)), ih.2⟩
      | some t =>
        have ht := (step_tok h).1
        simp only [Option.toList_some, List.singleton_append]
        refine ⟨fun u hu => ?_, List.pairwise_cons.2 ⟨fun u hu => ?_, ih.2⟩⟩
        · rcases List.mem_cons.1 hu with rfl | hu
          · exact .inl ht.symm
          · exact .inr (hpq.le (ih.1 u hu))
        · rw [ht]; exact hpq.le (ih.1 u hu)
    · rw [if_neg h0]; exact ⟨fun t ht => by simp at ht, by simp⟩
/-- A fault lies at the front of some of the characters, or at their end. -/
theorem partOf_at {p q : Ps} {l : List It} (h : partOf p l = .bad q) : ∃ m n, l = m ++ n ∧ q = advs p m := by
  unfold partOf at h
  repeat' split at h
  all_goals first
    | (injection h with h; subst h; exact ⟨[], _, rfl, rfl⟩)
    | (injection h with h; subst h; exact ⟨[_], _, rfl, rfl⟩)
    | (injection h with h; subst h; exact ⟨[_, _], _, rfl, rfl⟩)
    | (injection h with h; subst h; exact ⟨[_, _, _], _, rfl, rfl⟩)
    | cases h
theorem str_at : ∀ (n : Nat) (p q : Ps) (l : List It), l.length ≤ n → str p l = .inl q → ∃ m r, l = m ++ r ∧ q = advs p m := by
  intro n
  induction n with
  | zero =>
    intro p q l h e
    rw [List.length_eq_zero_iff.1 (show l.length = 0 by omega), str_nil] at e
    injection e with e
    subst e
    exact ⟨[], l, rfl, rfl⟩
  | succ n ih =>
    intro p q l h e
    cases l with
    | nil =>
      rw [str_nil] at e
      injection e with e
      subst e
      exact ⟨[], [], rfl, rfl⟩
    | cons x r =>
      by_cases h1 : x.1 = [34]
      · rw [str_quote h1] at e; cases e
      cases ep : partOf p (x :: r) with
      | bad q' =>
        rw [str_bad h1 ep] at e
        injection e with e
        subst e
        exact partOf_at ep
      | part t k =>
        have hk := partOf_len ep
        rw [str_part h1 ep] at e
        cases es : str (advs p ((x :: r).take k)) ((x :: r).drop k) with
        | inl q' =>
          rw [es] at e
          injection e with e
          subst e
          obtain ⟨m, s, e1, e2⟩ := ih _ _ _ (by rw [List.length_drop]; simp at h ⊢; omega) es
          exact ⟨(x :: r).take k ++ m, s, by rw [List.append_assoc, ← e1, List.take_append_drop], by rw [advs_app, e2]⟩
        | inr v => rw [es] at e; cases e
theorem step_at {p q : Ps} {x : It} {r : List It} (h : step p x r = .bad q) : ∃ m n, x :: r = m ++ n ∧ q = advs p m := by
  unfold step at h
  repeat' split at h
  all_goals first
    | (rename_i e; injection h with h; subst h; obtain ⟨m, n, e1, e2⟩ := str_at _ _ _ _ (Nat.le_refl _) e; exact ⟨x :: m, n, by rw [e1]; rfl, e2⟩)
    | (injection h with h; subst h; exact ⟨[], _, rfl, rfl⟩)
    | cases h
theorem lx_at (p : Ps) (l : List It) : (lx p l).2.1 ≠ 0 → ∃ m n, l = m ++ n ∧ (lx p l).2.2 = advs p m := by
  refine lx_ind (P := fun p l => (lx p l).2.1 ≠ 0 → ∃ m n, l = m ++ n ∧ (lx p l).2.2 = advs p m) (fun p h => absurd rfl h) (fun p x r q h _ => ?_) (fun p x r o r' q h ih => ?_) p l
  · rw [lx_bad h]; exact step_at h
  · obtain ⟨_, m, e1, e2⟩ := step_len h
    rw [lx_go h]
    unfold consO
    by_cases h0 : (lx q r').2.1 = 0
    · rw [if_pos h0]; intro h; exact absurd rfl h
    · rw [if_neg h0]
      intro _
      obtain ⟨m2, n2, e3, e4⟩ := ih h0
      exact ⟨x :: m ++ m2, n2, by rw [e1, e3]; simp, by simp only; rw [e4, advs_app, advs_cons, e2]⟩
theorem advs_line (p : Ps) (l : List It) : p.1 ≤ (advs p l).1 ∧ (1 ≤ p.2 → 1 ≤ (advs p l).2) := by
  induction l generalizing p with
  | nil => exact ⟨Nat.le_refl _, fun h => h⟩
  | cons x l ih =>
    rw [advs_cons]
    have h := ih (adv p x)
    have h1 : p.1 ≤ (adv p x).1 ∧ 1 ≤ (adv p x).2 ∨ p.1 ≤ (adv p x).1 ∧ (adv p x).2 = p.2 + 1 := by
      unfold adv
      by_cases hx : x.1 = [10]
      · rw [if_pos hx]; left; simp
      · rw [if_neg hx]; right; simp
    rcases h1 with h1 | h1
    · exact ⟨by omega, fun _ => h.2 h1.2⟩
    · exact ⟨by omega, fun _ => h.2 (by omega)⟩
theorem advs_bound (p : Ps) (l : List It) : (advs p l).1 ≤ p.1 + l.length ∧ (advs p l).2 ≤ max p.2 1 + l.length := by
  induction l generalizing p with
  | nil => exact ⟨Nat.le_refl _, by show p.2 ≤ _; omega⟩
  | cons x l ih =>
    rw [advs_cons]
    have h := ih (adv p x)
    simp only [List.length_cons]
    by_cases hx : x.1 = [10]
    · have e : adv p x = (p.1 + 1, 1) := by unfold adv; rw [if_pos hx]
      rw [e] at h ⊢
      simp only at h
      omega
    · have e : adv p x = (p.1, p.2 + 1) := by unfold adv; rw [if_neg hx]
      rw [e] at h ⊢
      simp only at h
      omega
theorem cut_len (s : List UInt8) : (cut s).length ≤ s.length := by
  refine cut_ind (p := fun s => (cut s).length ≤ s.length) (by simp [cut_nil]) (fun s h0 ih => ?_) s
  have hk := dc_know h0
  rw [List.length_drop] at ih
  rw [cut_cons h0, List.length_cons]
  omega

/-- All of the whole of LexJoins and LexFronts: a newline, and a text behind it. -/
theorem allX_ok {s : List UInt8} (h : s.length ≤ 8192) : allX s = lx (1, 1) (cut s) := by unfold allX; rw [if_neg (by omega)]
theorem allX_join {s t : List UInt8} (h : (s ++ 10 :: t).length ≤ 8192) : allX (s ++ 10 :: t) =
    if (allX s).2.1 = 0 then consL (allX s).1.dropLast (shX (advs (1, 1) (cut s)).1 (allX t)) else allX s := by
  have hl : (s ++ 10 :: t).length = s.length + t.length + 1 := by simp [List.length_append]; omega
  have hs : s.length ≤ 8192 := by omega
  have ht : t.length ≤ 8192 := by omega
  rw [allX_ok h, allX_ok hs, allX_ok ht, cut_app s (by decide) t]
  have e := lx_app (cut t) (1, 1) (cut s)
  have ea : adv (advs (1, 1) (cut s)) nlI = shP (advs (1, 1) (cut s)).1 (1, 1) := by
    unfold adv shP
    rw [if_pos (show nlI.1 = [10] from rfl)]
    exact Prod.ext (Nat.add_comm _ _) rfl
  rw [ea, lx_sh] at e
  exact e

end Go.Proofs.Ytgpcbfjakgndlaa
