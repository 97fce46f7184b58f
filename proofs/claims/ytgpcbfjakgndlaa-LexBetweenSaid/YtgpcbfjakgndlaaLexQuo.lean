/-
  What is quoted is one token that says it; a word is one token; what stands between tokens plays no part but for where they are. No program; no condition but those of each theorem.
-/
import Derived.Test.YtgpcbfjakgndlaaLexApp
namespace Go.Proofs.Ytgpcbfjakgndlaa
set_option linter.unusedSimpArgs false

/-- ASCII bytes as characters. -/
def asc (l : List UInt8) : List It := l.map fun c => ([c], true)
theorem cut_asc (l : List UInt8) (h : ∀ c ∈ l, c.toNat < 128) (v : List UInt8) : cut (l ++ v) = asc l ++ cut v := by
  induction l with
  | nil => rfl
  | cons c l ih =>
    have e := cut_app [] (h c (by simp)) (l ++ v)
    rw [cut_nil, List.nil_append, List.nil_append] at e
    rw [List.cons_append, e, ih (fun x hx => h x (by simp [hx]))]
    rfl
/-- A character within a string, as characters. -/
def quoN (x : It) : List It :=
  if x.1 = [34] ∨ x.1 = [92] then asc (92 :: x.1)
  else if x.1 = [10] then asc [92, 110]
  else if x.1 = [9] then asc [92, 116]
  else if x.2 = false ∨ x.1.getD 0 0 < 32 ∨ x.1.getD 0 0 = 127 then asc [92, 120, hexes.getD ((x.1.getD 0 0).toNat / 16) 0, hexes.getD ((x.1.getD 0 0).toNat % 16) 0]
  else [x]
theorem hex_asc : ∀ i, i < 16 → (hexes.getD i 0).toNat < 128 := by decide
theorem hex_dig : ∀ i, i < 16 → digB [hexes.getD i 0] = some i := by decide
theorem cut_quoI {x : It} (h : ItOk x) (v : List UInt8) : cut (quoI x ++ v) = quoN x ++ cut v := by
  unfold quoI quoN
  by_cases h1 : x.1 = [34] ∨ x.1 = [92]
  · rw [if_pos h1, if_pos h1]
    refine cut_asc _ ?_ v
    rcases h1 with h1 | h1 <;> rw [h1] <;> decide
  rw [if_neg h1, if_neg h1]
  by_cases h2 : x.1 = [10]
  · rw [if_pos h2, if_pos h2]; exact cut_asc _ (by decide) v
  rw [if_neg h2, if_neg h2]
  by_cases h3 : x.1 = [9]
  · rw [if_pos h3, if_pos h3]; exact cut_asc _ (by decide) v
  rw [if_neg h3, if_neg h3]
  by_cases h4 : x.2 = false ∨ x.1.getD 0 0 < 32 ∨ x.1.getD 0 0 = 127
  · rw [if_pos h4, if_pos h4]
    refine cut_asc _ ?_ v
    have hb := UInt8.toNat_lt (x.1.getD 0 0)
    intro c hc
    simp only [List.mem_cons, List.not_mem_nil, or_false] at hc
    rcases hc with rfl | rfl | rfl | rfl
    · decide
    · decide
    · exact hex_asc _ (by omega)
    · exact hex_asc _ (by omega)
  rw [if_neg h4, if_neg h4]
  obtain ⟨t, b⟩ := x
  have hb : b = true := by
    cases b with
    | true => rfl
    | false => exact absurd (.inl rfl) h4
  subst hb
  obtain ⟨g1, _, _, g4⟩ := h
  rcases g4 rfl with ⟨a, rfl, ha⟩ | ⟨_, _, g5, g6⟩
  · exact cut_asc [a] (by simpa using ha) v
  · exact cut_valid g1 g5 g6 v
theorem cut_quoted (its : List It) (h : ∀ x ∈ its, ItOk x) (v : List UInt8) : cut (its.flatMap quoI ++ v) = its.flatMap quoN ++ cut v := by
  induction its with
  | nil => rfl
  | cons x l ih => rw [List.flatMap_cons, List.flatMap_cons, List.append_assoc, cut_quoI (h x (by simp)), ih (fun y hy => h y (by simp [hy])), List.append_assoc]
/-- No newline stands in what is quoted. -/
theorem advs_asc {p : Ps} {l : List It} (h : ∀ x ∈ l, x.1 ≠ [10]) : advs p l = (p.1, p.2 + l.length) := by
  induction l generalizing p with
  | nil => rfl
  | cons x l ih =>
    rw [advs_cons, ih (fun y hy => h y (by simp [hy]))]
    unfold adv
    rw [if_neg (h x (by simp))]
    simp only [List.length_cons]
    congr 1
    omega
theorem quoN_nl {x y : It} (hy : y ∈ quoN x) : y.1 ≠ [10] := by
  have hh : ∀ i, i < 16 → hexes.getD i 0 ≠ 10 := by decide
  unfold quoN at hy
  by_cases h1 : x.1 = [34] ∨ x.1 = [92]
  · rw [if_pos h1] at hy
    intro e
    rcases h1 with h1 | h1 <;> rw [h1] at hy <;> simp [asc] at hy <;> rcases hy with rfl | rfl <;> simp at e
  rw [if_neg h1] at hy
  by_cases h2 : x.1 = [10]
  · rw [if_pos h2] at hy
    simp [asc] at hy
    rcases hy with rfl | rfl <;> simp
  rw [if_neg h2] at hy
  by_cases h3 : x.1 = [9]
  · rw [if_pos h3] at hy
    simp [asc] at hy
    rcases hy with rfl | rfl <;> simp
  rw [if_neg h3] at hy
  by_cases h4 : x.2 = false ∨ x.1.getD 0 0 < 32 ∨ x.1.getD 0 0 = 127
  · rw [if_pos h4] at hy
    have hb := UInt8.toNat_lt (x.1.getD 0 0)
    have e1 := hh ((x.1.getD 0 0).toNat / 16) (by omega)
    have e2 := hh ((x.1.getD 0 0).toNat % 16) (by omega)
    simp only [asc, List.map_cons, List.map_nil, List.mem_cons, List.not_mem_nil, or_false] at hy
    rcases hy with rfl | rfl | rfl | rfl
    · simp
    · simp
    · simpa using e1
    · simpa using e2
  rw [if_neg h4] at hy
  simp at hy
  rw [hy]
  exact h2
/-- A part of a string that was quoted. -/
theorem part_quoN {x : It} (h : ItOk x) (p : Ps) (r : List It) : ∃ y l, quoN x ++ r = y :: l ∧ y.1 ≠ [34] ∧ partOf p (quoN x ++ r) = .part x.1 (quoN x).length := by
  unfold quoN
  by_cases h1 : x.1 = [34] ∨ x.1 = [92]
  · rw [if_pos h1]
    rcases h1 with h1 | h1 <;> rw [h1] <;> exact ⟨_, _, rfl, by decide, by simp [asc, partOf]⟩
  rw [if_neg h1]
  by_cases h2 : x.1 = [10]
  · rw [if_pos h2, h2]; exact ⟨_, _, rfl, by decide, by simp [asc, partOf]⟩
  rw [if_neg h2]
  by_cases h3 : x.1 = [9]
  · rw [if_pos h3, h3]; exact ⟨_, _, rfl, by decide, by simp [asc, partOf]⟩
  rw [if_neg h3]
  by_cases h4 : x.2 = false ∨ x.1.getD 0 0 < 32 ∨ x.1.getD 0 0 = 127
  · rw [if_pos h4]
    obtain ⟨a, ha⟩ : ∃ a, x.1 = [a] := by
      by_cases hf : x.2 = false
      · obtain ⟨a, ha, _⟩ := h.2.2.1 hf
        exact ⟨a, ha⟩
      · have ht : x.2 = true := by cases hb : x.2 <;> simp_all
        rcases h.2.2.2 ht with ⟨a, ha, _⟩ | ⟨_, ⟨a, t, ha, hab⟩, _⟩
        · exact ⟨a, ha⟩
        · exfalso
          rw [ha] at h4
          simp only [List.getD_cons_zero] at h4
          rcases h4 with h | h | h
          · exact hf h
          · have : a.toNat < 32 := UInt8.lt_iff_toNat_lt.1 h
            omega
          · rw [h] at hab; exact absurd hab (by decide)
    rw [ha]
    simp only [List.getD_cons_zero]
    have hb := UInt8.toNat_lt a
    have d1 := hex_dig (a.toNat / 16) (by omega)
    have d2 := hex_dig (a.toNat % 16) (by omega)
    refine ⟨_, _, rfl, by decide, ?_⟩
    have hsum : UInt8.ofNat (16 * (a.toNat / 16) + a.toNat % 16) = a := by
      rw [show 16 * (a.toNat / 16) + a.toNat % 16 = a.toNat by omega]; simp
    generalize hexes.getD (a.toNat / 16) 0 = u at d1
    generalize hexes.getD (a.toNat % 16) 0 = v at d2
    simp [asc, partOf, d1, d2, hsum]
  rw [if_neg h4]
  refine ⟨x, r, rfl, fun e => h1 (.inl e), ?_⟩
  have hb : x.2 ≠ false := fun e => h4 (.inl e)
  simp only [List.cons_append, List.nil_append, partOf, List.length_cons, List.length_nil]
  rw [if_neg (by intro h; rcases h with h | h; exact h2 h; exact hb h), if_pos (fun e => h1 (.inr e))]
theorem str_quoted (its : List It) (h : ∀ x ∈ its, ItOk x) (R : List It) : ∀ p : Ps, str p (its.flatMap quoN ++ ([34], true) :: R) = .inr (its.flatMap (·.1), R, advs p (its.flatMap quoN ++ [([34], true)])) := by
  induction its with
  | nil => intro p; exact str_quote rfl
  | cons x l ih =>
    intro p
    rw [List.flatMap_cons, List.append_assoc]
    obtain ⟨y, m, e, hy, hp⟩ := part_quoN (h x (by simp)) p (l.flatMap quoN ++ ([34], true) :: R)
    rw [e] at hp
    have hs := str_part hy hp
    rw [← e, List.take_left' rfl, List.drop_left' rfl, ih (fun z hz => h z (by simp [hz]))] at hs
    rw [hs]
    simp only [List.flatMap_cons, List.append_assoc, advs_app]
/-- QUOTED, IT IS ONE TOKEN. -/
theorem lx_quote (s : List UInt8) (p : Ps) (R : List UInt8) : lx p (cut (quoteX s ++ R)) = consL [⟨2, s, p⟩] (lx (p.1, p.2 + (cut (quoteX s)).length) (cut R)) := by
  have hi := cut_item s
  have e1 : cut (quoteX s ++ R) = ([34], true) :: ((cut s).flatMap quoN ++ ([34], true) :: cut R) := by
    have e := cut_app [] (show (34 : UInt8).toNat < 128 by decide) ((cut s).flatMap quoI ++ [34] ++ R)
    rw [cut_nil, List.nil_append, List.nil_append] at e
    unfold quoteX
    rw [List.cons_append, e, List.append_assoc, cut_quoted _ hi]
    congr 2
  have e2 : cut (quoteX s) = ([34], true) :: ((cut s).flatMap quoN ++ [([34], true)]) := by
    have e := cut_app [] (show (34 : UInt8).toNat < 128 by decide) ((cut s).flatMap quoI ++ [34])
    rw [cut_nil, List.nil_append, List.nil_append] at e
    unfold quoteX
    rw [e, cut_quoted _ hi]
    rfl
  rw [e1, lx_go (o := some ⟨2, s, p⟩) (r' := cut R) (q := (p.1, p.2 + (cut (quoteX s)).length)), consO_eq]
  · rfl
  unfold step
  rw [if_neg (by decide), if_neg (by decide), if_neg (by decide), if_neg (by decide), if_neg (by decide), if_pos rfl, str_quoted _ hi, cut_flat]
  simp only
  congr 1
  have hn : ∀ y ∈ (cut s).flatMap quoN ++ [([34], true)], y.1 ≠ [10] := by
    intro y hy
    rcases List.mem_append.1 hy with hy | hy
    · obtain ⟨x, _, hy⟩ := List.mem_flatMap.1 hy
      exact quoN_nl hy
    · simp at hy; rw [hy]; decide
  rw [advs_asc hn, e2]
  unfold adv
  rw [if_neg (by decide)]
  simp only [List.length_cons]
  congr 1
  omega

/-! ### Words -/
theorem takeWhile_all {f : It → Bool} {r : List It} (h : ∀ y ∈ r, f y = true) : r.takeWhile f = r := by
  induction r with
  | nil => rfl
  | cons x r ih => rw [List.takeWhile_cons, if_pos (h x (by simp)), ih (fun y hy => h y (by simp [hy]))]
theorem letter_asc {c : UInt8} (h : letterB [c] = true) : c.toNat < 128 := by
  have hc : c ≤ 122 := by
    simp only [letterB, Bool.or_eq_true, Bool.and_eq_true, decide_eq_true_eq, beq_iff_eq] at h
    rcases h with ((((⟨_, h⟩ | ⟨_, h⟩) | ⟨_, h⟩) | h) | h) | h
    · exact h
    · exact UInt8.le_trans h (by decide)
    · exact UInt8.le_trans h (by decide)
    · rw [h]; decide
    · rw [h]; decide
    · rw [h]; decide
  have := UInt8.le_iff_toNat_le.1 hc
  have e : (122 : UInt8).toNat = 122 := rfl
  omega
theorem letter_not {t : List UInt8} (h : letterB t = true) : blankB t = false ∧ t ≠ [35] ∧ t ≠ [123] ∧ t ≠ [125] ∧ t ≠ [59] ∧ t ≠ [34] ∧ t ≠ [10] := by
  refine ⟨?_, ?_, ?_, ?_, ?_, ?_, ?_⟩
  · cases hb : blankB t with
    | false => rfl
    | true =>
      simp only [blankB, Bool.or_eq_true, beq_iff_eq] at hb
      rcases hb with ((rfl | rfl) | rfl) | rfl <;> exact absurd h (by decide)
  all_goals
    rintro rfl
    exact absurd h (by decide)
/-- A WORD, WITH NO LETTER BEHIND IT, IS ONE TOKEN. -/
theorem lx_word {w : List UInt8} (h : plainX w = true) (p : Ps) (R : List UInt8) (hR : R = [] ∨ ∃ c r, R = c :: r ∧ c.toNat < 128 ∧ letterB [c] = false) :
    lx p (cut (w ++ R)) = consL [⟨1, w, p⟩] (lx (p.1, p.2 + w.length) (cut R)) := by
  unfold plainX at h
  simp only [Bool.and_eq_true, Bool.not_eq_true', List.all_eq_true] at h
  obtain ⟨h0, hl⟩ := h
  have ha : ∀ c ∈ w, c.toNat < 128 := fun c hc => letter_asc (hl c hc)
  rw [cut_asc w ha]
  obtain ⟨c, l, rfl⟩ := List.exists_cons_of_ne_nil (show w ≠ [] by intro e; rw [e] at h0; simp at h0)
  have hc := letter_not (hl c (by simp))
  have ht : (asc l ++ cut R).takeWhile (fun y => letterB y.1) = asc l := by
    have hall : ∀ y ∈ asc l, letterB y.1 = true := by
      intro y hy
      obtain ⟨a, ha, rfl⟩ := List.mem_map.1 hy
      exact hl a (by simp [ha])
    rcases hR with rfl | ⟨a, r, rfl, ha, hb⟩
    · rw [cut_nil, List.append_nil]
      exact takeWhile_all hall
    · have e := cut_app [] ha r
      rw [cut_nil, List.nil_append, List.nil_append] at e
      rw [e, takeWhile_app hb]
      exact takeWhile_all hall
  have hf : (asc l).flatMap (·.1) = l := by
    unfold asc
    clear ht h0 hl ha hc
    induction l with
    | nil => rfl
    | cons a l ih => rw [List.map_cons, List.flatMap_cons, ih]; rfl
  have hn : ∀ y ∈ asc l, y.1 ≠ [10] := by
    intro y hy
    obtain ⟨a, ha, rfl⟩ := List.mem_map.1 hy
    exact (letter_not (hl a (by simp [ha]))).2.2.2.2.2.2
  rw [show asc (c :: l) ++ cut R = ([c], true) :: (asc l ++ cut R) from rfl, lx_go (o := some ⟨1, c :: l, p⟩) (r' := cut R) (q := (p.1, p.2 + (c :: l).length)), consO_eq]
  · rfl
  unfold step
  simp only
  rw [if_neg (by rw [hc.1]; decide), if_neg hc.2.1, if_neg hc.2.2.1, if_neg hc.2.2.2.1, if_neg hc.2.2.2.2.1, if_neg hc.2.2.2.2.2.1, if_pos (hl c (by simp)), ht, hf, List.drop_left' rfl, advs_asc hn]
  unfold adv
  rw [if_neg hc.2.2.2.2.2.2]
  simp only [List.length_cons, asc, List.length_map]
  congr 2
  omega

end Go.Proofs.Ytgpcbfjakgndlaa
