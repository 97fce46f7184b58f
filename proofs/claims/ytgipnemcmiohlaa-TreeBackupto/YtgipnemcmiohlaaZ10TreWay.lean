/- What the laws of package tree want of TreWay. -/
import Derived.Test.YtgipnemcmiohlaaZ10TreNum
namespace Go.Proofs.Ytgipnemcmiohlaa
open Go.RowKit
set_option linter.unusedSimpArgs false
set_option linter.unusedVariables false
theorem right_kind {x : Nd} {s : Stp} {z : Nd} (h : rgtX x = true) (h2 : gtF s x.2 = some z) : x.1.kind = 0 ∧ x.1.num = 0 ∧ x.1.text = [] ∧ rgtF x.2 = true := by
  unfold rgtX at h
  split at h
  · rename_i e
    obtain ⟨a, f⟩ := x
    cases f with
    | nil => cases h2
    | cons => simp [Fr.len] at h
  · rename_i e
    simp only [Bool.and_eq_true, decide_eq_true_eq] at h
    exact ⟨Classical.not_not.1 e, h.1.1, h.1.2, h.2⟩
theorem right_kind0 {x : Nd} (h : rgtX x = true) (hk : x.1.kind = 0) : x.1.num = 0 ∧ x.1.text = [] ∧ rgtF x.2 = true := by
  unfold rgtX at h
  rw [if_neg (by simp [hk])] at h
  simp only [Bool.and_eq_true, decide_eq_true_eq] at h
  exact ⟨h.1.1, h.1.2, h.2⟩
theorem right_make {a : NdD} {f : NdF} (h : a.kind = 0 ∧ a.num = 0 ∧ a.text = []) (hf : rgtF f = true) : rgtX (a, f) = true := by
  unfold rgtX
  simp [h.1, h.2.1, h.2.2, hf]
theorem set_get {y : Nd} : ∀ (l : List Stp) (x : Nd), okSet x l y → getX (setX x l y) l = some y := by
  intro l
  induction l with
  | nil => intro x h; exact absurd rfl (ok_ne h)
  | cons s l ih =>
    intro x h
    cases l with
    | nil =>
      obtain ⟨rfl, hk⟩ := ok_one.1 h
      rw [set_one]
      cases hz : gtF (stp y.1) x.2 with
      | none => simp only [getX]; rw [getF_ins hz]
      | some z => simp only [getX]; rw [getF_rep rfl hz]
    | cons t l =>
      obtain ⟨z, h1, h2⟩ := ok_more.1 h
      rw [set_more, h1]
      simp only
      rw [getX.eq_def]
      simp only
      rw [getF_rep (z := z) (by rw [set_fst]; exact getF_stp h1) h1]
      exact ih z h2
theorem set_right {y : Nd} (hy : rgtX y = true) : ∀ (l : List Stp) (x : Nd), rgtX x = true → okSet x l y → rgtX (setX x l y) = true := by
  intro l
  induction l with
  | nil => intro x _ h; exact absurd rfl (ok_ne h)
  | cons s l ih =>
    intro x hx h
    cases l with
    | nil =>
      obtain ⟨rfl, hk⟩ := ok_one.1 h
      obtain ⟨g1, g2, g3⟩ := right_kind0 hx hk
      rw [set_one]
      cases hz : gtF (stp y.1) x.2 with
      | none => exact right_make ⟨hk, g1, g2⟩ (right_ins hy g3 hz)
      | some z => exact right_make ⟨hk, g1, g2⟩ (right_rep rfl hy g3)
    | cons t l =>
      obtain ⟨z, h1, h2⟩ := ok_more.1 h
      obtain ⟨hk, g1, g2, g3⟩ := right_kind hx h1
      rw [set_more, h1]
      exact right_make ⟨hk, g1, g2⟩ (right_rep (by rw [set_fst]; exact getF_stp h1) (ih z (right_get g3 h1) h2) g3)
theorem cut_right : ∀ (l : List Stp) (x z : Nd), rgtX x = true → l ≠ [] → getX x l = some z → rgtX (cutX x l) = true := by
  intro l
  induction l with
  | nil => intro x z _ h; exact absurd rfl h
  | cons s l ih =>
    intro x z hx _ h
    rw [getX.eq_def] at h
    simp only at h
    cases h1 : gtF s x.2 with
    | none => rw [h1] at h; cases h
    | some u =>
      rw [h1] at h
      obtain ⟨hk, g1, g2, g3⟩ := right_kind hx h1
      cases l with
      | nil => rw [cutX_one]; exact right_make ⟨hk, g1, g2⟩ (right_del g3)
      | cons t l =>
        rw [cut_more, h1]
        exact right_make ⟨hk, g1, g2⟩ (right_rep (by rw [cut_fst]; exact getF_stp h1) (ih u z (right_get g3 h1) (by simp) h) g3)
theorem cut_get : ∀ (l : List Stp) (x z : Nd), rgtX x = true → l ≠ [] → getX x l = some z → getX (cutX x l) l = none := by
  intro l
  induction l with
  | nil => intro x z _ h; exact absurd rfl h
  | cons s l ih =>
    intro x z hx _ h
    rw [getX.eq_def] at h
    simp only at h
    cases h1 : gtF s x.2 with
    | none => rw [h1] at h; cases h
    | some u =>
      rw [h1] at h
      obtain ⟨hk, g1, g2, g3⟩ := right_kind hx h1
      cases l with
      | nil => rw [cutX_one]; simp only [getX]; rw [getF_del g3]
      | cons t l =>
        rw [cut_more, h1]
        simp only
        rw [getX.eq_def]
        simp only
        rw [getF_rep (z := u) (by rw [cut_fst]; exact getF_stp h1) h1]
        exact ih u z (right_get g3 h1) (by simp) h
/-- Cut again where there was none: as it was. -/
theorem set_cut_none {y : Nd} : ∀ (l : List Stp) (x : Nd), okSet x l y → getX x l = none → cutX (setX x l y) l = x := by
  intro l
  induction l with
  | nil => intro x h; exact absurd rfl (ok_ne h)
  | cons s l ih =>
    intro x h hn
    rw [getX.eq_def] at hn
    simp only at hn
    cases l with
    | nil =>
      obtain ⟨rfl, hk⟩ := ok_one.1 h
      cases hz : gtF (stp y.1) x.2 with
      | none => rw [set_one, hz, cutX_one]; simp only; rw [del_ins hz]
      | some z => rw [hz] at hn; cases hn
    | cons t l =>
      obtain ⟨z, h1, h2⟩ := ok_more.1 h
      rw [h1] at hn
      rw [set_more, h1, cut_more]
      simp only
      rw [getF_rep (z := z) (by rw [set_fst]; exact getF_stp h1) h1]
      simp only
      rw [rep_rep (by rw [set_fst]; exact getF_stp h1), ih z h2 hn, rep_same h1]
/-- Cut again where there was one: as if that had been cut. -/
theorem set_cut_some {y : Nd} : ∀ (l : List Stp) (x old : Nd), okSet x l y → getX x l = some old → cutX (setX x l y) l = cutX x l := by
  intro l
  induction l with
  | nil => intro x old h; exact absurd rfl (ok_ne h)
  | cons s l ih =>
    intro x old h hn
    rw [getX.eq_def] at hn
    simp only at hn
    cases l with
    | nil =>
      obtain ⟨rfl, hk⟩ := ok_one.1 h
      cases hz : gtF (stp y.1) x.2 with
      | none => rw [hz] at hn; cases hn
      | some z => rw [set_one, hz, cutX_one, cutX_one]; simp only; rw [del_rep rfl hz]
    | cons t l =>
      obtain ⟨z, h1, h2⟩ := ok_more.1 h
      rw [h1] at hn
      rw [set_more, h1, cut_more, cut_more]
      simp only
      rw [getF_rep (z := z) (by rw [set_fst]; exact getF_stp h1) h1, h1]
      simp only
      rw [rep_rep (by rw [set_fst]; exact getF_stp h1), ih z old h2 hn]
/-- .. and set as it was, it is the tree that it was. -/
theorem cut_set : ∀ (l : List Stp) (x old : Nd), rgtX x = true → l ≠ [] → getX x l = some old → okSet (cutX x l) l old ∧ setX (cutX x l) l old = x := by
  intro l
  induction l with
  | nil => intro x old _ h; exact absurd rfl h
  | cons s l ih =>
    intro x old hx _ h
    rw [getX.eq_def] at h
    simp only at h
    cases h1 : gtF s x.2 with
    | none => rw [h1] at h; cases h
    | some u =>
      rw [h1] at h
      obtain ⟨hk, g1, g2, g3⟩ := right_kind hx h1
      cases l with
      | nil =>
        injection h with h
        subst h
        have hs := getF_stp h1
        rw [cutX_one]
        refine ⟨⟨hs.symm, hk⟩, ?_⟩
        rw [set_one]
        simp only
        rw [getF_del g3]
        simp only
        rw [ins_del g3 h1]
      | cons t l =>
        obtain ⟨h2, h3⟩ := ih u old (right_get g3 h1) (by simp) h
        have hs : stp (cutX u (t :: l)).1 = s := by rw [cut_fst]; exact getF_stp h1
        rw [cut_more, h1]
        simp only
        refine ⟨ok_more.2 ⟨_, getF_rep hs h1, h2⟩, ?_⟩
        rw [set_more]
        simp only
        rw [getF_rep hs h1]
        simp only
        rw [h3, rep_rep hs, rep_same h1]
end Go.Proofs.Ytgipnemcmiohlaa

