/-
  Items within items as plain data (layer 3): their bytes, whether they may be, and what bytes are read as. No program, no condition but those of each theorem.
-/
import Derived.Test.YtdpaijechogmlaaVarMath
namespace Go.Proofs.Ytdpaijechogmlaa

/-- Items, one behind the other: of the first one its tag, its bytes, its kids; and the others. -/
inductive Fo where
  | nil : Fo
  | cons (tag : Nat) (data : List UInt8) (kids : Fo) (rest : Fo) : Fo
deriving DecidableEq

namespace Fo
def len : Fo → Nat
  | nil => 0
  | cons _ _ _ r => r.len + 1
def app : Fo → Fo → Fo
  | nil, g => g
  | cons t d k r, g => cons t d k (r.app g)
/-- What the law counts: items, kids, and each hundred bytes. -/
def wt : Fo → Nat
  | nil => 0
  | cons _ d k r => 1 + d.length / 100 + k.wt + r.wt
/-- Items, kids and bytes. -/
def sz : Fo → Nat
  | nil => 0
  | cons _ d k r => 1 + d.length + k.sz + r.sz
/-- Each tag is a number of 64 bits. -/
def fit : Fo → Prop
  | nil => True
  | cons t _ k r => t < 18446744073709551616 ∧ k.fit ∧ r.fit
/-- What stands in an item. -/
def inn (tag : Nat) (data kids : List UInt8) : List UInt8 := if tag % 2 = 1 then kids else data
def all : Fo → List UInt8
  | nil => []
  | cons t d k r => encV 9 t ++ (encV 9 (inn t d k.all).length ++ (inn t d k.all ++ r.all))
/-- May items be, so deep? -/
def right : Nat → Fo → Bool
  | _, nil => true
  | deep, cons t d k r => decide (deep ≤ 6) && (if t % 2 = 1 then d.isEmpty else k.len == 0) && right (deep + 1) k && right deep r

theorem app_nil (f : Fo) : f.app nil = f := by
  induction f with
  | nil => rfl
  | cons t d k r _ ih => simp only [app, ih]
theorem app_assoc (f g h : Fo) : (f.app g).app h = f.app (g.app h) := by
  induction f with
  | nil => rfl
  | cons t d k r _ ih => simp only [app, ih]
theorem len_app (f g : Fo) : (f.app g).len = f.len + g.len := by
  induction f with
  | nil => simp [app, len]
  | cons t d k r _ ih => simp only [app, len, ih]; omega
theorem wt_app (f g : Fo) : (f.app g).wt = f.wt + g.wt := by
  induction f with
  | nil => simp [app, wt]
  | cons t d k r _ ih => simp only [app, wt, ih]; omega
theorem sz_app (f g : Fo) : (f.app g).sz = f.sz + g.sz := by
  induction f with
  | nil => simp [app, sz]
  | cons t d k r _ ih => simp only [app, sz, ih]; omega
theorem all_app (f g : Fo) : (f.app g).all = f.all ++ g.all := by
  induction f with
  | nil => rfl
  | cons t d k r _ ih => simp only [app, all, ih, List.append_assoc]
theorem right_app (deep : Nat) (f g : Fo) : right deep (f.app g) = (right deep f && right deep g) := by
  induction f with
  | nil => simp [app, right]
  | cons t d k r _ ih => simp only [app, right, ih, Bool.and_assoc]
theorem fit_app (f g : Fo) : (f.app g).fit ↔ f.fit ∧ g.fit := by
  induction f with
  | nil => simp [app, fit]
  | cons t d k r _ ih => simp only [app, fit, ih, and_assoc]
theorem len_le_wt (f : Fo) : f.len ≤ f.wt := by
  induction f with
  | nil => simp [len]
  | cons t d k r _ ih => simp only [len, wt]; omega
theorem wt_le_sz (f : Fo) : f.wt ≤ f.sz := by
  induction f with
  | nil => simp [wt]
  | cons t d k r ihk ih => simp only [wt, sz]; omega
theorem sz_le_wt (f : Fo) : f.sz ≤ 100 * f.wt := by
  induction f with
  | nil => simp [sz]
  | cons t d k r ihk ih => simp only [wt, sz]; omega
theorem len_zero {f : Fo} (h : f.len = 0) : f = nil := by
  cases f with
  | nil => rfl
  | cons t d k r => simp [len] at h
theorem inn_length_le (t : Nat) (d k : List UInt8) : (inn t d k).length ≤ d.length + k.length := by
  unfold inn; split <;> omega
/-- Room: bytes of items are no more than 20 for each, and those in them. -/
theorem all_le (f : Fo) : f.all.length ≤ 20 * f.sz := by
  induction f with
  | nil => simp [all]
  | cons t d k r ihk ih =>
    simp only [all, List.length_append, sz]
    have h1 := (encV_length 9 t).2
    have h2 := (encV_length 9 (inn t d k.all).length).2
    have h3 := inn_length_le t d k.all
    omega
theorem all_pos (t : Nat) (d : List UInt8) (k r : Fo) : 2 ≤ (cons t d k r).all.length := by
  simp only [all, List.length_append]
  have h1 := (encV_length 9 t).1
  have h2 := (encV_length 9 (inn t d k.all).length).1
  omega
theorem all_nil {f : Fo} (h : f.all = []) : f = nil := by
  cases f with
  | nil => rfl
  | cons t d k r => have := all_pos t d k r; rw [h] at this; simp at this
end Fo

/-- An item, out of what its kids, and what is behind it, are read as. -/
def fin (t : Nat) (d : List UInt8) (k r : Fo × Int × Nat) : Fo × Int × Nat :=
  if k.2.1 ≠ 0 then (.nil, k.2.1, k.2.2) else if r.2.1 ≠ 0 then (.nil, r.2.1, r.2.2) else (.cons t d k.1 r.1, 0, 0)
theorem fin_err {t : Nat} {d : List UInt8} {k r : Fo × Int × Nat} (h : (fin t d k r).2.1 ≠ 0) : (fin t d k r).1 = .nil := by
  unfold fin at h ⊢
  by_cases h1 : k.2.1 ≠ 0
  · rw [if_pos h1]
  · rw [if_neg h1] at h ⊢
    by_cases h2 : r.2.1 ≠ 0
    · rw [if_pos h2]
    · rw [if_neg h2] at h; exact absurd rfl h
theorem fin_ok {t : Nat} {d : List UInt8} {k r : Fo × Int × Nat} (h : (fin t d k r).2.1 = 0) : k.2.1 = 0 ∧ r.2.1 = 0 ∧ fin t d k r = (.cons t d k.1 r.1, 0, 0) := by
  unfold fin at h ⊢
  by_cases h1 : k.2.1 ≠ 0
  · rw [if_pos h1] at h; exact absurd h h1
  · rw [if_neg h1] at h ⊢
    by_cases h2 : r.2.1 ≠ 0
    · rw [if_pos h2] at h; exact absurd h h2
    · rw [if_neg h2]
      exact ⟨Decidable.not_not.1 h1, Decidable.not_not.1 h2, rfl⟩

/-- What bytes are read as: the items, the error, and where it is. -/
def gt : Nat → List UInt8 → Nat → Nat → Fo × Int × Nat
  | 0, _, _, _ => (.nil, 0, 0)
  | n + 1, s, deep, at_ =>
    if s = [] then (.nil, 0, 0) else
    if (getV s).2.2 ≠ 0 then (.nil, (getV s).2.2, at_) else
    if (getV (s.drop (getV s).2.1)).2.2 ≠ 0 then (.nil, (getV (s.drop (getV s).2.1)).2.2, at_ + (getV s).2.1) else
    if s.length - (getV s).2.1 - (getV (s.drop (getV s).2.1)).2.1 < (getV (s.drop (getV s).2.1)).1 then (.nil, 10, at_ + (getV s).2.1 + (getV (s.drop (getV s).2.1)).2.1) else
    if 6 < deep then (.nil, 13, at_) else
    fin (getV s).1 (if (getV s).1 % 2 = 0 then (s.drop ((getV s).2.1 + (getV (s.drop (getV s).2.1)).2.1)).take (getV (s.drop (getV s).2.1)).1 else [])
      (if (getV s).1 % 2 = 0 then (Fo.nil, (0 : Int), 0) else gt n ((s.drop ((getV s).2.1 + (getV (s.drop (getV s).2.1)).2.1)).take (getV (s.drop (getV s).2.1)).1) (deep + 1) (at_ + (getV s).2.1 + (getV (s.drop (getV s).2.1)).2.1))
      (gt n (s.drop ((getV s).2.1 + (getV (s.drop (getV s).2.1)).2.1 + (getV (s.drop (getV s).2.1)).1)) deep (at_ + ((getV s).2.1 + (getV (s.drop (getV s).2.1)).2.1 + (getV (s.drop (getV s).2.1)).1)))

theorem gt_nil (n deep at_ : Nat) : gt n [] deep at_ = (.nil, 0, 0) := by cases n <;> simp [gt]

/-- The step, with its numbers by name. -/
theorem gt_step {n : Nat} {s : List UInt8} {deep at_ : Nat} {t a long b : Nat} {e f : Int} (hs : s ≠ []) (h1 : getV s = (t, a, e)) (h2 : getV (s.drop a) = (long, b, f)) :
    gt (n + 1) s deep at_ = (if e ≠ 0 then (.nil, e, at_) else if f ≠ 0 then (.nil, f, at_ + a) else if s.length - a - b < long then (.nil, 10, at_ + a + b) else if 6 < deep then (.nil, 13, at_) else
      fin t (if t % 2 = 0 then (s.drop (a + b)).take long else []) (if t % 2 = 0 then (Fo.nil, (0 : Int), 0) else gt n ((s.drop (a + b)).take long) (deep + 1) (at_ + a + b)) (gt n (s.drop (a + b + long)) deep (at_ + (a + b + long)))) := by
  conv => lhs; unfold gt
  rw [if_neg hs]
  simp only [h1, h2]

/-- With an error there are no items. -/
theorem gt_err (n : Nat) (s : List UInt8) (deep at_ : Nat) (h : (gt n s deep at_).2.1 ≠ 0) : (gt n s deep at_).1 = .nil := by
  cases n with
  | zero => rfl
  | succ n =>
    by_cases hs : s = []
    · subst hs; rw [gt_nil]
    · obtain ⟨t, a, e, h1⟩ : ∃ t a e, getV s = (t, a, e) := ⟨_, _, _, rfl⟩
      obtain ⟨long, b, f, h2⟩ : ∃ t b e, getV (s.drop a) = (t, b, e) := ⟨_, _, _, rfl⟩
      rw [gt_step hs h1 h2] at h ⊢
      by_cases c1 : e ≠ 0
      · rw [if_pos c1]
      rw [if_neg c1] at h ⊢
      by_cases c2 : f ≠ 0
      · rw [if_pos c2]
      rw [if_neg c2] at h ⊢
      by_cases c3 : s.length - a - b < long
      · rw [if_pos c3]
      rw [if_neg c3] at h ⊢
      by_cases c4 : 6 < deep
      · rw [if_pos c4]
      rw [if_neg c4] at h ⊢
      exact fin_err h

/-- What the step says of an item's bytes with anything behind. -/
theorem gt_item {n : Nat} {t long : Nat} {c : List UInt8} {deep at_ : Nat} (ht : t < 18446744073709551616) (hl : long < 18446744073709551616) :
    gt (n + 1) (encV 9 t ++ (encV 9 long ++ c)) deep at_ = (if c.length < long then (.nil, 10, at_ + (encV 9 t).length + (encV 9 long).length) else if 6 < deep then (.nil, 13, at_) else
      fin t (if t % 2 = 0 then c.take long else []) (if t % 2 = 0 then (Fo.nil, (0 : Int), 0) else gt n (c.take long) (deep + 1) (at_ + (encV 9 t).length + (encV 9 long).length))
        (gt n (c.drop long) deep (at_ + ((encV 9 t).length + (encV 9 long).length + long)))) := by
  have h1 := getV_enc t ht (encV 9 long ++ c)
  have hd1 : (encV 9 t ++ (encV 9 long ++ c)).drop (encV 9 t).length = encV 9 long ++ c := List.drop_left
  have h2 := getV_enc long hl c
  rw [← hd1] at h2
  have hne : encV 9 t ++ (encV 9 long ++ c) ≠ [] := by
    intro h
    have h3 := congrArg List.length h
    rw [List.length_append, List.length_nil] at h3
    have h4 := (encV_length 9 t).1
    omega
  have hd2 : (encV 9 t ++ (encV 9 long ++ c)).drop ((encV 9 t).length + (encV 9 long).length) = c := by
    rw [← List.drop_drop, hd1, List.drop_left]
  have hd3 : (encV 9 t ++ (encV 9 long ++ c)).drop ((encV 9 t).length + (encV 9 long).length + long) = c.drop long := by
    rw [← List.drop_drop, hd2]
  have hlen : (encV 9 t ++ (encV 9 long ++ c)).length - (encV 9 t).length - (encV 9 long).length = c.length := by
    simp only [List.length_append]; omega
  rw [gt_step hne h1 h2, if_neg (by decide), if_neg (by decide), hlen, hd2, hd3]

/-- WHAT IS PUT IS GOT. -/
theorem gt_all (f : Fo) : ∀ (n deep at_ : Nat), f.all.length ≤ n → f.all.length < 18446744073709551616 → f.fit → Fo.right deep f = true → gt n f.all deep at_ = (f, 0, 0) := by
  induction f with
  | nil => intro n deep at_ _ _ _ _; exact gt_nil n deep at_
  | cons t d k r ihk ihr =>
    intro n deep at_ hn h64 hfit hr
    obtain ⟨ht, hfk, hfr⟩ := hfit
    have hpos := Fo.all_pos t d k r
    obtain ⟨n, rfl⟩ : ∃ m, n = m + 1 := ⟨n - 1, by omega⟩
    simp only [Fo.right, Bool.and_eq_true, decide_eq_true_eq] at hr
    obtain ⟨⟨⟨hdeep, hshape⟩, hrk⟩, hrr⟩ := hr
    have hall : (Fo.cons t d k r).all = encV 9 t ++ (encV 9 (Fo.inn t d k.all).length ++ (Fo.inn t d k.all ++ r.all)) := rfl
    have hl := congrArg List.length hall
    simp only [List.length_append] at hl
    have e1 := (encV_length 9 t).1
    have e2 := (encV_length 9 (Fo.inn t d k.all).length).1
    rw [hall, gt_item ht (by omega), if_neg (by rw [List.length_append]; omega), if_neg (by omega), List.take_left, List.drop_left]
    rw [ihr n deep _ (by omega) (by omega) hfr hrr]
    by_cases hodd : t % 2 = 1
    · rw [if_pos hodd] at hshape
      have hd0 : d = [] := by simpa using hshape
      subst hd0
      have hin : Fo.inn t [] k.all = k.all := by unfold Fo.inn; rw [if_pos hodd]
      rw [hin] at hl e2 ⊢
      rw [if_neg (by omega), if_neg (by omega), ihk n (deep + 1) _ (by omega) (by omega) hfk hrk]
      rfl
    · rw [if_neg hodd] at hshape
      have hk0 : k = .nil := Fo.len_zero (by simpa using hshape)
      subst hk0
      have hin : Fo.inn t d Fo.nil.all = d := by unfold Fo.inn; rw [if_neg hodd]
      rw [hin, if_pos (by omega), if_pos (by omega)]
      rfl

end Go.Proofs.Ytdpaijechogmlaa
