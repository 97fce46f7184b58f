/-
  A text as characters, and as tokens: the document's words over lists. No program; no condition but those of each theorem.
-/
import Derived.Test.YtgpcbfjakgndlaaLexDec
namespace Go.Proofs.Ytgpcbfjakgndlaa
set_option linter.unusedSimpArgs false

/-- A character: its bytes, and whether they are a valid encoding. -/
abbrev It := List UInt8 × Bool
abbrev Ps := Nat × Nat
def cutF : Nat → List UInt8 → List It
  | 0, _ => []
  | f + 1, s => if s = [] then [] else (s.take (dc s).2, okc s) :: cutF f (s.drop (dc s).2)
theorem cutF_nil (f : Nat) : cutF f [] = [] := by cases f <;> simp [cutF]
theorem cutF_fuel (f g : Nat) (s : List UInt8) (hf : s.length ≤ f) (hg : s.length ≤ g) : cutF f s = cutF g s := by
  induction f generalizing g s with
  | zero =>
    have : s = [] := List.length_eq_zero_iff.1 (by omega)
    rw [this, cutF_nil, cutF_nil]
  | succ f ih =>
    by_cases h0 : s = []
    · rw [h0, cutF_nil, cutF_nil]
    obtain ⟨g, rfl⟩ : ∃ g', g = g' + 1 := ⟨g - 1, by have := List.length_pos_iff.2 h0; omega⟩
    have hk := dc_know h0
    simp only [cutF, if_neg h0]
    rw [ih g (s.drop (dc s).2) (by rw [List.length_drop]; omega) (by rw [List.length_drop]; omega)]
/-- The characters of a text. -/
def cut (s : List UInt8) : List It := cutF s.length s
theorem cut_nil : cut [] = [] := rfl
theorem cut_cons {s : List UInt8} (h0 : s ≠ []) : cut s = (s.take (dc s).2, okc s) :: cut (s.drop (dc s).2) := by
  have hk := dc_know h0
  have hp := List.length_pos_iff.2 h0
  obtain ⟨f, hf⟩ : ∃ f, s.length = f + 1 := ⟨s.length - 1, by omega⟩
  unfold cut
  rw [hf]
  simp only [cutF, if_neg h0]
  rw [cutF_fuel f (s.drop (dc s).2).length _ (by rw [List.length_drop]; omega) (Nat.le_refl _)]
theorem cut_ne {s : List UInt8} (h0 : s ≠ []) : cut s ≠ [] := by rw [cut_cons h0]; simp
/-- By the characters ahead. -/
theorem cut_ind {p : List UInt8 → Prop} (hn : p []) (hc : ∀ s, s ≠ [] → p (s.drop (dc s).2) → p s) (s : List UInt8) : p s := by
  suffices h : ∀ n (s : List UInt8), s.length ≤ n → p s from h s.length s (Nat.le_refl _)
  intro n
  induction n with
  | zero =>
    intro s h
    rw [List.length_eq_zero_iff.1 (show s.length = 0 by omega)]
    exact hn
  | succ n ih =>
    intro s h
    by_cases h0 : s = []
    · rw [h0]; exact hn
    · have hk := dc_know h0
      exact hc s h0 (ih _ (by rw [List.length_drop]; omega))
theorem cut_flat (s : List UInt8) : (cut s).flatMap (·.1) = s := by
  refine cut_ind (p := fun s => (cut s).flatMap (·.1) = s) rfl (fun s h0 ih => ?_) s
  rw [cut_cons h0, List.flatMap_cons, ih, List.take_append_drop]
def ItOk (x : It) : Prop := x.1 ≠ [] ∧ x.1.length ≤ 4 ∧ (x.2 = false → ∃ a, x.1 = [a] ∧ 128 ≤ a.toNat) ∧ (x.2 = true → (∃ a, x.1 = [a] ∧ a.toNat < 128) ∨ (2 ≤ x.1.length ∧ (∃ a r, x.1 = a :: r ∧ 128 ≤ a.toNat) ∧ okc x.1 = true ∧ (dc x.1).2 = x.1.length))
theorem cut_item (s : List UInt8) : ∀ x ∈ cut s, ItOk x := by
  refine cut_ind (p := fun s => ∀ x ∈ cut s, ItOk x) (by simp [cut_nil]) (fun s h0 ih => ?_) s
  rw [cut_cons h0]
  intro x hx
  rcases List.mem_cons.1 hx with rfl | h
  · have hk := dc_know h0
    have h4 : (dc s).2 ≤ 4 := by
      rcases dc_cases s with ⟨a, r, rfl, h⟩ | ⟨a, b, r, rfl, h⟩ | ⟨a, b, c, r, rfl, h⟩ | ⟨a, b, c, d, r, rfl, h⟩ | h
      · rw [dc_one r h]; simp
      · rw [dc_two r h]; simp
      · rw [dc_three r h]; simp
      · rw [dc_four r h]; simp
      · rw [dc_none h0 h]; simp
    have hl : (s.take (dc s).2).length = (dc s).2 := by rw [List.length_take]; omega
    refine ⟨fun e => ?_, by simp only; omega, fun hf => ?_, fun ht => ?_⟩
    · have := congrArg List.length e
      simp only [hl, List.length_nil] at this
      omega
    · obtain ⟨e, _, a, r, rfl, ha⟩ := hk.2.2.2.2 hf
      exact ⟨a, by rw [e]; rfl, ha⟩
    · simp only at ht
      have hv := dc_valid h0 ht []
      rw [List.append_nil] at hv
      rcases dc_cases s with ⟨a, r, rfl, h⟩ | ⟨a, b, r, rfl, h⟩ | ⟨a, b, c, r, rfl, h⟩ | ⟨a, b, c, d, r, rfl, h⟩ | h
      · exact .inl ⟨a, by rw [dc_one r h]; rfl, h⟩
      · refine .inr ⟨by rw [hl, dc_two r h]; simp, ⟨a, [b], by rw [dc_two r h]; rfl, by have := h.1; omega⟩, ?_, by simp only; rw [hl, hv]⟩
        unfold okc; simp only; rw [hv]; exact ht
      · refine .inr ⟨by rw [hl, dc_three r h]; simp, ⟨a, [b, c], by rw [dc_three r h]; rfl, by have := h.1; omega⟩, ?_, by simp only; rw [hl, hv]⟩
        unfold okc; simp only; rw [hv]; exact ht
      · refine .inr ⟨by rw [hl, dc_four r h]; simp, ⟨a, [b, c, d], by rw [dc_four r h]; rfl, by have := h.1; omega⟩, ?_, by simp only; rw [hl, hv]⟩
        unfold okc; simp only; rw [hv]; exact ht
      · have e := dc_none h0 h
        unfold okc at ht
        rw [e] at ht
        exact absurd ht (by decide)
  · exact ih x h
theorem cut_app (u : List UInt8) {c : UInt8} (hc : c.toNat < 128) (v : List UInt8) : cut (u ++ c :: v) = cut u ++ ([c], true) :: cut v := by
  refine cut_ind (p := fun u => cut (u ++ c :: v) = cut u ++ ([c], true) :: cut v) ?_ (fun u h0 ih => ?_) u
  · have e := dc_one v hc
    have ho : okc (c :: v) = true := by unfold okc; rw [e]; simp [sz, hc]
    rw [List.nil_append, cut_cons (by simp), e, ho, cut_nil]
    rfl
  · have hk := dc_know h0
    have e := dc_app h0 hc v
    have ho : okc (u ++ c :: v) = okc u := by unfold okc; rw [e]
    rw [cut_cons (by simp [h0]), cut_cons h0, e, ho, List.take_append_of_le_length hk.2.1, List.drop_append_of_le_length hk.2.1, ih]
    rfl
theorem cut_valid {t : List UInt8} (h0 : t ≠ []) (ho : okc t = true) (hk : (dc t).2 = t.length) (v : List UInt8) : cut (t ++ v) = (t, true) :: cut v := by
  have e := dc_valid h0 ho v
  rw [hk, List.take_length] at e
  have ho2 : okc (t ++ v) = true := by unfold okc; rw [e]; exact ho
  rw [cut_cons (by simp [h0]), e, ho2, hk, List.take_left', List.drop_left'] <;> rfl

/-! ### Places -/
/-- Behind a character. -/
def adv (p : Ps) (x : It) : Ps := if x.1 = [10] then (p.1 + 1, 1) else (p.1, p.2 + 1)
def advs (p : Ps) (l : List It) : Ps := l.foldl adv p
theorem advs_cons (p : Ps) (x : It) (l : List It) : advs p (x :: l) = advs (adv p x) l := rfl
theorem advs_app (p : Ps) (l m : List It) : advs p (l ++ m) = advs (advs p l) m := by unfold advs; exact List.foldl_append

/-! ### Tokens -/
structure Tok where
  k : Nat
  t : List UInt8
  p : Ps
deriving DecidableEq
def blankB (t : List UInt8) : Bool := t == [32] || t == [9] || t == [13] || t == [10]
def letterB (t : List UInt8) : Bool := match t with
  | [c] => (decide (97 ≤ c) && decide (c ≤ 122)) || (decide (65 ≤ c) && decide (c ≤ 90)) || (decide (48 ≤ c) && decide (c ≤ 57)) || c == 95 || c == 45 || c == 46
  | _ => false
def hexes : List UInt8 := [48, 49, 50, 51, 52, 53, 54, 55, 56, 57, 97, 98, 99, 100, 101, 102]
/-- A digit of 16. -/
def digB (t : List UInt8) : Option Nat := match t with
  | [c] => hexes.idxOf? c
  | _ => none
/-- What a string's part says, how many characters it has; or where it is wrong. -/
inductive Pt
  | bad (p : Ps)
  | part (t : List UInt8) (n : Nat)
def partOf (p : Ps) : List It → Pt
  | [] => .bad p
  | x :: r =>
    if x.1 = [10] ∨ x.2 = false then .bad p
    else if x.1 ≠ [92] then .part x.1 1
    else match r with
      | [] => .bad (adv p x)
      | y :: r2 =>
        if y.1 = [34] ∨ y.1 = [92] then .part y.1 2
        else if y.1 = [110] then .part [10] 2
        else if y.1 = [116] then .part [9] 2
        else if y.1 = [120] then match r2 with
          | [] => .bad (adv (adv p x) y)
          | a :: r3 => match digB a.1 with
            | none => .bad (adv (adv p x) y)
            | some i => match r3 with
              | [] => .bad (adv (adv (adv p x) y) a)
              | c :: _ => match digB c.1 with
                | none => .bad (adv (adv (adv p x) y) a)
                | some j => .part [UInt8.ofNat (16 * i + j)] 4
        else .bad (adv p x)
theorem partOf_len {p : Ps} {l : List It} {t : List UInt8} {n : Nat} (h : partOf p l = .part t n) : 1 ≤ n ∧ n ≤ l.length := by
  unfold partOf at h
  repeat' split at h
  all_goals first | cases h | skip
  all_goals simp
/-- A string behind its first quote: what it says, and what is left; or where it is wrong. -/
def strF : Nat → Ps → List It → Sum Ps (List UInt8 × List It × Ps)
  | 0, p, _ => .inl p
  | f + 1, p, l => match l with
    | [] => .inl p
    | x :: r => if x.1 = [34] then .inr ([], r, adv p x)
      else match partOf p (x :: r) with
        | .bad q => .inl q
        | .part t n => match strF f (advs p ((x :: r).take n)) ((x :: r).drop n) with
          | .inl q => .inl q
          | .inr (u, r', q) => .inr (t ++ u, r', q)
theorem strF_fuel (f g : Nat) (p : Ps) (l : List It) (hf : l.length < f) (hg : l.length < g) : strF f p l = strF g p l := by
  induction f generalizing g p l with
  | zero => omega
  | succ f ih =>
    obtain ⟨g, rfl⟩ : ∃ g', g = g' + 1 := ⟨g - 1, by omega⟩
    cases l with
    | nil => rfl
    | cons x r =>
      unfold strF
      simp only
      split
      · rfl
      · split
        · rfl
        · rename_i t n e
          have hn := partOf_len e
          rw [ih g _ _ (by rw [List.length_drop]; omega) (by rw [List.length_drop]; omega)]
theorem strF_len {f : Nat} {p : Ps} {l : List It} {t : List UInt8} {r : List It} {q : Ps} (h : strF f p l = .inr (t, r, q)) : r.length < l.length ∧ ∃ m, l = m ++ r ∧ q = advs p m := by
  induction f generalizing p l t r q with
  | zero => cases h
  | succ f ih =>
    unfold strF at h
    cases l with
    | nil => cases h
    | cons x s =>
      simp only at h
      split at h
      · injection h with h
        injection h with h1 h2
        injection h2 with h2 h3
        subst h2 h3
        exact ⟨by simp, [x], rfl, rfl⟩
      · split at h
        · cases h
        · rename_i u n e
          have hn := partOf_len e
          split at h
          · cases h
          · rename_i w r' q' e2
            injection h with h
            injection h with h1 h2
            injection h2 with h2 h3
            subst h2 h3
            obtain ⟨h4, m, h5, h6⟩ := ih e2
            refine ⟨by rw [List.length_drop] at h4; omega, (x :: s).take n ++ m, ?_, ?_⟩
            · rw [List.append_assoc, ← h5, List.take_append_drop]
            · rw [advs_app, h6]
def str (p : Ps) (l : List It) : Sum Ps (List UInt8 × List It × Ps) := strF (l.length + 1) p l
theorem str_nil (p : Ps) : str p [] = .inl p := rfl
theorem str_quote {p : Ps} {x : It} {r : List It} (h : x.1 = [34]) : str p (x :: r) = .inr ([], r, adv p x) := by unfold str strF; simp only; rw [if_pos h]
theorem str_bad {p q : Ps} {x : It} {r : List It} (h : x.1 ≠ [34]) (hp : partOf p (x :: r) = .bad q) : str p (x :: r) = .inl q := by unfold str strF; simp only; rw [if_neg h, hp]
theorem str_part {p : Ps} {x : It} {r : List It} {t : List UInt8} {n : Nat} (h : x.1 ≠ [34]) (hp : partOf p (x :: r) = .part t n) :
    str p (x :: r) = match str (advs p ((x :: r).take n)) ((x :: r).drop n) with
      | .inl q => .inl q
      | .inr (u, r', q) => .inr (t ++ u, r', q) := by
  have hn := partOf_len hp
  unfold str
  rw [strF]
  rw [if_neg h, hp]
  simp only
  rw [strF_fuel (x :: r).length (((x :: r).drop n).length + 1) _ _ (by rw [List.length_drop]; simp at hn ⊢; omega) (by omega)]

inductive St
  | bad (q : Ps)
  | go (o : Option Tok) (r : List It) (q : Ps)
/-- One token, or what is none, from a character on. -/
def step (p : Ps) (x : It) (r : List It) : St :=
  if blankB x.1 then .go none r (adv p x)
  else if x.1 = [35] then .go none (r.drop (r.takeWhile (fun y => !(y.1 == [10]))).length) (advs (adv p x) (r.takeWhile (fun y => !(y.1 == [10]))))
  else if x.1 = [123] then .go (some ⟨3, [], p⟩) r (adv p x)
  else if x.1 = [125] then .go (some ⟨4, [], p⟩) r (adv p x)
  else if x.1 = [59] then .go (some ⟨5, [], p⟩) r (adv p x)
  else if x.1 = [34] then match str (adv p x) r with
    | .inl q => .bad q
    | .inr (t, r', q) => .go (some ⟨2, t, p⟩) r' q
  else if letterB x.1 then .go (some ⟨1, x.1 ++ (r.takeWhile (fun y => letterB y.1)).flatMap (·.1), p⟩) (r.drop (r.takeWhile (fun y => letterB y.1)).length) (advs (adv p x) (r.takeWhile (fun y => letterB y.1)))
  else .bad p
theorem step_len {p : Ps} {x : It} {r : List It} {o : Option Tok} {r' : List It} {q : Ps} (h : step p x r = .go o r' q) : r'.length ≤ r.length ∧ ∃ m, r = m ++ r' ∧ q = advs (adv p x) m := by
  have td : ∀ (f : It → Bool), r.takeWhile f ++ r.drop (r.takeWhile f).length = r := fun f => by
    have h1 := List.takeWhile_append_dropWhile (p := f) (l := r)
    have h2 : r.drop (r.takeWhile f).length = r.dropWhile f := by
      conv => lhs; rw [← h1]
      rw [List.takeWhile_append_dropWhile, ]
      conv => lhs; arg 2; rw [← h1]
      exact List.drop_left' rfl
    rw [h2]; exact h1
  unfold step at h
  split at h
  · injection h with _ h1 h2; subst h1 h2; exact ⟨Nat.le_refl _, [], rfl, rfl⟩
  split at h
  · injection h with _ h1 h2; subst h1 h2; exact ⟨by rw [List.length_drop]; omega, _, (td _).symm, rfl⟩
  split at h
  · injection h with _ h1 h2; subst h1 h2; exact ⟨Nat.le_refl _, [], rfl, rfl⟩
  split at h
  · injection h with _ h1 h2; subst h1 h2; exact ⟨Nat.le_refl _, [], rfl, rfl⟩
  split at h
  · injection h with _ h1 h2; subst h1 h2; exact ⟨Nat.le_refl _, [], rfl, rfl⟩
  split at h
  · split at h
    · cases h
    · rename_i t r2 q2 e
      injection h with _ h1 h2; subst h1 h2
      obtain ⟨h3, m, h4, h5⟩ := strF_len e
      exact ⟨Nat.le_of_lt h3, m, h4, h5⟩
  split at h
  · injection h with _ h1 h2; subst h1 h2; exact ⟨by rw [List.length_drop]; omega, _, (td _).symm, rfl⟩
  · cases h

def consO (o : Option Tok) (x : List Tok × Int × Ps) : List Tok × Int × Ps := if x.2.1 = 0 then (o.toList ++ x.1, 0, (0, 0)) else ([], x.2.1, x.2.2)
def lxF : Nat → Ps → List It → List Tok × Int × Ps
  | 0, p, _ => ([⟨0, [], p⟩], 0, (0, 0))
  | f + 1, p, l => match l with
    | [] => ([⟨0, [], p⟩], 0, (0, 0))
    | x :: r => match step p x r with
      | .bad q => ([], 20, q)
      | .go o r' q => consO o (lxF f q r')
theorem lxF_fuel (f g : Nat) (p : Ps) (l : List It) (hf : l.length ≤ f) (hg : l.length ≤ g) : lxF f p l = lxF g p l := by
  induction f generalizing g p l with
  | zero =>
    have : l = [] := List.length_eq_zero_iff.1 (by omega)
    subst this
    cases g <;> rfl
  | succ f ih =>
    cases l with
    | nil => cases g <;> rfl
    | cons x r =>
      obtain ⟨g, rfl⟩ : ∃ g', g = g' + 1 := ⟨g - 1, by simp at hg; omega⟩
      unfold lxF
      simp only
      split
      · rfl
      · rename_i o r' q e
        have hl := (step_len e).1
        rw [ih g q r' (by simp at hf; omega) (by simp at hg; omega)]
/-- The tokens of characters, from a place on; or the error, and where it is. -/
def lx (p : Ps) (l : List It) : List Tok × Int × Ps := lxF l.length p l
theorem lx_nil (p : Ps) : lx p [] = ([⟨0, [], p⟩], 0, (0, 0)) := rfl
theorem lx_bad {p q : Ps} {x : It} {r : List It} (h : step p x r = .bad q) : lx p (x :: r) = ([], 20, q) := by unfold lx; simp only [List.length_cons, lxF]; rw [h]
theorem lx_go {p q : Ps} {x : It} {r r' : List It} {o : Option Tok} (h : step p x r = .go o r' q) : lx p (x :: r) = consO o (lx q r') := by
  have hl := (step_len h).1
  unfold lx
  simp only [List.length_cons, lxF]
  rw [h]
  simp only
  rw [lxF_fuel r.length r'.length q r' hl (Nat.le_refl _)]
/-- By the tokens ahead. -/
theorem lx_ind {P : Ps → List It → Prop} (hn : ∀ p, P p []) (hb : ∀ p x r q, step p x r = .bad q → P p (x :: r)) (hg : ∀ p x r o r' q, step p x r = .go o r' q → P q r' → P p (x :: r)) (p : Ps) (l : List It) : P p l := by
  suffices h : ∀ n (l : List It) p, l.length ≤ n → P p l from h l.length l p (Nat.le_refl _)
  intro n
  induction n with
  | zero =>
    intro l p h
    rw [List.length_eq_zero_iff.1 (show l.length = 0 by omega)]
    exact hn p
  | succ n ih =>
    intro l p h
    cases l with
    | nil => exact hn p
    | cons x r =>
      cases e : step p x r with
      | bad q => exact hb p x r q e
      | go o r' q => exact hg p x r o r' q e (ih r' q (by have := (step_len e).1; simp at h; omega))

/-- What All answers. -/
def allX (s : List UInt8) : List Tok × Int × Ps := if 8192 < s.length then ([], 14, (0, 0)) else lx (1, 1) (cut s)
def plainX (s : List UInt8) : Bool := !s.isEmpty && s.all (fun c => letterB [c])
/-- A character within a string. -/
def quoI (x : It) : List UInt8 :=
  if x.1 = [34] ∨ x.1 = [92] then 92 :: x.1
  else if x.1 = [10] then [92, 110]
  else if x.1 = [9] then [92, 116]
  else if x.2 = false ∨ x.1.getD 0 0 < 32 ∨ x.1.getD 0 0 = 127 then [92, 120, hexes.getD ((x.1.getD 0 0).toNat / 16) 0, hexes.getD ((x.1.getD 0 0).toNat % 16) 0]
  else x.1
def quoteX (s : List UInt8) : List UInt8 := 34 :: ((cut s).flatMap quoI ++ [34])

end Go.Proofs.Ytgpcbfjakgndlaa
