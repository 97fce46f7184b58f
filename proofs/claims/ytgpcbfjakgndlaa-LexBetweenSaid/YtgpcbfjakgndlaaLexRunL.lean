/-
  All over a text's characters, from one of them on: what is told so far, and what is left. No program; no condition but those of each theorem.
-/
import Derived.Test.YtgpcbfjakgndlaaLexApp
import Derived.Test.YtgpcbfjakgndlaaLexRefC
namespace Go.Proofs.Ytgpcbfjakgndlaa
open Go.RowKit
set_option linter.unusedSimpArgs false

/-- Behind k characters: these tokens are told. -/
def RunL (l : List It) (k : Nat) (os : List Tok) : Prop := lx (1, 1) l = consL os (lx (advs (1, 1) (l.take k)) (l.drop k))
theorem run0 (l : List It) : RunL l 0 [] := by
  unfold RunL
  rw [List.take_zero, List.drop_zero]
  show lx (1, 1) l = consL [] (lx (1, 1) l)
  rcases lx_ends (1, 1) l with ⟨h1, h2, _⟩ | ⟨h1, h2⟩
  · unfold consL
    rw [if_pos h1, List.nil_append]
    generalize hz : lx (1, 1) l = z at h1 h2 ⊢
    obtain ⟨a, b, c⟩ := z
    simp only at h1 h2 ⊢
    rw [h1, h2]
  · unfold consL
    rw [if_neg (by rw [h1]; decide), ← h2]
theorem run_go {l : List It} {k k' : Nat} {x : It} {os : List Tok} {o : Option Tok} (hx : l[k]? = some x) (h : step (advs (1, 1) (l.take k)) x (l.drop (k + 1)) = .go o (l.drop k') (advs (1, 1) (l.take k'))) (hr : RunL l k os) : RunL l k' (os ++ o.toList) := by
  unfold RunL at *
  rw [hr, (drop_get hx).1, lx_go h, consO_eq, consL_consL]
theorem run_bad {l : List It} {k : Nat} {x : It} {os : List Tok} {q : Ps} (hx : l[k]? = some x) (h : step (advs (1, 1) (l.take k)) x (l.drop (k + 1)) = .bad q) (hr : RunL l k os) : lx (1, 1) l = ([], 20, q) := by
  unfold RunL at hr
  rw [hr, (drop_get hx).1, lx_bad h]
  rfl
theorem run_end {l : List It} {os : List Tok} (hr : RunL l l.length os) : lx (1, 1) l = (os ++ [⟨0, [], advs (1, 1) l⟩], 0, (0, 0)) := by
  unfold RunL at hr
  rw [hr, List.drop_length, List.take_length, lx_nil]
  rfl
theorem run_step {l : List It} {k : Nat} {x : It} (hx : l[k]? = some x) : adv (advs (1, 1) (l.take k)) x = advs (1, 1) (l.take (k + 1)) := ((drop_get hx).2 (1, 1)).symm
/-- As many as a test holds of, from one on. -/
theorem while_at {l : List It} {p : It → Bool} {a m : Nat} (ham : a ≤ m) (hm : m ≤ l.length) (h1 : ∀ j y, a ≤ j → j < m → l[j]? = some y → p y = true) (h2 : ∀ y, l[m]? = some y → p y = false) :
    (l.drop a).takeWhile p = (l.drop a).take (m - a) ∧ (l.drop a).drop ((l.drop a).takeWhile p).length = l.drop m ∧ advs (advs (1, 1) (l.take a)) ((l.drop a).takeWhile p) = advs (1, 1) (l.take m) := by
  have hd : l.drop a = (l.drop a).take (m - a) ++ l.drop m := by
    have := List.take_append_drop (m - a) (l.drop a)
    rw [List.drop_drop, show a + (m - a) = m by omega] at this
    exact this.symm
  have hw : (l.drop a).takeWhile p = (l.drop a).take (m - a) := by
    have e : (l.drop m).takeWhile p = [] := by
      by_cases hml : m < l.length
      · rw [List.drop_eq_getElem_cons hml, List.takeWhile_cons_of_neg]
        rw [h2 _ (List.getElem?_eq_getElem hml)]
        decide
      · rw [List.drop_eq_nil_of_le (by omega)]; rfl
    have hp : ∀ y ∈ (l.drop a).take (m - a), p y = true := fun y hy => by
      obtain ⟨j, hj, rfl⟩ := List.getElem_of_mem hy
      rw [List.length_take, List.length_drop] at hj
      refine h1 (a + j) _ (by omega) (by omega) ?_
      rw [List.getElem_take, List.getElem_drop]
      exact List.getElem?_eq_getElem _
    have h3 := List.takeWhile_append_of_pos (l₂ := l.drop m) hp
    rw [← hd, e, List.append_nil] at h3
    exact h3
  have hl : ((l.drop a).take (m - a)).length = m - a := by rw [List.length_take, List.length_drop]; omega
  refine ⟨hw, by rw [hw, hl, List.drop_drop, show a + (m - a) = m by omega], ?_⟩
  rw [hw, ← advs_app]
  congr 1
  have := List.take_add (l := l) (i := a) (j := m - a)
  rw [show a + (m - a) = m by omega] at this
  exact this.symm
theorem run_blank {l : List It} {k : Nat} {x : It} {os : List Tok} (hx : l[k]? = some x) (h : blankB x.1 = true) (hr : RunL l k os) : RunL l (k + 1) os := by
  have := run_go (o := none) hx (k' := k + 1) (by unfold step; rw [if_pos h, run_step hx]) hr
  simpa using this
theorem run_sign {l : List It} {k n : Nat} {x : It} {os : List Tok} (hx : l[k]? = some x) (h : (x.1 = [123] ∧ n = 3) ∨ (x.1 = [125] ∧ n = 4) ∨ (x.1 = [59] ∧ n = 5)) (hr : RunL l k os) : RunL l (k + 1) (os ++ [⟨n, [], advs (1, 1) (l.take k)⟩]) := by
  refine run_go (o := some ⟨n, [], advs (1, 1) (l.take k)⟩) hx (k' := k + 1) ?_ hr
  unfold step
  rw [run_step hx]
  rcases h with ⟨h, rfl⟩ | ⟨h, rfl⟩ | ⟨h, rfl⟩ <;> rw [h] <;> simp [blankB]
theorem run_note {l : List It} {k m : Nat} {x : It} {os : List Tok} (hx : l[k]? = some x) (h : x.1 = [35]) (hkm : k + 1 ≤ m) (hm : m ≤ l.length) (h1 : ∀ j y, k + 1 ≤ j → j < m → l[j]? = some y → y.1 ≠ [10]) (h2 : ∀ y, l[m]? = some y → y.1 = [10]) (hr : RunL l k os) : RunL l m os := by
  obtain ⟨_, w2, w3⟩ := while_at (p := fun y => !(y.1 == [10])) hkm hm (fun j y g1 g2 g3 => by simpa using h1 j y g1 g2 g3) (fun y g => by simpa using h2 y g)
  have := run_go (o := none) hx (k' := m) (by
    unfold step
    rw [run_step hx, if_neg (by rw [h]; decide), if_pos h, w2, w3]) hr
  simpa using this
theorem run_word {l : List It} {k m : Nat} {x : It} {os : List Tok} (hx : l[k]? = some x) (h : letterB x.1 = true) (hkm : k + 1 ≤ m) (hm : m ≤ l.length) (h1 : ∀ j y, k + 1 ≤ j → j < m → l[j]? = some y → letterB y.1 = true) (h2 : ∀ y, l[m]? = some y → letterB y.1 = false) (hr : RunL l k os) :
    RunL l m (os ++ [⟨1, x.1 ++ ((l.drop (k + 1)).take (m - (k + 1))).flatMap (·.1), advs (1, 1) (l.take k)⟩]) := by
  obtain ⟨w1, w2, w3⟩ := while_at (p := fun y => letterB y.1) hkm hm h1 h2
  refine run_go (o := some ⟨1, x.1 ++ ((l.drop (k + 1)).take (m - (k + 1))).flatMap (·.1), advs (1, 1) (l.take k)⟩) hx (k' := m) ?_ hr
  have hne : ∀ c : UInt8, letterB [c] = false → x.1 ≠ [c] := fun c hc e => by rw [e, hc] at h; cases h
  unfold step
  have hb : ¬ blankB x.1 = true := by
    unfold blankB
    simp [hne 32 (by decide), hne 9 (by decide), hne 13 (by decide), hne 10 (by decide)]
  rw [run_step hx, if_neg hb, if_neg (hne 35 (by decide)), if_neg (hne 123 (by decide)), if_neg (hne 125 (by decide)), if_neg (hne 59 (by decide)), if_neg (hne 34 (by decide)), if_pos h, w2, w3, w1]
theorem run_other {l : List It} {k : Nat} {x : It} {os : List Tok} (hx : l[k]? = some x) (h1 : blankB x.1 = false) (h2 : x.1 ≠ [35]) (h3 : x.1 ≠ [123]) (h4 : x.1 ≠ [125]) (h5 : x.1 ≠ [59]) (h6 : x.1 ≠ [34]) (h7 : letterB x.1 = false) (hr : RunL l k os) : lx (1, 1) l = ([], 20, advs (1, 1) (l.take k)) := by
  refine run_bad hx ?_ hr
  unfold step
  rw [if_neg (by rw [h1]; decide), if_neg h2, if_neg h3, if_neg h4, if_neg h5, if_neg h6, if_neg (by rw [h7]; decide)]
/-- A string's text so far: t, behind m characters. -/
def StrL (l : List It) (a m : Nat) (t : List UInt8) : Prop := str (advs (1, 1) (l.take a)) (l.drop a) = match str (advs (1, 1) (l.take m)) (l.drop m) with
  | .inl q => .inl q
  | .inr (u, r', q) => .inr (t ++ u, r', q)
theorem str0 (l : List It) (a : Nat) : StrL l a a [] := by
  unfold StrL
  cases h : str (advs (1, 1) (l.take a)) (l.drop a) with
  | inl q => rfl
  | inr v => rfl
theorem str_go {l : List It} {a m n : Nat} {x : It} {t u : List UInt8} (hx : l[m]? = some x) (h : x.1 ≠ [34]) (hp : partOf (advs (1, 1) (l.take m)) (l.drop m) = .part u n) (hs : StrL l a m t) : 1 ≤ n ∧ m + n ≤ l.length ∧ StrL l a (m + n) (t ++ u) := by
  have hn := partOf_len hp
  rw [List.length_drop] at hn
  have hml : m < l.length := (List.getElem?_eq_some_iff.1 hx).1
  refine ⟨hn.1, by omega, ?_⟩
  unfold StrL at *
  have hd := (drop_get hx).1
  have e := str_part h (by rw [← hd]; exact hp)
  rw [← hd, ← advs_app, ← List.take_add, List.drop_drop] at e
  rw [hs, e]
  cases str (advs (1, 1) (l.take (m + n))) (l.drop (m + n)) with
  | inl q => rfl
  | inr v => simp only [List.append_assoc]
theorem str_err {l : List It} {a m : Nat} {t : List UInt8} {q : Ps} (hm : m ≤ l.length) (h : ∀ x, l[m]? = some x → x.1 ≠ [34]) (hp : partOf (advs (1, 1) (l.take m)) (l.drop m) = .bad q) (hs : StrL l a m t) : str (advs (1, 1) (l.take a)) (l.drop a) = .inl q := by
  unfold StrL at hs
  by_cases hml : m < l.length
  · have hx := List.getElem?_eq_getElem hml
    have hd := (drop_get hx).1
    have e := str_bad (h _ hx) (by rw [← hd]; exact hp)
    rw [← hd] at e
    rw [hs, e]
  · have hd : l.drop m = [] := List.drop_eq_nil_of_le (by omega)
    rw [hd] at hp hs
    rw [str_nil] at hs
    rw [hs]
    injection hp with hp
    rw [hp]
theorem run_strErr {l : List It} {k : Nat} {x : It} {os : List Tok} {q : Ps} (hx : l[k]? = some x) (h : x.1 = [34]) (hs : str (advs (1, 1) (l.take (k + 1))) (l.drop (k + 1)) = .inl q) (hr : RunL l k os) : lx (1, 1) l = ([], 20, q) := by
  refine run_bad hx ?_ hr
  unfold step
  rw [run_step hx, hs]
  simp [h, blankB]
theorem run_str {l : List It} {k m : Nat} {x y : It} {os : List Tok} {t : List UInt8} (hx : l[k]? = some x) (h : x.1 = [34]) (hy : l[m]? = some y) (h' : y.1 = [34]) (hs : StrL l (k + 1) m t) (hr : RunL l k os) : RunL l (m + 1) (os ++ [⟨2, t, advs (1, 1) (l.take k)⟩]) := by
  refine run_go (o := some ⟨2, t, advs (1, 1) (l.take k)⟩) hx (k' := m + 1) ?_ hr
  unfold StrL at hs
  rw [(drop_get hy).1, str_quote h', run_step hy] at hs
  simp only [List.append_nil] at hs
  unfold step
  rw [run_step hx, hs]
  simp [h, blankB]

end Go.Proofs.Ytgpcbfjakgndlaa
