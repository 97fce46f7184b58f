/-
  Tokens one behind the other, each on a line of its own behind a blank and a note: what All tells of such a text. No program; no condition but those of each theorem.
-/
import Derived.Test.YtgpcbfjakgndlaaLexQuo
import Derived.Test.YtgpcbfjakgndlaaLexFnD
import Derived.Test.YtgpcbfjakgndlaaLaw05C
namespace Go.Proofs.Ytgpcbfjakgndlaa
open Go.RowKit
set_option linter.unusedSimpArgs false

theorem cut_one {c : UInt8} (hc : c.toNat < 128) (v : List UInt8) : cut (c :: v) = ([c], true) :: cut v := by
  have e := cut_app [] hc v
  rwa [cut_nil, List.nil_append, List.nil_append] at e
theorem cut_no {b : List UInt8} {c : UInt8} (hb : ∀ a ∈ b, a ≠ c) : ∀ y ∈ cut b, y.1 ≠ [c] := by
  intro y hy e
  have h : c ∈ (cut b).flatMap (·.1) := List.mem_flatMap.2 ⟨y, hy, by rw [e]; simp⟩
  rw [cut_flat] at h
  exact hb c h rfl
/-- A token that came in: kind and text. -/
abbrev TkI := Int × List UInt8
/-- How the law writes it. -/
def tokTx (x : TkI) : List UInt8 := if x.1 = 1 then x.2 else if x.1 = 2 then quoteX x.2 else if x.1 = 3 then [123] else if x.1 = 4 then [125] else [59]
def TokOk (x : TkI) : Prop := (x.1 = 1 ∧ plainX x.2 = true) ∨ x.1 = 2 ∨ x.1 = 3 ∨ x.1 = 4 ∨ x.1 = 5
/-- What All tells of it, on line n. -/
def tokOf (x : TkI) (n : Nat) : Tok := ⟨x.1.toNat, if 2 < x.1 then [] else x.2, (n, 2)⟩
def tokW (x : TkI) : Nat := if x.1 = 1 then x.2.length else if x.1 = 2 then (cut (quoteX x.2)).length else 1
theorem consL_nil (q : Ps) (r : List It) : consL [] (lx q r) = lx q r := consO_none q r
theorem lx_noteB (p : Ps) (b : List UInt8) (hb : ∀ a ∈ b, a ≠ 10) (v : List UInt8) :
    lx p (([35], true) :: cut (b ++ 10 :: v)) = lx (p.1, p.2 + 1 + (cut b).length) (([10], true) :: cut v) := by
  have hn := cut_no hb
  rw [cut_app b (by decide) v]
  have e := takeWhile_app (f := fun y : It => !(y.1 == [10])) (y := ([10], true)) (by decide) (cut b) (cut v)
  have e2 := takeWhile_all (f := fun y : It => !(y.1 == [10])) (r := cut b) (fun y hy => by simpa using hn y hy)
  have ha : adv p ([35], true) = (p.1, p.2 + 1) := by unfold adv; rw [if_neg (by decide)]
  rw [lx_go (o := none) (r' := ([10], true) :: cut v) (q := (p.1, p.2 + 1 + (cut b).length)), consO_none]
  unfold step
  rw [if_neg (by decide), if_pos rfl, e, e2, List.drop_left' rfl, ha, advs_asc hn]
theorem lx_sign {c : UInt8} {n : Nat} (h : (c = 123 ∧ n = 3) ∨ (c = 125 ∧ n = 4) ∨ (c = 59 ∧ n = 5)) (p : Ps) (R : List UInt8) : lx p (cut (c :: R)) = consL [⟨n, [], p⟩] (lx (p.1, p.2 + 1) (cut R)) := by
  have hc : c.toNat < 128 := by rcases h with ⟨rfl, _⟩ | ⟨rfl, _⟩ | ⟨rfl, _⟩ <;> decide
  have ha : adv p ([c], true) = (p.1, p.2 + 1) := by
    unfold adv
    rw [if_neg (by rcases h with ⟨rfl, _⟩ | ⟨rfl, _⟩ | ⟨rfl, _⟩ <;> decide)]
  rw [cut_one hc, lx_go (o := some ⟨n, [], p⟩) (r' := cut R) (q := (p.1, p.2 + 1)), consO_eq]
  · rfl
  unfold step
  rw [ha]
  rcases h with ⟨rfl, rfl⟩ | ⟨rfl, rfl⟩ | ⟨rfl, rfl⟩ <;> simp [blankB]
theorem chunk_lx (q : Ps) (b : List UInt8) (hb : ∀ a ∈ b, a ≠ 10) (x : TkI) (hx : TokOk x) (R : List UInt8) (hR : R = [] ∨ ∃ r, R = 9 :: r) :
    lx q (cut (([9, 32, 35] ++ b ++ [10, 32]) ++ (tokTx x ++ R))) = consL [tokOf x (q.1 + 1)] (lx (q.1 + 1, 2 + tokW x) (cut R)) := by
  have e0 : ([9, 32, 35] ++ b ++ [10, 32]) ++ (tokTx x ++ R) = 9 :: 32 :: 35 :: (b ++ 10 :: (32 :: (tokTx x ++ R))) := by simp
  have a1 : ∀ p : Ps, adv p ([10], true) = (p.1 + 1, 1) := fun p => by unfold adv; rw [if_pos rfl]
  have a2 : ∀ p : Ps, ∀ c : UInt8, c ≠ 10 → adv p ([c], true) = (p.1, p.2 + 1) := fun p c hc => by unfold adv; rw [if_neg (by simpa using hc)]
  rw [e0, cut_one (by decide), lx_blank (by decide), cut_one (by decide), lx_blank (by decide), cut_one (by decide), lx_noteB _ _ hb, lx_blank (by decide), cut_one (by decide), lx_blank (by decide), a1, a2 _ 32 (by decide), a2 _ 32 (by decide), a2 _ 9 (by decide)]
  simp only
  have hRc : R = [] ∨ ∃ c r, R = c :: r ∧ c.toNat < 128 ∧ letterB [c] = false := by
    rcases hR with h | ⟨r, h⟩
    · exact .inl h
    · exact .inr ⟨9, r, h, by decide, by decide⟩
  obtain ⟨k, t⟩ := x
  rcases hx with ⟨h1, h2⟩ | h1 | h1 | h1 | h1
  all_goals
    simp only at h1
    subst h1
  · exact lx_word h2 (q.1 + 1, 2) R hRc
  · exact lx_quote t (q.1 + 1, 2) R
  · exact lx_sign (.inl ⟨rfl, rfl⟩) (q.1 + 1, 2) R
  · exact lx_sign (.inr (.inl ⟨rfl, rfl⟩)) (q.1 + 1, 2) R
  · exact lx_sign (.inr (.inr ⟨rfl, rfl⟩)) (q.1 + 1, 2) R
/-- The tokens, from line n on. -/
def outs : Nat → List TkI → List Tok
  | _, [] => []
  | n, x :: l => tokOf x n :: outs (n + 1) l
theorem outs_len (n : Nat) (l : List TkI) : (outs n l).length = l.length := by
  induction l generalizing n with
  | nil => rfl
  | cons x l ih => simp only [outs, List.length_cons, ih]
theorem outs_at {l : List TkI} {j : Nat} {x : TkI} (h : l[j]? = some x) : ∀ n : Nat, (outs n l)[j]? = some (tokOf x (j + n)) := by
  induction l generalizing j with
  | nil => simp at h
  | cons y l ih =>
    intro n
    cases j with
    | zero => simp at h; subst h; simp [outs]
    | succ j =>
      simp only [outs, List.getElem?_cons_succ]
      rw [ih (by simpa using h) (n + 1), show j + 1 + n = j + (n + 1) by omega]
theorem outs_snoc (x : TkI) : ∀ (l : List TkI) (n : Nat), outs n (l ++ [x]) = outs n l ++ [tokOf x (l.length + n)] := by
  intro l
  induction l with
  | nil => intro n; simp [outs]
  | cons y l ih =>
    intro n
    simp only [List.cons_append, outs, ih (n + 1), List.length_cons]
    rw [show l.length + 1 + n = l.length + (n + 1) by omega]
/-- The law's text, behind i tokens. -/
def BetI (l : List TkI) (i : Nat) (T : List UInt8) : Prop := T.length ≤ 320 * i ∧ i ≤ l.length ∧ (∀ j x, j < i → l[j]? = some x → TokOk x) ∧
  ∃ q : Ps, q.1 = i + 1 ∧ ∀ R : List UInt8, (R = [] ∨ ∃ r, R = 9 :: r) → lx (1, 1) (cut (T ++ R)) = consL (outs 2 (l.take i)) (lx q (cut R))
theorem bet0 (l : List TkI) : BetI l 0 [] := by
  refine ⟨by simp, Nat.zero_le _, fun j x h => by omega, (1, 1), rfl, fun R _ => ?_⟩
  rw [List.nil_append, List.take_zero]
  exact (consL_nil _ _).symm
theorem tokTx_len (x : TkI) (h : x.2.length ≤ 60) : (tokTx x).length ≤ 250 := by
  have h1 := quoteX_len x.2
  unfold tokTx
  split
  · omega
  split
  · omega
  split
  · simp
  split <;> simp
theorem bet_step {l : List TkI} {i : Nat} {T b : List UInt8} {x : TkI} (hx : l[i]? = some x) (h : BetI l i T) (hb : ∀ a ∈ b, a ≠ 10) (hb6 : b.length ≤ 60) (hx6 : x.2.length ≤ 60) (ho : TokOk x) :
    BetI l (i + 1) ((T ++ ([9, 32, 35] ++ b ++ [10, 32])) ++ tokTx x) := by
  obtain ⟨h1, h2, h3, q, h4, h5⟩ := h
  have hi := (List.getElem?_eq_some_iff.1 hx).1
  have htl := tokTx_len x hx6
  refine ⟨?_, by omega, fun j y hj hy => ?_, (q.1 + 1, 2 + tokW x), by rw [h4], fun R hR => ?_⟩
  · simp only [List.length_append, List.length_cons, List.length_nil]; omega
  · by_cases e : j < i
    · exact h3 j y e hy
    · obtain rfl : j = i := by omega
      rw [hx] at hy
      injection hy with hy
      rw [← hy]
      exact ho
  · rw [List.append_assoc, List.append_assoc, h5 _ (.inr ⟨32 :: 35 :: (b ++ [10, 32] ++ (tokTx x ++ R)), by simp⟩), chunk_lx q b hb x ho R hR, consL_consL, List.take_add_one, hx]
    simp only [Option.toList_some]
    rw [outs_snoc, List.length_take, Nat.min_eq_left (by omega), h4]
theorem bet_end {l : List TkI} {T : List UInt8} (h : BetI l l.length T) (hT : T.length ≤ 8192) : ∃ q, allX T = (outs 2 l ++ [⟨0, [], q⟩], 0, (0, 0)) := by
  obtain ⟨-, -, -, q, -, h5⟩ := h
  have e := h5 [] (.inl rfl)
  rw [List.append_nil, cut_nil, lx_nil, List.take_length] at e
  exact ⟨q, by rw [allX_ok hT, e]; rfl⟩
theorem tokOf_k {x : TkI} (n : Nat) (h : TokOk x) : ((tokOf x n).k : Int) = x.1 := by
  unfold tokOf
  simp only
  rcases h with ⟨h, _⟩ | h | h | h | h <;> rw [h] <;> rfl

end Go.Proofs.Ytgpcbfjakgndlaa
