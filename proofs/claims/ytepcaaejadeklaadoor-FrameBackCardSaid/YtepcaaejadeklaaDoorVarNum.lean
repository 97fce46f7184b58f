/-
  Plain facts on numbers in groups of seven bits (layer 2): no program.
-/
import Derived.Test.YtepcaaejadeklaaDoorOctNum
namespace Go.Proofs.YtepcaaejadeklaaDoor

/-- A number's groups, the lowest first; f: how many there may be behind the first. -/
def encV : Nat → Nat → List UInt8
  | 0, x => [UInt8.ofNat x]
  | f + 1, x => if x < 128 then [UInt8.ofNat x] else UInt8.ofNat (x % 128 + 128) :: encV f (x / 128)
theorem encV_small (f x : Nat) (h : x < 128) : encV f x = [UInt8.ofNat x] := by cases f <;> simp [encV, h]
theorem encV_big (f x : Nat) (h : ¬ x < 128) : encV (f + 1) x = UInt8.ofNat (x % 128 + 128) :: encV f (x / 128) := by simp [encV, h]

theorem encV_length (f x : Nat) : 1 ≤ (encV f x).length ∧ (encV f x).length ≤ f + 1 := by
  induction f generalizing x with
  | zero => simp [encV]
  | succ f ih =>
    by_cases h : x < 128
    · rw [encV_small _ _ h]; simp
    · rw [encV_big f x h, List.length_cons]
      have := ih (x / 128)
      omega

/-- How many bytes above 127 stand in front, at most f. -/
def lead : Nat → List UInt8 → Nat
  | 0, _ => 0
  | _ + 1, [] => 0
  | f + 1, b :: l => if 127 < b.toNat then lead f l + 1 else 0
theorem lead_eq (f : Nat) : ∀ (s : List UInt8) (k : Nat), k ≤ f → k ≤ s.length → (∀ j b, j < k → s[j]? = some b → 127 < b.toNat) → (k = f ∨ k = s.length ∨ ∃ b, s[k]? = some b ∧ ¬ 127 < b.toNat) → lead f s = k := by
  induction f with
  | zero => intro s k h1 _ _ _; simp [lead]; omega
  | succ f ih =>
    intro s k h1 h2 h3 h4
    cases s with
    | nil => simp at h2; simp [lead, h2]
    | cons b l =>
      unfold lead
      cases k with
      | zero =>
        rcases h4 with h | h | ⟨c, hc, hn⟩
        · omega
        · simp at h
        · simp at hc
          subst hc
          rw [if_neg hn]
      | succ k =>
        rw [if_pos (h3 0 b (by omega) rfl)]
        rw [ih l k (by omega) (by simpa using h2) (fun j c hj hc => h3 (j + 1) c (by omega) (by simpa using hc)) ?_]
        rcases h4 with h | h | ⟨c, hc, hn⟩
        · exact .inl (by omega)
        · exact .inr (.inl (by simpa using h))
        · exact .inr (.inr ⟨c, by simpa using hc, hn⟩)

/-- The number of groups of seven bits, the lowest first. -/
def horner (l : List UInt8) : Nat := l.foldr (fun b a => a * 128 + b.toNat % 128) 0
theorem horner_nil : horner [] = 0 := rfl
theorem horner_cons (b : UInt8) (l : List UInt8) : horner (b :: l) = horner l * 128 + b.toNat % 128 := rfl
theorem horner_drop (l : List UInt8) (p : Nat) (b : UInt8) (h : l[p]? = some b) : horner (l.drop p) = horner (l.drop (p + 1)) * 128 + b.toNat % 128 := by
  obtain ⟨hp, rfl⟩ := List.getElem?_eq_some_iff.1 h
  rw [List.drop_eq_getElem_cons hp, horner_cons]
theorem horner_ge (l : List UInt8) (m : Nat) : horner (l.drop m) * 128 ^ m ≤ horner l := by
  induction m generalizing l with
  | zero => simp
  | succ m ih =>
    cases l with
    | nil => simp [horner]
    | cons b l =>
      rw [List.drop_succ_cons, horner_cons, Nat.pow_succ]
      have := ih l
      have h2 : horner (l.drop m) * (128 ^ m * 128) = horner (l.drop m) * 128 ^ m * 128 := by rw [Nat.mul_assoc]
      omega

/-- What Get answers: the number, how many bytes it has, the error. -/
def getV (s : List UInt8) : Nat × Nat × Int :=
  if lead 10 s = 10 then (0, 0, 14)
  else if lead 10 s = s.length then (0, 0, 10)
  else if 18446744073709551616 ≤ horner (s.take (lead 10 s + 1)) then (0, 0, 14)
  else if 0 < lead 10 s ∧ (s.getD (lead 10 s) 0).toNat = 0 then (0, 0, 11)
  else (horner (s.take (lead 10 s + 1)), lead 10 s + 1, 0)

end Go.Proofs.YtepcaaejadeklaaDoor
