/- What the laws of package tree want of Law09C. -/
import Derived.Test.YtgipnemcmiohlaaZ1Law09A
namespace Go.Proofs.Ytgipnemcmiohlaa
open Go.RowKit
set_option linter.unusedSimpArgs false
set_option linter.unusedVariables false
theorem GetX_few (x : Nd) (l : List Stp) : (GetX x l).1.2.size ≤ x.2.size := by
  unfold GetX
  cases h : getX x l with
  | none => simp [Fr.size]
  | some y => have := get_size l x y h; simp only [sizeX] at this; simp only; omega
theorem SetX_few (x y : Nd) (l : List Stp) : (SetX x l y).1.2.size ≤ x.2.size + y.2.size + 1 := by
  by_cases h : okSet x l y
  · rw [SetX_is h]
    have := set_size l x h
    simp only [sizeX] at this
    simp only
    omega
  · have hz : (SetX x l y).1 = noN := by
      unfold SetX
      by_cases h1 : l.getLast? = some (stp y.1)
      · rw [if_neg (by simp [h1])]
        cases hp : getX x l.dropLast with
        | none => rfl
        | some p =>
          by_cases hk : p.1.kind = 0
          · exact absurd ((ok_iff l x).2 ⟨h1, p, hp, hk⟩) h
          · simp [hk]
      · rw [if_pos h1]
    rw [hz]
    simp [Fr.size]
theorem CutX_few (x : Nd) (l : List Stp) : (CutX x l).1.2.size ≤ x.2.size := by
  unfold CutX
  split
  · simp [Fr.size]
  · rename_i hl
    cases h : getX x l with
    | none => simp [Fr.size]
    | some z => have := cut_size l x z hl h; simp only [sizeX] at this; simp only; omega
theorem rsame_eq {w : World} {a : NdD} {f : NdF} {A B : Option Addr} {c d : Nat} (hx : LieN w (ndC a (.slice A f.len c)) (a, f)) (hy : LieN w (ndC a (.slice B f.len d)) (a, f)) (hf : f.size ≤ 1000000) : Calls Try.prog 15 #[.agg #[.string (txt a.name), .string (txt a.key), .int .i64 a.kind, .int .u64 (a.num : Int), .string (txt a.text), .slice A f.len c], .agg #[.string (txt a.name), .string (txt a.key), .int .i64 a.kind, .int .u64 (a.num : Int), .string (txt a.text), .slice B f.len d]] w (Ans9 (.bool true) w) := by
  have h := rsame_q hx hy hf hf w (Below.refl _ _)
  rwa [decide_eq_true rfl] at h
end Go.Proofs.Ytgipnemcmiohlaa

