/-
  SpecOwn, where package spec answers as it is to and the law is awake.
-/
import Derived.Test.YtkpbjgjflabloaaLaw07I
namespace Go.Proofs.Ytkpbjgjflabloaa
open Go.RowKit
set_option linter.unusedSimpArgs false
set_option linter.unusedVariables false

theorem specOwn_walk (v : Int) (hv0 : -9223372036854775808 ≤ v) (hv1 : v ≤ 9223372036854775807) (l : List (List UInt8)) (nv : Value) (d : Nat) (w : World) (hn : Vals w d nv (txts l)) (C : SpcC w) (HA : Awake7 w) :
    Calls Try.prog 6 #[.int .i64 v, nv] w fun e w' => e = .returned (.bool true) ∧ Below w.heap.size w w' := by
  obtain ⟨An, cn, e⟩ := hn.shape
  rw [txts_len] at e
  subst e
  by_cases hc : 20 < l.length
  · exact specOwn_long v l An cn _ d w hn rfl hc HA
  rcases at_cases v l with ⟨e, hX, he⟩ | ⟨x, hX, h1, h3, hd, hok⟩
  · exact specOwn_err v hv0 hv1 l An cn _ d w hn rfl (by omega) e he hX C HA
  obtain ⟨⟨nm, kd, ty, lo, hi, ns, mu, mo⟩, f⟩ := x
  have hnk := names_kids h1 h3 hd
  unfold okB at hok
  simp only [Bool.and_eq_true, Bool.or_eq_true, beq_iff_eq, decide_eq_true_eq] at hok
  obtain ⟨⟨hap, hkd⟩, hns⟩ := hok
  have hkd2 : kd = 1 ↔ f.len = 0 := by
    have h : (decide (kd = 1) = true) = (decide (f.len = 0) = true) := by rw [hkd]
    simpa using h
  by_cases h0 : f.len = 0
  · have hf : f = .nil := by
      cases f with
      | nil => rfl
      | cons a k r => simp [Fr.len] at h0
    subst hf
    have hk1 : kd = 1 := hkd2.2 h0
    rcases hns with hns | hns
    · subst hns hk1
      exact specOwn_leaf v hv0 hv1 l An cn _ d w hn rfl (by omega) nm ty lo hi mu mo hX C HA
    · subst hns
      exact specOwn_names v hv0 hv1 l An cn _ d w hn rfl (by omega) nm kd ty lo hi mu mo hX C HA
  · have hn0 : ns = [] := by
      rcases hnk with h | h
      · exact h
      · exact absurd h h0
    subst hn0
    exact specOwn_kids v hv0 hv1 l An cn _ d w hn rfl (by omega) nm kd ty lo hi mu mo f _ rfl (by omega) (fun h => h0 (hkd2.1 h)) (fun i j x y => apart_get hap) hX C HA

end Go.Proofs.Ytkpbjgjflabloaa
