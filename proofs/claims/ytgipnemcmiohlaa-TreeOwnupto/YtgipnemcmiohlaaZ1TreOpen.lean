/- What the laws of package tree want of TreOpen. -/
import Derived.Test.YtgipnemcmiohlaaZ1TreWay
import Derived.Deep.Slices
import Derived.Deep.Fields
import Derived.ChangeSame
import Derived.SliceStrings
import Derived.OpenShut
namespace Go.Proofs.Ytgipnemcmiohlaa
open Go.RowKit
set_option linter.unusedSimpArgs false
set_option linter.unusedVariables false
open Go.ChangeShapes Go.WideShapes Go.Deep
theorem cellsStep : Try.prog.cellsOf 43 = 2 := by kernel_rfl
/-- A way that came in. -/
theorem open_way {H : Type} {enc : TypeId × Value → H} {W : World} {fuel : Nat} {v : Value} {x : DataW H × List MemPlace} (h : DataW.trod enc Try.prog W 0 (fun _ => true) true fuel 33 [v] = some x) : ∃ l, WayV W.heap.size W v l ∧ l.length ≤ Rows.uptoBulk x.1 := by
  rcases DataW.trod_slice Try.underlying33 h with ⟨hcs, rfl⟩ | ⟨a, len, cap, elems, rest, n, rfl, hcs, rfl, hb, hl, hm, hlen, hel, -, -⟩
  · simp at hcs
    subst hcs
    exact ⟨[], WayV.nil _ _ _ _, Nat.zero_le _⟩
  · simp at hcs
    subst hcs
    have hbl : len ≤ Rows.uptoBulkAll (elems.map (·.1)) := by
      have hl2 : ∀ l : List (DataW H), l.length ≤ Rows.uptoBulkAll l := by
        intro l
        induction l with
        | nil => simp [Rows.uptoBulkAll]
        | cons x r ih => have := bulk_one9 x; simp only [Rows.uptoBulkAll, List.length_cons]; omega
      have := hl2 (elems.map (·.1))
      simp at this
      omega
    by_cases h0 : 0 < len
    · have hcell0 : ∃ u, W.cell? a = some u := by
        have h1 := hel 0 h0
        rw [List.getElem?_eq_getElem (by omega)] at h1
        obtain ⟨cs', h2, _⟩ := Option.bind_eq_some_iff.1 h1
        rw [cellsStep] at h2
        obtain ⟨_, h3, h4⟩ := World.cells?_some h2
        have h5 := h4 0 (by omega)
        rw [List.getElem?_eq_getElem (by omega)] at h5
        exact ⟨_, by simpa [Addr.add] using h5⟩
      obtain ⟨u0, hu0⟩ := hcell0
      have hsp0 : a.spot = none := World.cell?_spot hu0
      have hlt : a.block < W.heap.size := World.block_lt_of_cell? W _ hu0
      obtain ⟨b, off, sp⟩ := a
      have hsp : sp = none := hsp0
      subst hsp
      have rows : ∀ m, m ≤ len → ∃ l : List Stp, l.length = m ∧ ∀ j s, l[j]? = some s → W.cell? ⟨b, off + (len - m + j) * 2, none⟩ = some (.string (txt s.1)) ∧ W.cell? ⟨b, off + (len - m + j) * 2 + 1, none⟩ = some (.string (txt s.2)) := by
        intro m
        induction m with
        | zero => intro _; exact ⟨[], rfl, fun j s h => by simp at h⟩
        | succ m ihm =>
          intro hm'
          obtain ⟨r, hr1, hr2⟩ := ihm (by omega)
          obtain ⟨i, hi⟩ : ∃ i, i = len - (m + 1) := ⟨_, rfl⟩
          have hi1 : len - m = i + 1 := by omega
          have hil : i < len := by omega
          rw [hi1] at hr2
          rw [← hi]
          have h1 := hel i hil
          have hie : i < elems.length := by omega
          rw [List.getElem?_eq_getElem hie] at h1
          obtain ⟨cs', h2, h3⟩ := Option.bind_eq_some_iff.1 h1
          rw [cellsStep] at h2
          obtain ⟨_, hcl, hat⟩ := World.cells?_some h2
          have hcc : ∀ j, j < 2 → W.cell? ⟨b, off + i * 2 + j, none⟩ = cs'[j]? := fun j hj => by
            have h5 := hat j hj
            rw [add_bare9, add_bare9] at h5
            exact h5
          obtain ⟨ys, k, hk, hy, hlen', hyl, hf⟩ := DataW.trod_struct Try.underlying43 h3
          have hyl' : ys.length = 2 := hyl
          match cs', hcl, ys, hyl' with
          | [v0, v1], _, [y0, y1], _ =>
            have f0 : DataW.trod enc Try.prog W 0 (fun _ => true) true k 9 (List.take (Try.prog.cellsOf 9) (List.drop 0 [v0, v1])) = some _ := (hf 0 _ rfl).trans rfl
            have f1 : DataW.trod enc Try.prog W 0 (fun _ => true) true k 9 (List.take (Try.prog.cellsOf 9) (List.drop 1 [v0, v1])) = some _ := (hf 1 _ rfl).trans rfl
            rw [cellsStr9] at f0 f1
            simp only [List.drop_zero, List.drop_succ_cons, List.take_succ_cons, List.take_zero] at f0 f1
            obtain ⟨s0, e0, _, _⟩ := DataW.trod_string Try.underlying9 f0
            obtain ⟨s1, e1, _, _⟩ := DataW.trod_string Try.underlying9 f1
            simp at e0 e1
            subst e0 e1
            refine ⟨(s0.data.toList, s1.data.toList) :: r, by simp [hr1], fun j s hj => ?_⟩
            cases j with
            | zero =>
              simp at hj
              subst hj
              have g0 := hcc 0 (by omega)
              have g1 := hcc 1 (by omega)
              simp only [Nat.add_zero, List.getElem?_cons_zero, List.getElem?_cons_succ] at g0 g1
              refine ⟨?_, ?_⟩
              · rw [show i + 0 = i from rfl, g0, show txt s0.data.toList = s0 from txt_ext (txt_data _)]
              · rw [show i + 0 = i from rfl, g1, show txt s1.data.toList = s1 from txt_ext (txt_data _)]
            | succ j =>
              have h9 := hr2 j s (by simpa using hj)
              rw [show i + 1 + j = i + (j + 1) by omega] at h9
              exact h9
      obtain ⟨l, hl1, hl2⟩ := rows len (Nat.le_refl _)
      rw [Nat.sub_self] at hl2
      subst hl1
      refine ⟨l, ⟨_, cap, rfl, by omega, fun _ => ⟨b, off, rfl, hlt, fun j s hs => ?_⟩⟩, ?_⟩
      · have h9 := hl2 j s hs
        rw [Nat.zero_add] at h9
        exact h9
      · simp only [Rows.uptoBulk]
        omega
    · obtain rfl : len = 0 := by omega
      exact ⟨[], WayV.nil _ _ _ _, Nat.zero_le _⟩
end Go.Proofs.Ytgipnemcmiohlaa

