/-
  A slice of slices of bytes that came in, opened: it holds slices that read as rows of bytes, each within the form's own reach. No condition but those of each theorem.
-/
import Derived.Test.YtepcaaejadeklaaDoorFrmTexts
import Derived.Test.YtepcaaejadeklaaDoorOctI
import Derived.Deep.Slices
import Derived.SizedLaws
import Derived.ChangeSlices
namespace Go.Proofs.YtepcaaejadeklaaDoor
open Go.RowKit Go.ChangeShapes Go.WideShapes Go.Deep
set_option linter.unusedSimpArgs false

theorem weights_mem_all {H : Type} {P : Program} {e : TypeId} {l : List (DataW H)} {d : DataW H} (hd : d ∈ l) {n : Nat} (hn : n ∈ d.weights P e) : n ∈ DataW.weightsAll P e l := by
  induction l with
  | nil => simp at hd
  | cons x l ih =>
    simp only [DataW.weightsAll, List.mem_append]
    rcases List.mem_cons.1 hd with rfl | h
    · exact .inl hn
    · exact .inr (ih h)
theorem add_plain (b o j : Nat) : (⟨b, o, none⟩ : Addr).add j = ⟨b, o + j, none⟩ := by unfold Addr.add; split <;> simp_all
theorem bytesU8 : Tryd.prog.bytesOf 5 = 1 := by kernel_rfl

theorem open_rows {H : Type} {enc : TypeId × Value → H} {W : World} {fuel : Nat} {A : Option Addr} {l c : Nat} {x : DataW H × List MemPlace}
    (hf : DataW.trod enc Tryd.prog W 0 (fun _ => true) true fuel 37 [.slice A l c] = some x) (hz : ∀ k ∈ x.1.weights Tryd.prog 37, k ≤ reachBytes) :
    ∃ ls da, RowB W da (.slice A l c) ls ∧ ls.length = l := by
  rcases open_slice1 Tryd.underlying37 (by kernel_rfl) hf with ⟨hcs, _⟩ | ⟨a, len, cap, m, n, V, D, Pl, hcs, -, hl, hm, hmm, rfl, hx⟩
  · simp at hcs
    obtain ⟨rfl, rfl, rfl⟩ := hcs
    exact ⟨[], 0, RowB.nil _ _, rfl⟩
  simp at hcs
  obtain ⟨rfl, rfl, rfl⟩ := hcs
  have hmc : m = c := by simpa using hmm
  subst hmc
  have hrow : ∀ i, i < l → ∃ r : List UInt8, ∃ db, Rd W db (V i) r := fun i hi => by
    obtain ⟨hc1, ht⟩ := hx i (by omega)
    have hmem : D i ∈ (List.range l).map D := List.mem_map.2 ⟨i, List.mem_range.2 hi, rfl⟩
    rcases open_ints Tryd.underlying22 Tryd.underlying5 (by kernel_rfl) ht with ⟨hv, _⟩ | ⟨b, len, cap, zs, hv, -, hl', hm', hzl, hD, hcell, hwf⟩
    · simp at hv
      rw [hv]
      exact ⟨[], 0, Rd.nil _ _⟩
    · simp at hv hzl
      rw [hv]
      have hw : (D i).weights Tryd.prog 22 = [zs.length] := by
        have h1 : D i = .slice (lits .u8 (zs.take len)) (lits .u8 (zs.drop len)) := by injection hD
        rw [h1]
        simp only [DataW.weights, Tryd.underlying22, bytesU8]
        have hall : ∀ zs : List Int, DataW.weightsAll Tryd.prog 5 (lits (H := H) .u8 zs) = [] := by
          intro zs
          induction zs with
          | nil => rfl
          | cons z zs ih => simp only [lits, List.map_cons, DataW.weightsAll, DataW.weights, List.nil_append] at ih ⊢; exact ih
        rw [hall, hall]
        simp [lits]
        omega
      have hb : zs.length ≤ reachBytes := hz _ (by
        simp only [DataW.weights, Tryd.underlying37, List.mem_cons, List.mem_append]
        exact .inr (.inl (weights_mem_all hmem (by rw [hw]; simp))))
      have hir : IsRow .u8 W (some b) len cap zs := .inr ⟨b, rfl, hl', hm', hzl, hcell, hwf⟩
      obtain ⟨d, r, -, -, hrd⟩ := hir.rd (by unfold reachBytes at hb; omega)
      exact ⟨r, d, hrd⟩
  obtain ⟨R, hR⟩ : ∃ R : Nat → List UInt8, ∀ i, i < l → ∃ db, Rd W db (V i) (R i) := ⟨fun i => if h : i < l then (hrow i h).choose else [], fun i hi => by simpa [hi] using (hrow i hi).choose_spec⟩
  obtain ⟨blk, off, sp⟩ := a
  refine ⟨(List.range l).map R, blk, ⟨(List.range l).map V, ⟨some ⟨blk, off, sp⟩, m, by simp, by simpa using hl, fun h0 => ?_⟩, by simp, fun j r hj => ?_⟩, by simp⟩
  · have h0' : 0 < l := by simpa using h0
    have hc0 := (hx 0 (by omega)).1
    have hsp : sp = none := World.cell?_spot (a := ⟨blk, off, sp⟩) (by simpa [Addr.add] using hc0)
    subst hsp
    rw [add_plain] at hc0
    refine ⟨World.block_lt_of_cell? W _ hc0, off, rfl, fun j u hj => ?_⟩
    have hjl : j < l := by have := (List.getElem?_eq_some_iff.1 hj).1; simpa using this
    have hc1 := (hx j (by omega)).1
    rw [add_plain] at hc1
    rw [hc1]
    simpa [hjl] using hj
  · have hjl : j < l := by have := (List.getElem?_eq_some_iff.1 hj).1; simpa using this
    obtain ⟨db, hdb⟩ := hR j hjl
    have : R j = r := by simpa [hjl] using hj
    exact ⟨V j, db, by simp [hjl], by rw [← this]; exact hdb⟩

theorem bytesRow : Tryd.prog.bytesOf 22 = 24 := by kernel_rfl
theorem open_rows_len {H : Type} {enc : TypeId × Value → H} {W : World} {fuel : Nat} {A : Option Addr} {l c n : Nat} {x : DataW H × List MemPlace}
    (hf : DataW.trod enc Tryd.prog W 0 (fun _ => true) true fuel 37 [.slice A l c] = some x) (hn : n = l) (hz : ∀ k ∈ x.1.weights Tryd.prog 37, k ≤ reachBytes) : n ≤ 140737488355328 := by
  subst hn
  rcases open_slice1 Tryd.underlying37 (by kernel_rfl) hf with ⟨hcs, _⟩ | ⟨a, len, cap, m, n, V, D, Pl, hcs, -, hl, hm, hmm, rfl, hx⟩
  · simp at hcs
    omega
  · simp at hcs
    obtain ⟨rfl, rfl, rfl⟩ := hcs
    have h := hz _ (by simp only [DataW.weights, Tryd.underlying37, List.mem_cons]; exact .inl rfl)
    rw [bytesRow] at h
    simp [reachBytes] at h
    omega

end Go.Proofs.YtepcaaejadeklaaDoor
