/-
  A slice of strings that came in, opened. No condition but those of each theorem.
-/
import Derived.Test.YtkpbjgjflabloaaSpcMem
import Derived.Deep.Slices
import Derived.Deep.Fields
import Derived.SliceStrings
import Derived.OpenShut
namespace Go.Proofs.Ytkpbjgjflabloaa
open Go.RowKit Go.ChangeShapes Go.WideShapes Go.Deep
set_option linter.unusedSimpArgs false

theorem add_bare1 (b o j : Nat) : (⟨b, o, none⟩ : Addr).add j = ⟨b, o + j, none⟩ := by unfold Addr.add; split <;> simp_all
theorem cellsStr1 : Try.prog.cellsOf 9 = 1 := by kernel_rfl
theorem open_vals {H : Type} {enc : TypeId × Value → H} {W : World} {fuel : Nat} {A : Option Addr} {n c : Nat} {x : DataW H × List MemPlace}
    (hf : DataW.trod enc Try.prog W 0 (fun _ => true) true fuel 22 [.slice A n c] = some x) : ∃ l d, Vals W d (.slice A n c) (txts l) := by
  rcases open_strings Try.underlying22 Try.underlying9 cellsStr1 hf with ⟨hcs, _⟩ | ⟨a, len, cap, ss, hcs, -, hl, hm, hz, -, hcell, hsz⟩
  · simp at hcs
    obtain ⟨rfl, rfl, rfl⟩ := hcs
    exact ⟨[], 0, none, 0, rfl, Nat.le_refl _, fun h => absurd h (by simp [txts])⟩
  simp at hcs
  obtain ⟨rfl, rfl, rfl⟩ := hcs
  have hsl : ss.length = c := by simpa using hz
  obtain ⟨blk, off, sp⟩ := a
  have hln : (txts ((ss.take n).map (fun s => s.data.toList))).length = n := by simp [txts]; omega
  refine ⟨(ss.take n).map (fun s => s.data.toList), blk, some ⟨blk, off, sp⟩, c, by rw [hln], by rw [hln]; exact hl, fun h0 => ?_⟩
  rw [hln] at h0
  have hc0 := hcell 0 (by omega)
  have hsp : sp = none := World.cell?_spot (a := ⟨blk, off, sp⟩) (by simpa [Addr.add] using hc0)
  subst hsp
  rw [add_bare1] at hc0
  refine ⟨World.block_lt_of_cell? W _ hc0, off, rfl, fun i u hx => ?_⟩
  unfold txts at hx
  rw [List.getElem?_map, List.getElem?_map, Option.map_eq_some_iff] at hx
  obtain ⟨y, hy, rfl⟩ := hx
  rw [Option.map_eq_some_iff] at hy
  obtain ⟨s, hs, rfl⟩ := hy
  have hin : i < n := by
    have := (List.getElem?_eq_some_iff.1 hs).1
    rw [List.length_take] at this
    omega
  rw [List.getElem?_take_of_lt hin] at hs
  have h2 := hcell i (by omega)
  rw [add_bare1, List.getD, hs] at h2
  rw [show txt s.data.toList = s from txt_ext (txt_data _)]
  exact h2

end Go.Proofs.Ytkpbjgjflabloaa
