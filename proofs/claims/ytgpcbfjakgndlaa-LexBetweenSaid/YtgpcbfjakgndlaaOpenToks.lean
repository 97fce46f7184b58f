/-
  A slice of lex.Token and a slice of strings that came in, opened: kind and text of each token; the texts. No condition but those of each theorem.
-/
import Derived.Test.YtgpcbfjakgndlaaLaw05G
import Derived.Deep.Slices
import Derived.Deep.Fields
import Derived.SliceStrings
import Derived.OpenShut
namespace Go.Proofs.Ytgpcbfjakgndlaa
open Go.RowKit Go.ChangeShapes Go.WideShapes Go.Deep
set_option linter.unusedSimpArgs false

theorem add_bare (b o j : Nat) : (⟨b, o, none⟩ : Addr).add j = ⟨b, o + j, none⟩ := by unfold Addr.add; split <;> simp_all
theorem cellsTok : Try.prog.cellsOf 37 = 4 := by kernel_rfl
theorem cellsIntG : Try.prog.cellsOf 3 = 1 := by kernel_rfl
theorem cellsStrG : Try.prog.cellsOf 9 = 1 := by kernel_rfl

theorem open_toks {H : Type} {enc : TypeId × Value → H} {W : World} {fuel : Nat} {A : Option Addr} {n c : Nat} {x : DataW H × List MemPlace}
    (hf : DataW.trod enc Try.prog W 0 (fun _ => true) true fuel 23 [.slice A n c] = some x) : ∃ l, TksIn W A n l := by
  rcases open_slice Try.underlying23 hf with ⟨hcs, _⟩ | ⟨a, len, cap, m, n', D, Pl, hcs, -, hl, hm, hmm, -, hx⟩
  · simp at hcs
    obtain ⟨rfl, rfl, rfl⟩ := hcs
    exact ⟨[], rfl, fun h => absurd h (by decide)⟩
  simp at hcs
  obtain ⟨rfl, rfl, rfl⟩ := hcs
  have hmc : m = c := by simpa using hmm
  subst hmc
  have hrow : ∀ i, i < n → ∃ y : TkI, W.cell? (a.add (i * 4)) = some (.int .i64 y.1) ∧ W.cell? (a.add (i * 4 + 1)) = some (.string (txt y.2)) := fun i hi => by
    obtain ⟨cs', hc, ht⟩ := hx i (by omega)
    rw [cellsTok] at hc
    obtain ⟨ys, k, _, _, hlen, hyl, hf⟩ := DataW.trod_struct Try.underlying37 ht
    rw [cellsTok] at hlen
    obtain ⟨_, _, hat⟩ := World.cells?_some hc
    obtain ⟨v0, v1, v2, v3, rfl⟩ : ∃ a b c d, cs' = [a, b, c, d] := by
      match cs', hlen with
      | [a, b, c, d], _ => exact ⟨a, b, c, d, rfl⟩
    have f0 : DataW.trod enc Try.prog W 0 (fun _ => true) true k 3 (List.take (Try.prog.cellsOf 3) (List.drop 0 [v0, v1, v2, v3])) = some _ := (hf 0 _ rfl).trans (List.getElem?_eq_getElem (by rw [hyl]; decide))
    have f1 : DataW.trod enc Try.prog W 0 (fun _ => true) true k 9 (List.take (Try.prog.cellsOf 9) (List.drop 1 [v0, v1, v2, v3])) = some _ := (hf 1 _ rfl).trans (List.getElem?_eq_getElem (by rw [hyl]; decide))
    rw [cellsIntG] at f0
    rw [cellsStrG] at f1
    simp only [List.drop_zero, List.drop_succ_cons, List.take_succ_cons, List.take_zero] at f0 f1
    obtain ⟨k0, e0, _, _⟩ := DataW.trod_int Try.underlying3 f0
    obtain ⟨s1, e1, _, _⟩ := DataW.trod_string Try.underlying9 f1
    simp at e0 e1
    subst e0 e1
    have g0 := hat 0 (by omega)
    have g1 := hat 1 (by omega)
    rw [Go.Deep.add_add] at g0 g1
    exact ⟨(k0, s1.data.toList), g0, by rw [g1]; simp only [List.getElem?_cons_succ, List.getElem?_cons_zero]; rw [show txt s1.data.toList = s1 from txt_ext (txt_data _)]⟩
  obtain ⟨R, hR⟩ : ∃ R : Nat → TkI, ∀ i, i < n → W.cell? (a.add (i * 4)) = some (.int .i64 (R i).1) ∧ W.cell? (a.add (i * 4 + 1)) = some (.string (txt (R i).2)) := ⟨fun i => if h : i < n then (hrow i h).choose else (0, []), fun i hi => by simpa [hi] using (hrow i hi).choose_spec⟩
  obtain ⟨blk, off, sp⟩ := a
  refine ⟨(List.range n).map R, by simp, fun h0 => ?_⟩
  have hc0 := (hR 0 h0).1
  have hsp : sp = none := World.cell?_spot (a := ⟨blk, off, sp⟩) (by simpa [Addr.add] using hc0)
  subst hsp
  rw [add_bare] at hc0
  refine ⟨blk, off, rfl, World.block_lt_of_cell? W _ hc0, fun i x hx => ?_⟩
  have hin : i < n := by have := (List.getElem?_eq_some_iff.1 hx).1; simpa using this
  have hRx : R i = x := by simpa [hin] using hx
  have h2 := hR i hin
  rw [add_bare, add_bare, hRx] at h2
  exact ⟨h2.1, by rw [Nat.add_assoc]; exact h2.2⟩
theorem open_strs {H : Type} {enc : TypeId × Value → H} {W : World} {fuel : Nat} {A : Option Addr} {n c : Nat} {x : DataW H × List MemPlace}
    (hf : DataW.trod enc Try.prog W 0 (fun _ => true) true fuel 38 [.slice A n c] = some x) : ∃ l, StrsIn W A n l := by
  rcases open_strings Try.underlying38 Try.underlying9 cellsStrG hf with ⟨hcs, _⟩ | ⟨a, len, cap, ss, hcs, -, hl, hm, hz, -, hcell, hsz⟩
  · simp at hcs
    obtain ⟨rfl, rfl, rfl⟩ := hcs
    exact ⟨[], rfl, fun h => absurd h (by decide)⟩
  simp at hcs
  obtain ⟨rfl, rfl, rfl⟩ := hcs
  have hsl : ss.length = c := by simpa using hz
  obtain ⟨blk, off, sp⟩ := a
  refine ⟨(ss.take n).map (fun s => s.data.toList), by simp; omega, fun h0 => ?_⟩
  have hc0 := hcell 0 (by omega)
  have hsp : sp = none := World.cell?_spot (a := ⟨blk, off, sp⟩) (by simpa [Addr.add] using hc0)
  subst hsp
  rw [add_bare] at hc0
  refine ⟨blk, off, rfl, World.block_lt_of_cell? W _ hc0, fun i x hx => ?_⟩
  rw [List.getElem?_map, Option.map_eq_some_iff] at hx
  obtain ⟨s, hs, rfl⟩ := hx
  have hin : i < n := by
    have := (List.getElem?_eq_some_iff.1 hs).1
    rw [List.length_take] at this
    omega
  rw [List.getElem?_take_of_lt hin] at hs
  have h2 := hcell i (by omega)
  rw [add_bare, List.getD, hs] at h2
  refine ⟨by rw [show txt s.data.toList = s from txt_ext (txt_data _)]; exact h2, ?_⟩
  have h3 := hsz s (List.mem_of_getElem? hs)
  have e : s.data.toList.length = s.size := Array.length_toList
  rw [e]
  unfold maxLen at h3
  omega

end Go.Proofs.Ytgpcbfjakgndlaa
