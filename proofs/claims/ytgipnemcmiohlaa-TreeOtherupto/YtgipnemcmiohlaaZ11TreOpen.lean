/- What the laws of package tree want of TreOpen. -/
import Derived.Test.YtgipnemcmiohlaaZ11TreWay
import Derived.Deep.Slices
import Derived.Deep.Fields
import Derived.ChangeSame
import Derived.SliceStrings
import Derived.OpenShut
namespace Go.Proofs.Ytgipnemcmiohlaa
open Go.RowKit
set_option linter.unusedSimpArgs false
set_option linter.unusedVariables false
open Go.ChangeShapes Go.WideShapes Go.Deep
/-- A row of ways that came in. -/
theorem open_ways {H : Type} {enc : TypeId × Value → H} {W : World} {fuel : Nat} {v : Value} {x : DataW H × List MemPlace} (h : DataW.trod enc Try.prog W 0 (fun _ => true) true fuel 41 [v] = some x) :
    ∃ R K M, v = .slice R K M ∧ (2 ≤ K → ∃ (r o : Nat) (V U : Option Addr) (N m Q q : Nat) (l1 l2 : List Stp), R = some ⟨r, o, none⟩ ∧ r < W.heap.size ∧ W.cell? ⟨r, o, none⟩ = some (.slice V N m) ∧ W.cell? ⟨r, o + 1, none⟩ = some (.slice U Q q) ∧ WayV W.heap.size W (.slice V N m) l1 ∧ WayV W.heap.size W (.slice U Q q) l2 ∧ N = l1.length ∧ Q = l2.length) := by
  rcases DataW.trod_slice Try.underlying41 h with ⟨hcs, rfl⟩ | ⟨a, len, cap, elems, rest, n, rfl, hcs, rfl, hb, hl, hm, hlen, hel, -, -⟩
  · simp at hcs
    subst hcs
    exact ⟨none, 0, 0, rfl, fun h => by omega⟩
  · simp at hcs
    subst hcs
    refine ⟨some a, len, cap, rfl, fun h2 => ?_⟩
    have cellsWay : Try.prog.cellsOf 33 = 1 := by kernel_rfl
    have one : ∀ i, i < len → ∃ (u : Value) (l : List Stp), W.cell? (a.add i) = some u ∧ WayV W.heap.size W u l := fun i hi => by
      have h1 := hel i hi
      have hie : i < elems.length := by omega
      rw [List.getElem?_eq_getElem hie] at h1
      obtain ⟨cs', h3, h4⟩ := Option.bind_eq_some_iff.1 h1
      rw [cellsWay] at h3
      obtain ⟨_, hcl, hat⟩ := World.cells?_some h3
      match cs', hcl with
      | [u], _ =>
        obtain ⟨l, hl1, _⟩ := open_way h4
        have h5 := hat 0 (by omega)
        refine ⟨u, l, ?_, hl1⟩
        simpa [Addr.add] using h5
    obtain ⟨u0, l1, c0, w0⟩ := one 0 (by omega)
    obtain ⟨u1, l2, c1, w1⟩ := one 1 (by omega)
    have hsp0 : (a.add 0).spot = none := World.cell?_spot c0
    have hlt : a.block < W.heap.size := World.block_lt_of_cell? W _ c0
    obtain ⟨b, off, sp⟩ := a
    have hsp : sp = none := hsp0
    subst hsp
    obtain ⟨V, m, rfl⟩ := w0.shape
    obtain ⟨U, q, rfl⟩ := w1.shape
    rw [add_bare9] at c0 c1
    exact ⟨b, off, V, U, _, m, _, q, l1, l2, rfl, hlt, c0, c1, w0, w1, rfl, rfl⟩
end Go.Proofs.Ytgipnemcmiohlaa

