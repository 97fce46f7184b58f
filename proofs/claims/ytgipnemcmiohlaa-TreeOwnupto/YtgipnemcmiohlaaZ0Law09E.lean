/- What the laws of package tree want of Law09E. -/
import Derived.Test.YtgipnemcmiohlaaZ0Law09A
import Derived.Deep.DeepCutAuto
namespace Go.Proofs.Ytgipnemcmiohlaa
open Go.RowKit
set_option linter.unusedSimpArgs false
set_option linter.unusedVariables false
def laD : NdD := ⟨[97], [], 1, 5, []⟩
def lbD : NdD := ⟨[98], [], 1, 5, []⟩
def nF9 : NdF := .cons laD .nil .nil
def mF9 : NdF := .cons laD .nil (.cons lbD .nil .nil)
def oF9 : NdF := .cons lbD .nil .nil
theorem ex9s : SetX (zeroT, nF9) [([98], [])] (lbD, .nil) = ((zeroT, mF9), 0) := by decide
theorem ex9c : CutX (zeroT, mF9) [([97], [])] = ((zeroT, oF9), 0) := by decide
theorem ex9g : GetX (zeroT, oF9) [([98], [])] = ((lbD, .nil), true) := by decide
theorem ex9n : GetX (zeroT, oF9) [([97], [])] = ((zeroT, .nil), false) := by decide
theorem ex9r : rgtX (zeroT, nF9) = true ∧ rgtX (zeroT, mF9) = true := by decide
theorem ex9l : lessX laD lbD = true ∧ lessX laD laD = false := by decide
theorem ex9m : decide (((zeroT, nF9) : Nd) = (zeroT, mF9)) = false := by decide
theorem ex9t : sortA .nil mF9 = mF9 := by decide
set_option maxRecDepth 100000 in
set_option maxHeartbeats 1000000 in
theorem leaf_any (s : ByteArray) (w : World) : Calls Try.prog 27 #[.string s] w (Ans9 (.agg #[.string s, .string ⟨#[]⟩, .int .i64 1, .int .u64 5, .string ⟨#[]⟩, .slice none 0 0]) w) := by
  have RE : Hid (Blk (w.alloc (.cells #[.string s, .string ⟨#[]⟩, .int .i64 1, .int .u64 5, .string ⟨#[]⟩, .slice none 0 0] 27)) w.heap.size 27 #[.string s, .string ⟨#[]⟩, .int .i64 1, .int .u64 5, .string ⟨#[]⟩, .slice none 0 0]) := Lib.hid (Blk.new _ _ _)
  have HB : Hid (Below w.heap.size w (w.alloc (.cells #[.string s, .string ⟨#[]⟩, .int .i64 1, .int .u64 5, .string ⟨#[]⟩, .slice none 0 0] 27))) := Lib.hid ((Below.refl _ _).alloc (Nat.le_refl _) _)
  go_enter Try.func27, Try.ntmps27
  go_wp2
  refine bodyPost_ret (results_cell_row rfl _ _ w.heap.size 27 _ (0, 0) _ rfl RE.out Try.underlying27 rfl (by kernel_rfl)) rfl ?_
  exact ⟨rfl, HB.out⟩
theorem Blk.new_at9 {w : World} {g : Nat} (h : w.heap.size = g) (t : TypeId) (cs : Array Value) : Blk (w.alloc (.cells cs t)) g t cs := by subst h; exact Blk.new w t cs
theorem way_lit {w : World} {g : Nat} {s : Stp} (h : Blk w g 43 #[.string (txt s.1), .string (txt s.2)]) : WayV w.heap.size w (.slice (some ⟨g, 0, none⟩) 1 1) [s] := by
  refine ⟨_, _, rfl, Nat.le_refl _, fun _ => ⟨g, 0, rfl, h.lt, fun j u hj => ?_⟩⟩
  cases j with
  | zero =>
    simp at hj
    subst hj
    exact ⟨(h.cell 0).trans rfl, (h.cell 1).trans rfl⟩
  | succ j => simp at hj
theorem leaf_lies (s : List UInt8) (w : World) : LieN w [.string (txt s), .string ⟨#[]⟩, .int .i64 1, .int .u64 5, .string ⟨#[]⟩, .slice none 0 0] (⟨s, [], 1, 5, []⟩, .nil) := LieB.make (a := ⟨s, [], 1, 5, []⟩) (FrV.empty _ _ _)
theorem NewT.p {base : Nat} {w : World} {cs : List Value} {x : Nd} (h : NewT base w cs x) : LieP 0 base w cs x := by
  obtain ⟨S, h1, h2, h3, v, h4, h5⟩ := h
  exact FrN.mono stay_nd ⟨h2, h3.1, v, h4, h5.plain⟩ (fun g hg => .inr ⟨(h1 g hg).1, (h1 g hg).lt⟩) (fun _ h => h)
/-- A box's tree, its cells written out. -/
theorem RTreP.flat0 {f : NdF} {u : Value} (K : Nat) (hK : f.len = K) {w : World} {r : Ending} {w' : World} (h : RTreP (zeroT, f) u w r w') : ∃ A c, r = .returned (.tuple #[.agg #[.string ⟨#[]⟩, .string ⟨#[]⟩, .int .i64 0, .int .u64 0, .string ⟨#[]⟩, .slice A K c], u]) ∧ LieN w' [.string ⟨#[]⟩, .string ⟨#[]⟩, .int .i64 0, .int .u64 0, .string ⟨#[]⟩, .slice A K c] (zeroT, f) ∧ Below w.heap.size w w' := by
  subst hK
  exact h.flat
theorem RTreP.flatB {u : Value} {w : World} {r : Ending} {w' : World} (h : RTreP (lbD, .nil) u w r w') : ∃ A c, r = .returned (.tuple #[.agg #[.string ⟨#[98]⟩, .string ⟨#[]⟩, .int .i64 1, .int .u64 5, .string ⟨#[]⟩, .slice A 0 c], u]) ∧ LieN w' [.string ⟨#[98]⟩, .string ⟨#[]⟩, .int .i64 1, .int .u64 5, .string ⟨#[]⟩, .slice A 0 c] (lbD, .nil) ∧ Below w.heap.size w w' := h.flat
theorem LieP.cells0 {b B : Nat} {f : NdF} {w : World} {cs : List Value} (K : Nat) (hK : f.len = K) (h : LieP b B w cs (zeroT, f)) : ∃ A c, cs = [.string ⟨#[]⟩, .string ⟨#[]⟩, .int .i64 0, .int .u64 0, .string ⟨#[]⟩, .slice A K c] := by
  subst hK
  obtain ⟨A, c, e, _⟩ := h.shape
  exact ⟨A, c, e⟩
/-- What is kept ahead of the third region. -/
def Cut9 (w : World) (nb kb : Nat) (s2 s3 : Value) (wx : World) : Prop := ∃ (pm : Nat) (Am : Option Addr) (cm : Nat), s2 = .pointer (some ⟨pm, 0, none⟩) ∧ s3 = .int .i64 0 ∧
  Blk wx nb 27 #[.string ⟨#[]⟩, .string ⟨#[]⟩, .int .i64 0, .int .u64 0, .string ⟨#[]⟩, .slice (some ⟨kb, 0, none⟩) 1 1] ∧ Blk wx pm 27 #[.string ⟨#[]⟩, .string ⟨#[]⟩, .int .i64 0, .int .u64 0, .string ⟨#[]⟩, .slice Am 2 cm] ∧ LieN wx [.string ⟨#[]⟩, .string ⟨#[]⟩, .int .i64 0, .int .u64 0, .string ⟨#[]⟩, .slice (some ⟨kb, 0, none⟩) 1 1] (zeroT, nF9) ∧ LieN wx [.string ⟨#[]⟩, .string ⟨#[]⟩, .int .i64 0, .int .u64 0, .string ⟨#[]⟩, .slice Am 2 cm] (zeroT, mF9) ∧ Below w.heap.size w wx
end Go.Proofs.Ytgipnemcmiohlaa

