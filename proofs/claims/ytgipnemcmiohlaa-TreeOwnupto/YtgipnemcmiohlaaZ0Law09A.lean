/- What the laws of package tree want of Law09A. -/
import Derived.Test.YtgipnemcmiohlaaZ0TreSrtR
namespace Go.Proofs.Ytgipnemcmiohlaa
open Go.RowKit
set_option linter.unusedSimpArgs false
set_option linter.unusedVariables false
set_option maxRecDepth 100000 in
set_option maxHeartbeats 1000000 in
theorem rsmallf_any (a : NdD) (f : NdF) (A : Option Addr) (c : Nat) (w : World) (hk : RowT w.heap.size w (.slice A f.len c) f) (hf : f.size ≤ 1000000) :
    Calls Try.prog 9 #[.agg #[.string (txt a.name), .string (txt a.key), .int .i64 a.kind, .int .u64 (a.num : Int), .string (txt a.text), .slice A f.len c]] w (Ans9 (.bool (decide (f.size + 1 ≤ 300))) w) := by
  have hB : Below w.heap.size w (w.alloc (.cells #[.string (txt a.name), .string (txt a.key), .int .i64 a.kind, .int .u64 (a.num : Int), .string (txt a.text), .slice A f.len c] 27)) := (Below.refl _ _).alloc (Nat.le_refl _) _
  obtain ⟨z, hz⟩ : ∃ z, z = f.size + 1 := ⟨_, rfl⟩
  have HC : Hid (Calls Try.prog 14 #[.agg #[.string (txt a.name), .string (txt a.key), .int .i64 a.kind, .int .u64 (a.num : Int), .string (txt a.text), .slice A f.len c]] (w.alloc (.cells #[.string (txt a.name), .string (txt a.key), .int .i64 a.kind, .int .u64 (a.num : Int), .string (txt a.text), .slice A f.len c] 27)) (Ans9 (.int .i64 (z : Int)) (w.alloc (.cells #[.string (txt a.name), .string (txt a.key), .int .i64 a.kind, .int .u64 (a.num : Int), .string (txt a.text), .slice A f.len c] 27)))) := Lib.hid (by
    rw [hz]; exact rsizef_any f a A c _ (hk.under hB (Nat.le_refl _) hB.size) hf)
  have HB := Lib.hid hB
  have HV : Hid (decide ((z : Int) ≤ 300) = decide (f.size + 1 ≤ 300)) := Lib.hid (by rw [hz, Bool.eq_iff_iff]; simp; omega)
  clear hB hk hf hz
  go_enter Try.func9, Try.ntmps9
  go_wp2_with fail
  refine HC.out.mono ?_
  rintro r w2 ⟨rfl, hb⟩
  have HB2 := Lib.hid (HB.out.trans (hb.mono HB.out.size))
  clear hb
  go_wp2
  go_ret
  exact ⟨congrArg (fun b => Ending.returned (Value.bool b)) HV.out, HB2.out⟩
/-- The law's awake tells true, in every world behind w. -/
def Awake9 (w : World) : Prop := ∀ W, Below w.heap.size w W → Calls Try.prog 8 #[] W (Ans9 (.bool true) W)
section
variable {W0 w : World} (C : TreC W0) (hW : Below W0.heap.size W0 w) {a b : NdD} {f g : NdF} {A B : Option Addr} {c d : Nat}
theorem small_q (hx : LieN w (ndC a (.slice A f.len c)) (a, f)) (hf : f.size ≤ 1000000) (W : World) (h : Below w.heap.size w W) : Calls Try.prog 9 #[.agg #[.string (txt a.name), .string (txt a.key), .int .i64 a.kind, .int .u64 (a.num : Int), .string (txt a.text), .slice A f.len c]] W (Ans9 (.bool (decide (f.size + 1 ≤ 300))) W) :=
  rsmallf_any a f A c W (LieB.row (hx.below h)) hf
theorem rright_q (hx : LieN w (ndC a (.slice A f.len c)) (a, f)) (hf : f.size ≤ 1000000) (W : World) (h : Below w.heap.size w W) : Calls Try.prog 12 #[.agg #[.string (txt a.name), .string (txt a.key), .int .i64 a.kind, .int .u64 (a.num : Int), .string (txt a.text), .slice A f.len c]] W (Ans9 (.bool (rgtX (a, f))) W) := rright_any (a, f) _ W (hx.below h) hf
theorem rsame_q (hx : LieN w (ndC a (.slice A f.len c)) (a, f)) (hy : LieN w (ndC b (.slice B g.len d)) (b, g)) (hf : f.size ≤ 1000000) (hg : g.size ≤ 1000000) (W : World) (h : Below w.heap.size w W) : Calls Try.prog 15 #[.agg #[.string (txt a.name), .string (txt a.key), .int .i64 a.kind, .int .u64 (a.num : Int), .string (txt a.text), .slice A f.len c], .agg #[.string (txt b.name), .string (txt b.key), .int .i64 b.kind, .int .u64 (b.num : Int), .string (txt b.text), .slice B g.len d]] W (Ans9 (.bool (decide (((a, f) : Nd) = (b, g)))) W) := rsamet_any (a, f) (b, g) _ _ W (hx.below h) (hy.below h) hf hg
end
/-- A tree that was told, its cells written out. -/
theorem RTreP.flat {a : NdD} {f : NdF} {u : Value} {w : World} {r : Ending} {w' : World} (h : RTreP (a, f) u w r w') : ∃ A c, r = .returned (.tuple #[.agg #[.string (txt a.name), .string (txt a.key), .int .i64 a.kind, .int .u64 (a.num : Int), .string (txt a.text), .slice A f.len c], u]) ∧ LieN w' (ndC a (.slice A f.len c)) (a, f) ∧ Below w.heap.size w w' := by
  obtain ⟨cs, rfl, h2, h3⟩ := h
  obtain ⟨A, c, rfl, _⟩ := h2.shape
  exact ⟨A, c, rfl, h2, h3⟩
theorem RTreP1.flat {a : NdD} {f : NdF} {w : World} {r : Ending} {w' : World} (h : RTreP1 (a, f) w r w') : ∃ A c, r = .returned (.agg #[.string (txt a.name), .string (txt a.key), .int .i64 a.kind, .int .u64 (a.num : Int), .string (txt a.text), .slice A f.len c]) ∧ LieN w' (ndC a (.slice A f.len c)) (a, f) ∧ Below w.heap.size w w' := by
  obtain ⟨cs, rfl, h2, h3⟩ := h
  obtain ⟨A, c, rfl, _⟩ := h2.shape
  exact ⟨A, c, rfl, h2, h3⟩
end Go.Proofs.Ytgipnemcmiohlaa

