/- What the laws of package tree want of TreGetR. -/
import Derived.Test.YtgipnemcmiohlaaZ0TreBox
namespace Go.Proofs.Ytgipnemcmiohlaa
open Go.RowKit
set_option linter.unusedSimpArgs false
set_option linter.unusedVariables false
/-- The way's first step in memory. -/
def Stp0 (w : World) (g o : Nat) (s : Stp) : Prop := w.cell? ⟨g, o, none⟩ = some (.string (txt s.1)) ∧ w.cell? ⟨g, o + 1, none⟩ = some (.string (txt s.2))
theorem Stp0.below {w w' : World} {g o B : Nat} {s : Stp} (h : Stp0 w g o s) (hg : g < B) (hb : Below B w w') : Stp0 w' g o s := ⟨(hb.cell (p := ⟨g, o, none⟩) hg).trans h.1, (hb.cell (p := ⟨g, o + 1, none⟩) hg).trans h.2⟩
theorem get_boxes (a : NdD) (f : NdF) (A : Option Addr) (c : Nat) (w : World) (hx : LieN w (ndC a (.slice A f.len c)) (a, f)) :
    Blk ((w.alloc (.cells #[.string (txt a.name), .string (txt a.key), .int .i64 a.kind, .int .u64 (a.num : Int), .string (txt a.text), .slice A f.len c] 27)).alloc (.cells #[.string ⟨#[]⟩, .string ⟨#[]⟩, .int .i64 0, .int .u64 0, .string ⟨#[]⟩, .slice none 0 0] 27)) w.heap.size 27 #[.string (txt a.name), .string (txt a.key), .int .i64 a.kind, .int .u64 (a.num : Int), .string (txt a.text), .slice A f.len c] ∧ Blk ((w.alloc (.cells #[.string (txt a.name), .string (txt a.key), .int .i64 a.kind, .int .u64 (a.num : Int), .string (txt a.text), .slice A f.len c] 27)).alloc (.cells #[.string ⟨#[]⟩, .string ⟨#[]⟩, .int .i64 0, .int .u64 0, .string ⟨#[]⟩, .slice none 0 0] 27)) (w.heap.size + 1) 27 #[.string ⟨#[]⟩, .string ⟨#[]⟩, .int .i64 0, .int .u64 0, .string ⟨#[]⟩, .slice none 0 0] ∧ Below w.heap.size w ((w.alloc (.cells #[.string (txt a.name), .string (txt a.key), .int .i64 a.kind, .int .u64 (a.num : Int), .string (txt a.text), .slice A f.len c] 27)).alloc (.cells #[.string ⟨#[]⟩, .string ⟨#[]⟩, .int .i64 0, .int .u64 0, .string ⟨#[]⟩, .slice none 0 0] 27)) ∧ LieN ((w.alloc (.cells #[.string (txt a.name), .string (txt a.key), .int .i64 a.kind, .int .u64 (a.num : Int), .string (txt a.text), .slice A f.len c] 27)).alloc (.cells #[.string ⟨#[]⟩, .string ⟨#[]⟩, .int .i64 0, .int .u64 0, .string ⟨#[]⟩, .slice none 0 0] 27)).drew (ndC a (.slice A f.len c)) (a, f) := by
  have hb2 : Blk ((w.alloc (.cells #[.string (txt a.name), .string (txt a.key), .int .i64 a.kind, .int .u64 (a.num : Int), .string (txt a.text), .slice A f.len c] 27)).alloc (.cells #[.string ⟨#[]⟩, .string ⟨#[]⟩, .int .i64 0, .int .u64 0, .string ⟨#[]⟩, .slice none 0 0] 27)) (w.heap.size + 1) 27 #[.string ⟨#[]⟩, .string ⟨#[]⟩, .int .i64 0, .int .u64 0, .string ⟨#[]⟩, .slice none 0 0] := by
    have h := Blk.new (w.alloc (.cells #[.string (txt a.name), .string (txt a.key), .int .i64 a.kind, .int .u64 (a.num : Int), .string (txt a.text), .slice A f.len c] 27)) 27 #[.string ⟨#[]⟩, .string ⟨#[]⟩, .int .i64 0, .int .u64 0, .string ⟨#[]⟩, .slice none 0 0]
    rw [show (w.alloc (.cells #[.string (txt a.name), .string (txt a.key), .int .i64 a.kind, .int .u64 (a.num : Int), .string (txt a.text), .slice A f.len c] 27)).heap.size = w.heap.size + 1 by simp] at h
    exact h
  have hB : Below w.heap.size w ((w.alloc (.cells #[.string (txt a.name), .string (txt a.key), .int .i64 a.kind, .int .u64 (a.num : Int), .string (txt a.text), .slice A f.len c] 27)).alloc (.cells #[.string ⟨#[]⟩, .string ⟨#[]⟩, .int .i64 0, .int .u64 0, .string ⟨#[]⟩, .slice none 0 0] 27)) := ((Below.refl _ _).alloc (Nat.le_refl _) _).alloc (by simp) _
  exact ⟨(Blk.new _ _ _).alloc _, hb2, hB, LieB.below hx hB.drew⟩
end Go.Proofs.Ytgipnemcmiohlaa

