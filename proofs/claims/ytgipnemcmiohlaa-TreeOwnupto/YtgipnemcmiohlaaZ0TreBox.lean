/- What the laws of package tree want of TreBox. -/
import Derived.Test.YtgipnemcmiohlaaZ0TreRefD
import Derived.Laws.ResultCell
namespace Go.Proofs.Ytgipnemcmiohlaa
open Go.RowKit
set_option linter.unusedSimpArgs false
set_option linter.unusedVariables false
theorem res_ct9 {P : Program} {fn : Func} {p u : Tmp} {ty : TypeId} (h : fn.results = #[.cell p ty, .tmp u]) (tmps : Array Value) (w : World) (g : Nat) (t : TypeId) (cs : Array Value) (fr : Nat × Nat) (d : TypeDesc)
    (hp : tmps.getD p undef = .pointer (some ⟨g, 0, none⟩)) (hg : w.heap[g]? = some (.cells cs t fr))
    (hu : P.underlying ty = some d) (hd : (match d with | .struct _ | .array _ _ => true | _ => false) = true) (hi : (P.info? ty).map (·.size) = some cs.size) :
    (results fn tmps).run P w = .ok (.tuple #[.agg cs, tmps.getD u undef]) w := by
  rw [results_cell_tmp h, hp]
  simp [asAddr, run_loadVar_row w g t ty cs fr d hg hu hd hi, Result.andThen]
/-- Six cells written over. -/
def set6 (w : World) (b : Nat) (x0 x1 x2 x3 x4 x5 : Value) : World := (((((w.setCell ⟨b, 0, none⟩ x0).setCell ⟨b, 1, none⟩ x1).setCell ⟨b, 2, none⟩ x2).setCell ⟨b, 3, none⟩ x3).setCell ⟨b, 4, none⟩ x4).setCell ⟨b, 5, none⟩ x5
set_option maxHeartbeats 1000000 in
theorem Blk.set6 {w : World} {b : Nat} {t : TypeId} {y0 y1 y2 y3 y4 y5 : Value} (h : Blk w b t #[y0, y1, y2, y3, y4, y5]) (x0 x1 x2 x3 x4 x5 : Value) : Blk (set6 w b x0 x1 x2 x3 x4 x5) b t #[x0, x1, x2, x3, x4, x5] := by
  have h2 := ((((((h).set_ 0 x0).set_ 1 x1).set_ 2 x2).set_ 3 x3).set_ 4 x4).set_ 5 x5
  simp only [List.setIfInBounds_toArray, List.set_cons_zero, List.set_cons_succ] at h2
  exact h2
theorem set6_below {B : Nat} {w : World} {b : Nat} {x0 x1 x2 x3 x4 x5 : Value} (h : B ≤ b) : Below B w (set6 w b x0 x1 x2 x3 x4 x5) :=
  ((((((Below.refl B w).setCell (p := ⟨b, 0, none⟩) h x0).setCell (p := ⟨b, 1, none⟩) h x1).setCell (p := ⟨b, 2, none⟩) h x2).setCell (p := ⟨b, 3, none⟩) h x3).setCell (p := ⟨b, 4, none⟩) h x4).setCell (p := ⟨b, 5, none⟩) h x5
theorem set6_other {w : World} {b g : Nat} {x0 x1 x2 x3 x4 x5 : Value} (h : g ≠ b) : (set6 w b x0 x1 x2 x3 x4 x5).heap[g]? = w.heap[g]? := by
  unfold set6
  rw [Below.heap_setCell _ _ _ _ h, Below.heap_setCell _ _ _ _ h, Below.heap_setCell _ _ _ _ h, Below.heap_setCell _ _ _ _ h, Below.heap_setCell _ _ _ _ h, Below.heap_setCell _ _ _ _ h]
theorem set6_size {w : World} {b : Nat} {x0 x1 x2 x3 x4 x5 : Value} : (set6 w b x0 x1 x2 x3 x4 x5).heap.size = w.heap.size := by simp [set6, World.setCell]
theorem LieB.row {b : Nat} {w : World} {a : NdD} {f : NdF} {v : Value} (h : LieB b w (ndC a v) (a, f)) : RowT b w v f := by
  obtain ⟨A, c, e, h2⟩ := h.shape
  have e2 : v = .slice A f.len c := by
    have := congrArg (fun l => l[5]?) e
    simpa using this
  rw [e2]
  exact h2
/-- What lies elsewhere stays. -/
theorem LieP.set6 {b B g : Nat} {w : World} {cs : List Value} {x : Nd} (h : LieP b B w cs x) (hg : b ≤ g) (hB : g < B) (x0 x1 x2 x3 x4 x5 : Value) : LieP b B (set6 w g x0 x1 x2 x3 x4 x5) cs x :=
  h.keep (fun k hk => set6_other (by omega)) (fun k hk => by rw [set6_size]; exact hk)
theorem LieP.below {b B : Nat} {w w' : World} {cs : List Value} {x : Nd} (h : LieP b B w cs x) (hb : Below w.heap.size w w') (hbw : b ≤ w.heap.size) : LieP b B w' cs x :=
  h.keep (fun k hk => hb.block k (by rcases hk with h | h <;> omega)) (fun k hk => by have := hb.size; rcases hk with h | h; exact .inl h; exact .inr ⟨h.1, by omega⟩)
end Go.Proofs.Ytgipnemcmiohlaa

