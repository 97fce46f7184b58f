/-
  Bytes of the call's own that it writes to. No condition but those of each theorem.
-/
import Derived.Test.YtepcaaejadeklaaDoorOctH
namespace Go.Proofs.YtepcaaejadeklaaDoor
open Go.RowKit
set_option linter.unusedSimpArgs false

/-- Block g, of room cap, begins with the bytes l. -/
def Wrt (w : World) (g cap : Nat) (l : List UInt8) : Prop :=
  ∃ cur : Array Value, Blk w g 5 cur ∧ l.length ≤ cap ∧ l.length ≤ 140737488355328 ∧ cur.toList.take l.length = l.map byteV
theorem Wrt.len {w : World} {g cap : Nat} {l : List UInt8} (h : Wrt w g cap l) : l.length ≤ cap := by obtain ⟨_, _, h, _⟩ := h; exact h
theorem Wrt.at {w : World} {g cap : Nat} {l : List UInt8} (h : Wrt w g cap l) {k : Nat} {b : UInt8} (hk : l[k]? = some b) : w.cell? ⟨g, k, none⟩ = some (byteV b) := by
  obtain ⟨cur, hb, h1, h2, h3⟩ := h
  have hkl : k < l.length := (List.getElem?_eq_some_iff.1 hk).1
  rw [hb.cell]
  have h4 : (cur.toList.take l.length)[k]? = some (byteV b) := by rw [h3, List.getElem?_map, hk]; rfl
  rw [List.getElem?_take_of_lt hkl] at h4
  simpa using h4
theorem Wrt.frozen {w : World} {g cap : Nat} {l : List UInt8} (h : Wrt w g cap l) (k : Nat) : w.frozen? ⟨g, k, none⟩ = false := by
  obtain ⟨cur, hb, _⟩ := h
  exact hb.frozen k
theorem Wrt.rd {w : World} {g cap : Nat} {l : List UInt8} (h : Wrt w g cap l) : Rd w g (.slice (some ⟨g, 0, none⟩) l.length cap) l :=
  ⟨_, _, rfl, h.len, by obtain ⟨_, _, _, h, _⟩ := h; exact h, fun _ => ⟨0, rfl, fun j b hb => by rw [Nat.zero_add]; exact h.at hb⟩⟩
theorem Wrt.set {w : World} {g cap : Nat} {l : List UInt8} (h : Wrt w g cap l) (k : Nat) (b : UInt8) : Wrt (w.setCell ⟨g, k, none⟩ (byteV b)) g cap (l.set k b) := by
  obtain ⟨cur, hb, h1, h2, h3⟩ := h
  refine ⟨cur.setIfInBounds k (byteV b), hb.set_ k _, by rw [List.length_set]; exact h1, by rw [List.length_set]; exact h2, ?_⟩
  rw [Array.toList_setIfInBounds, List.length_set, List.take_set, h3, List.map_set]
theorem Wrt.below {w w' : World} {g cap : Nat} {l : List UInt8} (h : Wrt w g cap l) (hb : Below w.heap.size w w') : Wrt w' g cap l := by
  obtain ⟨cur, h0, h1⟩ := h
  exact ⟨cur, h0.below hb h0.lt, h1⟩
theorem Own.wrt {w : World} {base : Nat} {v : Value} {l : List UInt8} (h : Own w base v l) (hl : l.length ≤ 140737488355328) (h0 : 0 < l.length) :
    ∃ g cap, v = .slice (some ⟨g, 0, none⟩) l.length cap ∧ base ≤ g ∧ g < w.heap.size ∧ Wrt w g cap l := by
  have hlt := fun k hk => World.ownsRow.lt h k hk
  have hh := h
  rcases h.2 with ⟨rfl, h0'⟩ | ⟨g, cap, cur, rfl, hb, hg, hnc, hcm, hcs, ht⟩
  · omega
  · refine ⟨g, cap, rfl, (hlt g rfl).1, (hlt g rfl).2, cur, hg, hnc, hl, ?_⟩
    simpa using ht

end Go.Proofs.YtepcaaejadeklaaDoor
