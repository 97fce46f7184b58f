/- What the laws of package tree want of OctA. -/
import Derived.Test.YtgipnemcmiohlaaRows
import Derived.WalkKit
import Derived.WalkSpells
import Derived.Laws.CopyOwn
import Derived.Laws.OwnMore
import Derived.Laws.Rows
import Derived.Deep.Draws
import Derived.Deep.OwnRows
import Derived.Lib.Hide
namespace Go.Proofs.Ytgipnemcmiohlaa
open Go.RowKit
/-- A byte as a cell. -/
def byteV (b : UInt8) : Value := .int .u8 (b.toNat : Int)
/-- Block g is just the cells cs of type t, none of them frozen. -/
def Blk (w : World) (g : Nat) (t : TypeId) (cs : Array Value) : Prop := w.heap[g]? = some (.cells cs t (0, 0))
section
variable {w w' : World} {g : Nat} {t : TypeId} {cs : Array Value}
theorem Blk.lt (h : Blk w g t cs) : g < w.heap.size := by
  rcases Nat.lt_or_ge g w.heap.size with hlt | hge
  · exact hlt
  · unfold Blk at h; rw [Array.getElem?_eq_none hge] at h; cases h
theorem Blk.cell (h : Blk w g t cs) (i : Nat) : w.cell? ⟨g, i, none⟩ = cs[i]? := cell_of_row w g i cs t (0, 0) h
theorem Blk.frozen (h : Blk w g t cs) (i : Nat) : w.frozen? ⟨g, i, none⟩ = false := by
  unfold Blk at h
  simp [World.frozen?, h]
theorem Blk.new (w : World) (t : TypeId) (cs : Array Value) : Blk (w.alloc (.cells cs t)) w.heap.size t cs := heap_alloc_new w _
theorem Blk.alloc (h : Blk w g t cs) (o : Obj) : Blk (w.alloc o) g t cs := (Below.heap_alloc w o g h.lt).trans h
theorem Blk.set_ (h : Blk w g t cs) (i : Nat) (u : Value) : Blk (w.setCell ⟨g, i, none⟩ u) g t (cs.setIfInBounds i u) := by
  unfold Blk at h ⊢
  simp [World.setCell, Array.getElem?_modify, h]
theorem Blk.far (h : Blk w g t cs) {p : Addr} (hp : g ≠ p.block) (u : Value) : Blk (w.setCell p u) g t cs := (Below.heap_setCell w p u g hp).trans h
theorem Blk.below {B : Nat} (h : Blk w g t cs) (hb : Below B w w') (hg : g < B) : Blk w' g t cs := (hb.block g hg).trans h
theorem Blk.grown {row : Option Nat} (h : Blk w g t cs) (hb : w.grownBy w' row) (hg : some g ≠ row) : Blk w' g t cs := (hb.block g h.lt hg).trans h
end
/-- The slice v reads as the bytes l, which lie in block d (where there is any). -/
def Rd (w : World) (d : Nat) (v : Value) (l : List UInt8) : Prop :=
  ∃ A c, v = .slice A l.length c ∧ l.length ≤ c ∧ l.length ≤ 140737488355328 ∧
    (0 < l.length → ∃ off, A = some ⟨d, off, none⟩ ∧ ∀ j b, l[j]? = some b → w.cell? ⟨d, off + j, none⟩ = some (byteV b))
section
variable {w w' : World} {d g : Nat} {v : Value} {l : List UInt8}
theorem Rd.len (h : Rd w d v l) : l.length ≤ 140737488355328 := by
  obtain ⟨_, _, _, h1, h2, _⟩ := h; omega
theorem Rd.nil (w : World) (d : Nat) : Rd w d (.slice none 0 0) [] := ⟨none, 0, rfl, Nat.le_refl _, by simp, fun h => absurd h (by simp)⟩
theorem Rd.keep (h : Rd w d v l) (hk : ∀ o, w'.cell? ⟨d, o, none⟩ = w.cell? ⟨d, o, none⟩) : Rd w' d v l := by
  obtain ⟨A, c, rfl, h1, h2, h3⟩ := h
  refine ⟨A, c, rfl, h1, h2, fun hp => ?_⟩
  obtain ⟨off, rfl, hc⟩ := h3 hp
  exact ⟨off, rfl, fun j b hb => (hk _).trans (hc j b hb)⟩
theorem Rd.lt (h : Rd w d v l) (hl : 0 < l.length) : d < w.heap.size := by
  obtain ⟨A, c, rfl, h1, h2, h3⟩ := h
  obtain ⟨off, rfl, hc⟩ := h3 hl
  exact World.block_lt_of_cell? w _ (hc 0 _ (List.getElem?_eq_getElem hl))
theorem Rd.heap (h : Rd w d v l) (hk : w'.heap[d]? = w.heap[d]?) : Rd w' d v l := h.keep fun _ => World.cell?_of_block (w := w) hk
theorem Rd.heap' (h : Rd w d v l) (hk : d < w.heap.size → w'.heap[d]? = w.heap[d]?) : Rd w' d v l := by
  by_cases hl : 0 < l.length
  · exact h.heap (hk (h.lt hl))
  · obtain ⟨A, c, rfl, h1, h2, h3⟩ := h
    exact ⟨A, c, rfl, h1, h2, fun hp => absurd hp hl⟩
theorem Rd.grown (h : Rd w d v l) (hb : w.grownBy w' (some g)) (hd : d ≠ g) : Rd w' d v l := h.heap' fun hlt => hb.block d hlt (by simpa using hd)
theorem Rd.below {B : Nat} (h : Rd w d v l) (hb : Below B w w') (hd : d < B) : Rd w' d v l := h.heap (hb.block d hd)
theorem Rd.alloc (h : Rd w d v l) (o : Obj) : Rd (w.alloc o) d v l := h.heap' fun hlt => Below.heap_alloc w o d hlt
theorem Rd.setCell (h : Rd w d v l) {p : Addr} (hd : d ≠ p.block) (u : Value) : Rd (w.setCell p u) d v l := h.heap (Below.heap_setCell w p u d hd)
theorem Rd.block (h : Rd w d v l) (hl : l = []) (d' : Nat) : Rd w d' v l := by
  obtain ⟨A, c, rfl, h1, h2, _⟩ := h
  subst hl
  exact ⟨A, c, rfl, h1, h2, fun hp => absurd hp (by simp)⟩
end
section
variable {w w' : World} {d g g' : Nat} {l : List UInt8} {e : Int}
end
end Go.Proofs.Ytgipnemcmiohlaa

