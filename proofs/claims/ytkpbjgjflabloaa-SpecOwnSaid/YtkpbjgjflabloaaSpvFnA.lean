/-
  What package spec's makers of leaves, boxes and lists answer. No condition but those of each theorem.
-/
import Derived.Test.YtkpbjgjflabloaaSpvOwn
import Derived.Test.YtkpbjgjflabloaaSpcRefB
import Derived.Laws.ResultCell
namespace Go.Proofs.Ytkpbjgjflabloaa
open Go.RowKit
set_option linter.unusedSimpArgs false
set_option linter.unusedVariables false

theorem Blk.new_at {w : World} {g : Nat} (h : w.heap.size = g) (t : TypeId) (cs : Array Value) : Blk (w.alloc (.cells cs t)) g t cs := by subst h; exact Blk.new w t cs
/-- The cells that are told, and new memory beside. -/
def RetC (cs : List Value) (w : World) (r : Ending) (w' : World) : Prop := r = .returned (.agg cs.toArray) ∧ Below w.heap.size w w'
set_option maxRecDepth 100000 in
theorem leaf_any (n : List UInt8) (t : Nat) (w : World) : Calls Try.prog 28 #[.string (txt n), .int .i64 (t : Int)] w (RetC (spC ⟨n, 1, t, 0, 0, [], false, 0⟩ (.slice none 0 0) (.slice none 0 0)) w) := by
  go_enter Try.func28, Try.ntmps28
  go_wp2
  exact bodyPost_ret (results_cell_row rfl _ _ w.heap.size 27 _ (0, 0) _ rfl (heap_alloc_new w _) Try.underlying27 rfl (by kernel_rfl)) rfl ⟨rfl, (Below.refl _ _).alloc (Nat.le_refl _) _⟩
set_option maxRecDepth 100000 in
theorem number_any (n : List UInt8) (t lo hi : Nat) (w : World) : Calls Try.prog 31 #[.string (txt n), .int .i64 (t : Int), .int .u64 (lo : Int), .int .u64 (hi : Int)] w (RetC (spC ⟨n, 1, t, lo, hi, [], false, 0⟩ (.slice none 0 0) (.slice none 0 0)) w) := by
  go_enter Try.func31, Try.ntmps31
  go_wp2
  exact bodyPost_ret (results_cell_row rfl _ _ w.heap.size 27 _ (0, 0) _ rfl (heap_alloc_new w _) Try.underlying27 rfl (by kernel_rfl)) rfl ⟨rfl, (Below.refl _ _).alloc (Nat.le_refl _) _⟩
set_option maxRecDepth 100000 in
theorem choice_any (n : List UInt8) (l : List (List UInt8)) (A : Option Addr) (m c : Nat) (w : World) : Calls Try.prog 35 #[.string (txt n), .slice A m c] w (RetC (spC ⟨n, 1, 4, 0, 0, l, false, 0⟩ (.slice A m c) (.slice none 0 0)) w) := by
  go_enter Try.func35, Try.ntmps35
  go_wp2
  exact bodyPost_ret (results_cell_row rfl _ _ w.heap.size 27 _ (0, 0) _ rfl (heap_alloc_new w _) Try.underlying27 rfl (by kernel_rfl)) rfl ⟨rfl, (Below.refl _ _).alloc (Nat.le_refl _) _⟩
set_option maxRecDepth 100000 in
theorem box_any (n : List UInt8) (A : Option Addr) (m c : Nat) (w : World) : Calls Try.prog 27 #[.string (txt n), .slice A m c] w (RetC (spC ⟨n, 2, 0, 0, 0, [], false, 0⟩ (.slice none 0 0) (.slice A m c)) w) := by
  go_enter Try.func27, Try.ntmps27
  go_wp2
  exact bodyPost_ret (results_cell_row rfl _ _ w.heap.size 27 _ (0, 0) _ rfl (heap_alloc_new w _) Try.underlying27 rfl (by kernel_rfl)) rfl ⟨rfl, (Below.refl _ _).alloc (Nat.le_refl _) _⟩
set_option maxRecDepth 100000 in
theorem list_any (n : List UInt8) (most : Nat) (A : Option Addr) (m c : Nat) (w : World) : Calls Try.prog 29 #[.string (txt n), .int .i64 (most : Int), .slice A m c] w (RetC (spC ⟨n, 3, 0, 0, 0, [], false, most⟩ (.slice none 0 0) (.slice A m c)) w) := by
  go_enter Try.func29, Try.ntmps29
  go_wp2
  exact bodyPost_ret (results_cell_row rfl _ _ w.heap.size 27 _ (0, 0) _ rfl (heap_alloc_new w _) Try.underlying27 rfl (by kernel_rfl)) rfl ⟨rfl, (Below.refl _ _).alloc (Nat.le_refl _) _⟩
set_option maxRecDepth 100000 in
set_option maxHeartbeats 1000000 in
theorem must_any (a : SpD) (B A : Option Addr) (m c k d : Nat) (w : World) : Calls Try.prog 30 #[.agg (spC a (.slice B m c) (.slice A k d)).toArray] w (RetC (spC { a with must := true } (.slice B m c) (.slice A k d)) w) := by
  obtain ⟨v, hv⟩ : ∃ v, v = spC { a with must := true } (.slice B m c) (.slice A k d) := ⟨_, rfl⟩
  have HV := Lib.hid hv
  rw [← hv]
  clear hv
  unfold spC
  go_enter Try.func30, Try.ntmps30
  go_wp2
  refine bodyPost_ret (results_cell_row rfl _ _ (w.heap.size + 1) 27 _ (0, 0) _ rfl (Blk.new_at (by simp) _ _) Try.underlying27 rfl (by kernel_rfl)) rfl ⟨by rw [HV.out]; rfl, ((Below.refl _ _).alloc (Nat.le_refl _) _).alloc (by simp) _⟩

end Go.Proofs.Ytkpbjgjflabloaa
