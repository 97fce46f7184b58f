/-
  What the document's Root answers. No condition but those of each theorem.
-/
import Derived.Test.YtkpbjgjflabloaaSpcRefE
namespace Go.Proofs.Ytkpbjgjflabloaa
open Go.RowKit
set_option linter.unusedSimpArgs false
set_option linter.unusedVariables false

set_option maxRecDepth 100000 in
set_option maxHeartbeats 1000000 in
theorem rroot_no (v : Int) (h : v < 1 ∨ 3 < v) (w : World) : Calls Try.prog 9 #[.int .i64 v] w (RSpP (rootX v) w) := by
  have HX : Hid (rootX v = ((zeroD, .nil), 28)) := Lib.hid (by unfold rootX; rw [if_pos h])
  rcases h with h | h
  · go_enter Try.func9, Try.ntmps9
    go_wp2
    refine bodyPost_ret (res_cell_tmp rfl _ _ w.heap.size 33 _ (0, 0) _ rfl (heap_alloc_new w _) Try.underlying33 rfl (by kernel_rfl)) rfl ?_
    exact ⟨spC zeroD (.slice none 0 0) (.slice none 0 0), by rw [HX.out]; rfl, by rw [HX.out]; exact leaf_n rfl, (Below.refl _ _).alloc (Nat.le_refl _) _⟩
  · have h1 : ¬ v < 1 := by omega
    go_enter Try.func9, Try.ntmps9
    go_wp2
    refine bodyPost_ret (res_cell_tmp rfl _ _ w.heap.size 33 _ (0, 0) _ rfl (heap_alloc_new w _) Try.underlying33 rfl (by kernel_rfl)) rfl ?_
    exact ⟨spC zeroD (.slice none 0 0) (.slice none 0 0), by rw [HX.out]; rfl, by rw [HX.out]; exact leaf_n rfl, (Below.refl _ _).alloc (Nat.le_refl _) _⟩
theorem rroot_any (v : Int) (w : World) : Calls Try.prog 9 #[.int .i64 v] w (RSpP (rootX v) w) := by
  by_cases h : v < 1 ∨ 3 < v
  · exact rroot_no v h w
  · have h2 : v = 1 ∨ v = 2 ∨ v = 3 := by omega
    rcases h2 with rfl | rfl | rfl
    · exact rroot_1 w
    · exact rroot_2 w
    · exact rroot_3 w

end Go.Proofs.Ytkpbjgjflabloaa
