/-
  Stage 4's example answers true, and makes new memory alone, where package frame answers as it is to (FrmC).
-/
import Derived.Test.YtepcaaejadeklaaDoorFrmSpec
import Derived.Test.YtepcaaejadeklaaDoorOctG
import Derived.Outline
import Derived.Lib.SlBytesConst
namespace Go.Proofs.YtepcaaejadeklaaDoor
open Go.RowKit
set_option linter.unusedSimpArgs false

theorem lit4_rd (fz : Nat × Nat) (l : List UInt8) (hl : l.length ≤ 1000) (cs : Array Value) (e : cs = (l.map byteV).toArray) (n : Nat) (hn : n = l.length) (w : World) : Rd (w.alloc (.cells cs 5 fz)) w.heap.size (.slice (some ⟨w.heap.size, 0, none⟩) n n) l := by
  subst e hn
  refine ⟨_, _, rfl, Nat.le_refl _, by omega, fun _ => ⟨0, rfl, fun j b hb => ?_⟩⟩
  rw [cell_of_row _ _ _ _ _ _ (heap_alloc_new w _)]
  simp [hb]

set_option maxRecDepth 100000 in
set_option maxHeartbeats 4000000 in
theorem awake4_any {W0 : World} (C : FrmC W0) (w : World) (hW : Below W0.heap.size W0 w) : Calls Tryd.prog 9 #[] w fun r w' => r = .returned (.bool true) ∧ Below w.heap.size w w' := by
  have kc := fun (w : World) (C : Array Value) (n c : Nat) => Lib.run_convert_bytes_const (P := Tryd.prog) w 22 5 C n c Tryd.underlying22 Tryd.underlying5
  have HC := Lib.hid C
  clear C
  go_enter Tryd.func9, Tryd.ntmps9
  go_wp2_with fail
  refine (HC.out.put [97, 98] _ _ _ (hW.alloc hW.size _) (lit4_rd _ [97, 98] (by simp) #[.int .u8 97, .int .u8 98] rfl 2 rfl w)).mono ?_
  rintro r w1 ⟨v1, rfl, hv1, hb1⟩
  rw [(putF_small (l := [97, 98]) (by simp)).1] at hv1
  rw [(putF_small (l := [97, 98]) (by simp)).2]
  obtain ⟨d1, -, -, hr1⟩ := hv1.rd (by rw [ex_len]; decide)
  obtain ⟨A1, c1, rfl⟩ := hr1.shape4
  rw [ex_len] at hr1 ⊢
  have hB1 : Below w.heap.size w w1 := ((Below.refl _ _).alloc (Nat.le_refl _) _).trans (hb1.mono (by simp))
  clear hv1 hb1
  go_wp2_with fail
  refine (HC.out.get _ w1 _ _ (hW.trans (hB1.mono hW.size)) hr1 (by rw [ex_len]; decide)).mono ?_
  rw [ex_get]
  rintro r w2 ⟨v2, d2, rfl, hr2, hb2⟩
  obtain ⟨A2, c2, rfl⟩ := hr2.shape4
  have hr1' := hr1.below' hb2
  have hB2 := hB1.trans (hb2.mono hB1.size)
  clear hr1 hb2 hB1
  go_wp2_with fail
  refine (HC.out.all _ w2 _ _ (hW.trans (hB2.mono hW.size)) hr1' (by rw [ex_len]; decide)).mono ?_
  rw [ex_all]
  rintro r w3 ⟨v3, d3, rfl, hr3, hb3⟩
  obtain ⟨A3, c3, rfl⟩ := hr3.shape
  have hr2' := hr2.below' hb3
  have hB3 := hB2.trans (hb3.mono hB2.size)
  clear hr2 hb3 hB2 hr3 hr1'
  go_wp2_with fail
  refine (HC.out.sum [49, 50, 51, 52, 53, 54, 55, 56, 57] _ _ _ ((hW.trans (hB3.mono hW.size)).alloc (Nat.le_trans hW.size hB3.size) _) (lit4_rd _ _ (by simp) #[.int .u8 49, .int .u8 50, .int .u8 51, .int .u8 52, .int .u8 53, .int .u8 54, .int .u8 55, .int .u8 56, .int .u8 57] rfl 9 rfl w3) (by simp)).mono ?_
  rw [ex_sum]
  rintro r w4 ⟨rfl, hb4⟩
  have hA4 : Below w3.heap.size w3 w4 := ((Below.refl _ _).alloc (Nat.le_refl _) _).trans (hb4.mono (by simp))
  have hst : (convert 22 9 (.slice A2 2 c2)).run Tryd.prog w4 = .ok (.string ⟨#[97, 98]⟩) w4 := str_of (hr2'.below' hA4)
  have hB4 := hB3.trans (hA4.mono hB3.size)
  clear hb4 hA4 hr2' hB3
  go_wp2
  go_ret
  exact ⟨rfl, hB4⟩

end Go.Proofs.YtepcaaejadeklaaDoor
