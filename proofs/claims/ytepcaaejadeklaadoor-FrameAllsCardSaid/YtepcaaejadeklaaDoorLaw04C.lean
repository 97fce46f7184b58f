/-
  The walk of the law FrameAlls: it answers true, for all bytes, and writes nothing that was there, where package frame answers as it is to (FrmC).
-/
import Derived.Test.YtepcaaejadeklaaDoorLaw04A
import Derived.Test.YtepcaaejadeklaaDoorOctI
namespace Go.Proofs.YtepcaaejadeklaaDoor
open Go.RowKit
set_option linter.unusedSimpArgs false

set_option maxRecDepth 100000 in
set_option maxHeartbeats 2000000 in
theorem frameAlls_walk (a0 : Option Addr) (len0 cap0 : Nat) (z0 : List Int) (w : World) (C : FrmC w) (w0 : IsRow .u8 w a0 len0 cap0 z0) :
    Calls Tryd.prog 4 #[.slice a0 len0 cap0] w fun e w' => e = .returned (.bool true) ∧ Below w.heap.size w w' := by
  have HC := Lib.hid C
  clear C
  by_cases h9 : 2000 < len0
  · go_enter Tryd.func4, Tryd.ntmps4
    go_wp2_with fail
    refine (awake4_any HC.out _ (Below.refl _ _)).mono ?_
    rintro r w1 ⟨rfl, hB1⟩
    go_wp2
    go_ret
    exact ⟨rfl, hB1⟩
  · obtain ⟨d, l, rfl, hdw, hr0⟩ := w0.rd (by omega)
    have hl9 : l.length ≤ 2000 := by omega
    have hd9 : decide ((2000 : Int) < (l.length : Int)) = false := decide_eq_false (by omega)
    clear h9 w0
    obtain ⟨R, N, G, hX⟩ : ∃ x n e, recs l = (x, n, e) := ⟨_, _, _, rfl⟩
    have hRl : R.length ≤ 2000 := by have h := recs_len l; rw [hX] at h; simp only at h; omega
    have ALL : ∀ W v, Hid (Below w.heap.size w W → Rd W d v l → Calls Tryd.prog 16 #[v] W (fun r w' => ∃ v' d', r = .returned (.tuple #[v', .int .i64 (N : Int), .int .i64 G]) ∧ RowB w' d' v' R ∧ Below W.heap.size W w')) := fun W v => Lib.hid fun hB h => by
      have h1 := HC.out.all l W d v hB h (by omega)
      unfold AllFP at h1
      rw [hX] at h1
      exact h1
    have RALL : ∀ W, Hid (Calls Tryd.prog 17 #[.string (txt l)] W (fun r w' => ∃ v' d', r = .returned (.tuple #[v', .int .i64 (N : Int), .int .i64 G]) ∧ Vals w' d' v' (txts R) ∧ Below W.heap.size W w')) := fun W => Lib.hid (by
      have h1 := rallF_any l W (by omega)
      unfold RAllF at h1
      rw [hX] at h1
      exact h1)
    have QA := Lib.hid ALL
    have QR := Lib.hid RALL
    clear ALL RALL hX
    go_enter Tryd.func4, Tryd.ntmps4
    go_wp2_with fail
    refine (awake4_any HC.out _ (Below.refl _ _)).mono ?_
    rintro r w1 ⟨rfl, hB1⟩
    have hr1 := hr0.below' hB1
    clear hr0
    go_wp2_with fail
    refine ((QA.out _ _).out hB1 hr1).mono ?_
    rintro r w2 ⟨v2, d2, rfl, hv2, hb2⟩
    have hr2 := hr1.below' hb2
    have hB2 := hB1.trans (hb2.mono hB1.size)
    have hst2 : (convert 22 9 (.slice a0 l.length cap0)).run Tryd.prog w2 = .ok (.string (txt l)) w2 := str_of hr2
    clear hr1 hB1 hb2 hr2
    go_wp2_with fail
    refine ((QR.out _).out).mono ?_
    rintro r w3 ⟨v3, d3, rfl, hv3, hb3⟩
    have hv2' := hv2.below hb3
    have hB3 := hB2.trans (hb3.mono hB2.size)
    clear hv2 hb3 hst2 hB2
    go_wp2_with fail
    refine (texts_any R _ _ _ hv2' (by omega)).mono ?_
    rintro r w4 ⟨v4, d4, rfl, hv4, hb4⟩
    have hv3' := hv3.below' hb4
    have hB4 := hB3.trans (hb4.mono hB3.size)
    clear hv3 hb4 hB3 hv2'
    have hGG : (G == G) = true := beq_self_eq_true G
    go_wp2_with fail
    refine (rsame4_any R R _ _ _ _ _ hv4 hv3' (by omega)).mono ?_
    rintro r w5 ⟨rfl, hb5⟩
    rw [decide_eq_true rfl]
    have hB5 := hB4.trans (hb5.mono hB4.size)
    clear hv4 hv3' hb5 hB4
    go_wp2
    go_ret
    exact ⟨rfl, hB5⟩

end Go.Proofs.YtepcaaejadeklaaDoor
