/-
  What package scalar is to answer, as propositions; and the laws' awake with it. No condition but those of each theorem.
-/
import Derived.Test.YtpaapjafnjipfaaDoorSclRefC
namespace Go.Proofs.YtpaapjafnjipfaaDoor
open Go.RowKit
set_option linter.unusedSimpArgs false

def UintC (W0 : World) : Prop := ∀ (s : List UInt8) (w : World), s.length ≤ 20000 → Below W0.heap.size W0 w → Calls Tryd.prog 8 #[.string (txt s)] w (fun r w' => r = .returned (optR (uintX s)) ∧ Below w.heap.size w w')
def ShowC (W0 : World) : Prop := ∀ (x : Nat) (w : World), x < 18446744073709551616 → Below W0.heap.size W0 w → Calls Tryd.prog 14 #[.int .u64 (x : Int)] w (fun r w' => r = .returned (.string (txt (dec x))) ∧ Below w.heap.size w w')
def RateC (W0 : World) : Prop := ∀ (s : List UInt8) (w : World), s.length ≤ 20000 → Below W0.heap.size W0 w → Calls Tryd.prog 10 #[.string (txt s)] w (fun r w' => r = .returned (optR (rateX s)) ∧ Below w.heap.size w w')
def ShRateC (W0 : World) : Prop := ∀ (x : Nat) (w : World), x < 18446744073709551616 → Below W0.heap.size W0 w → Calls Tryd.prog 15 #[.int .u64 (x : Int)] w (fun r w' => r = .returned (.string (txt (showRateX x))) ∧ Below w.heap.size w w')
def IdentC (W0 : World) : Prop := ∀ (s : List UInt8) (w : World), s.length ≤ 20000 → Below W0.heap.size W0 w → Calls Tryd.prog 12 #[.string (txt s)] w (fun r w' => r = .returned (.bool (identX s)) ∧ Below w.heap.size w w')
/-- PACKAGE SCALAR ANSWERS AS IT IS TO, in every world behind W0. -/
structure SclC (W0 : World) : Prop where
  uint : UintC W0
  shows : ShowC W0
  rate : RateC W0
  shrate : ShRateC W0
  ident : IdentC W0
def Awake6 (W0 : World) : Prop := ∀ w, Below W0.heap.size W0 w → Calls Tryd.prog 7 #[] w fun r w' => r = .returned (.bool true) ∧ Below w.heap.size w w'
theorem opt_shape (o : Option Nat) : ∃ (n : Nat) (b : Bool), optR o = .tuple #[.int .u64 (n : Int), .bool b] := by
  cases o with
  | none => exact ⟨0, false, rfl⟩
  | some x => exact ⟨x, true, rfl⟩
theorem ex6a : rateX [50, 107] = some 2000 := by
  have e : dec 2 = [50] := by rw [dec_small (by omega)]; rfl
  have h := rate_k (x := 2) (by omega)
  rw [e, if_neg (by omega)] at h
  exact h
theorem dec2000 : dec 2000 = [50, 48, 48, 48] := by
  rw [dec_big (by omega), show 2000 / 10 = 200 from rfl, dec_big (by omega), show 200 / 10 = 20 from rfl, dec_big (by omega), show 20 / 10 = 2 from rfl, dec_small (by omega)]
  rfl
theorem ex6b : rateX [50, 48, 48, 48] = some 2000 := by
  have h := rate_dec (x := 2000) (by omega)
  rwa [dec2000] at h
theorem ex6c : uintX [48, 49] = none := uint_no (.inr (.inr (.inl ⟨by decide, rfl⟩)))
theorem ex6d : showRateX 2000 = [50, 107] := by
  unfold showRateX
  rw [if_neg (by omega), if_pos (by omega), show 2000 / 1000 = 2 from rfl, dec_small (by omega)]
  rfl
theorem ex6e : dec 0 = [48] := rfl
theorem ex6f : identX [97, 45, 49] = true := by decide
theorem ex6g : identX [49, 97] = false := by decide

set_option maxRecDepth 100000 in
set_option maxHeartbeats 2000000 in
theorem awake6 (W0 : World) (C : SclC W0) : Awake6 W0 := by
  intro w hw
  have R1 : ∀ W, Below W0.heap.size W0 W → Hid (Calls Tryd.prog 10 #[.string ⟨#[50, 107]⟩] W (fun r w' => r = .returned (.tuple #[.int .u64 2000, .bool true]) ∧ Below W.heap.size W w')) := fun W h => Lib.hid (by
    have := C.rate [50, 107] W (by decide) h
    rw [ex6a] at this
    exact this)
  have R2 : ∀ W, Below W0.heap.size W0 W → Hid (Calls Tryd.prog 10 #[.string ⟨#[50, 48, 48, 48]⟩] W (fun r w' => r = .returned (.tuple #[.int .u64 2000, .bool true]) ∧ Below W.heap.size W w')) := fun W h => Lib.hid (by
    have := C.rate [50, 48, 48, 48] W (by decide) h
    rw [ex6b] at this
    exact this)
  have U1 : ∀ W, Below W0.heap.size W0 W → Hid (Calls Tryd.prog 8 #[.string ⟨#[48, 49]⟩] W (fun r w' => r = .returned (.tuple #[.int .u64 0, .bool false]) ∧ Below W.heap.size W w')) := fun W h => Lib.hid (by
    have := C.uint [48, 49] W (by decide) h
    rw [ex6c] at this
    exact this)
  have S1 : ∀ W, Below W0.heap.size W0 W → Hid (Calls Tryd.prog 15 #[.int .u64 2000] W (fun r w' => r = .returned (.string ⟨#[50, 107]⟩) ∧ Below W.heap.size W w')) := fun W h => Lib.hid (by
    have := C.shrate 2000 W (by omega) h
    rw [ex6d] at this
    exact this)
  have S2 : ∀ W, Below W0.heap.size W0 W → Hid (Calls Tryd.prog 14 #[.int .u64 0] W (fun r w' => r = .returned (.string ⟨#[48]⟩) ∧ Below W.heap.size W w')) := fun W h => Lib.hid (by
    have := C.shows 0 W (by omega) h
    rw [ex6e] at this
    exact this)
  have I1 : ∀ W, Below W0.heap.size W0 W → Hid (Calls Tryd.prog 12 #[.string ⟨#[97, 45, 49]⟩] W (fun r w' => r = .returned (.bool true) ∧ Below W.heap.size W w')) := fun W h => Lib.hid (by
    have := C.ident [97, 45, 49] W (by decide) h
    rw [ex6f] at this
    exact this)
  have I2 : ∀ W, Below W0.heap.size W0 W → Hid (Calls Tryd.prog 12 #[.string ⟨#[49, 97]⟩] W (fun r w' => r = .returned (.bool false) ∧ Below W.heap.size W w')) := fun W h => Lib.hid (by
    have := C.ident [49, 97] W (by decide) h
    rw [ex6g] at this
    exact this)
  have HW := Lib.hid hw
  have HS : Hid (∀ W, Below w.heap.size w W → Below W0.heap.size W0 W) := Lib.hid (fun W h => hw.trans (h.mono hw.size))
  clear C hw
  go_enter Tryd.func7, Tryd.ntmps7
  go_wp2_with fail
  refine (R1 _ HW.out).out.mono ?_
  rintro r w1 ⟨rfl, hB⟩
  have H1 := Lib.hid hB
  clear hB
  go_wp2_with fail
  refine (R2 _ (HS.out _ H1.out)).out.mono ?_
  rintro r w2 ⟨rfl, hB⟩
  have H2 := Lib.hid (H1.out.trans (hB.mono H1.out.size))
  clear hB
  go_wp2_with fail
  refine (U1 _ (HS.out _ H2.out)).out.mono ?_
  rintro r w3 ⟨rfl, hB⟩
  have H3 := Lib.hid (H2.out.trans (hB.mono H2.out.size))
  clear hB
  go_wp2_with fail
  refine (S1 _ (HS.out _ H3.out)).out.mono ?_
  rintro r w4 ⟨rfl, hB⟩
  have H4 := Lib.hid (H3.out.trans (hB.mono H3.out.size))
  clear hB
  go_wp2_with fail
  refine (S2 _ (HS.out _ H4.out)).out.mono ?_
  rintro r w5 ⟨rfl, hB⟩
  have H5 := Lib.hid (H4.out.trans (hB.mono H4.out.size))
  clear hB
  go_wp2_with fail
  refine (I1 _ (HS.out _ H5.out)).out.mono ?_
  rintro r w6 ⟨rfl, hB⟩
  have H6 := Lib.hid (H5.out.trans (hB.mono H5.out.size))
  clear hB
  go_wp2_with fail
  refine (I2 _ (HS.out _ H6.out)).out.mono ?_
  rintro r w7 ⟨rfl, hB⟩
  have H7 := Lib.hid (H6.out.trans (hB.mono H6.out.size))
  clear hB
  go_wp2
  go_ret
  exact ⟨rfl, H7.out⟩

end Go.Proofs.YtpaapjafnjipfaaDoor
