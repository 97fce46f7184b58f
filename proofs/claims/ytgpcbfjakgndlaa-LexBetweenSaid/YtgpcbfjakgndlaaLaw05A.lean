/-
  The law's examples (package tollbarlaw05), where package lex answers as it is to.
-/
import Derived.Test.YtgpcbfjakgndlaaLaw05B
namespace Go.Proofs.Ytgpcbfjakgndlaa
open Go.RowKit
set_option linter.unusedSimpArgs false

theorem ex5a : allX [97, 32, 34, 98, 92, 120, 52, 49, 34, 59] = ([⟨1, [97], (1, 1)⟩, ⟨2, [98, 65], (1, 3)⟩, ⟨5, [], (1, 10)⟩, ⟨0, [], (1, 11)⟩], 0, (0, 0)) := by kernel_rfl
theorem ex5b : allX [97, 98, 10, 32, 64] = ([], 20, (2, 2)) := by kernel_rfl
theorem ex5c : plainX [97, 45, 49] = true := by kernel_rfl
theorem ex5d : plainX [] = false := by kernel_rfl
theorem ex5e : quoteX [97, 10] = [34, 97, 92, 110, 34] := by kernel_rfl

set_option maxRecDepth 100000 in
set_option maxHeartbeats 2000000 in
theorem awake5 (C : LexC) : Awake5 := by
  intro w
  have AL1 : ∀ W, Hid (Calls Try.prog 9 #[.string ⟨#[97, 32, 34, 98, 92, 120, 52, 49, 34, 59]⟩] W (fun r w' => ∃ v d, r = .returned (.tuple #[v, .int .i64 0, .agg #[.int .i64 0, .int .i64 0]]) ∧ Toks w' d v [⟨1, [97], (1, 1)⟩, ⟨2, [98, 65], (1, 3)⟩, ⟨5, [], (1, 10)⟩, ⟨0, [], (1, 11)⟩] ∧ Below W.heap.size W w')) := fun W => Lib.hid (by
    have h := C.all [97, 32, 34, 98, 92, 120, 52, 49, 34, 59] W (by decide)
    unfold LexAllP at h
    rw [ex5a] at h
    exact h)
  have AL2 : ∀ W, Hid (Calls Try.prog 9 #[.string ⟨#[97, 98, 10, 32, 64]⟩] W (fun r w' => ∃ v d, r = .returned (.tuple #[v, .int .i64 20, .agg #[.int .i64 2, .int .i64 2]]) ∧ Toks w' d v [] ∧ Below W.heap.size W w')) := fun W => Lib.hid (by
    have h := C.all [97, 98, 10, 32, 64] W (by decide)
    unfold LexAllP at h
    rw [ex5b] at h
    exact h)
  have PL1 : ∀ W, Hid (Calls Try.prog 14 #[.string ⟨#[97, 45, 49]⟩] W (fun r w' => r = .returned (.bool true) ∧ Below W.heap.size W w')) := fun W => Lib.hid (by
    have h := C.plain [97, 45, 49] W (by decide)
    rw [ex5c] at h
    exact h)
  have PL2 : ∀ W, Hid (Calls Try.prog 14 #[.string ⟨#[]⟩] W (fun r w' => r = .returned (.bool false) ∧ Below W.heap.size W w')) := fun W => Lib.hid (by
    have h := C.plain [] W (by decide)
    rw [ex5d] at h
    exact h)
  have QU : ∀ W, Hid (Calls Try.prog 13 #[.string ⟨#[97, 10]⟩] W (fun r w' => r = .returned (.string ⟨#[34, 97, 92, 110, 34]⟩) ∧ Below W.heap.size W w')) := fun W => Lib.hid (by
    have h := C.quote [97, 10] W (by decide)
    rw [ex5e] at h
    exact h)
  have tb : (txt [98, 65]).toList = [98, 65] := txt_toList _
  clear C
  go_enter Try.func8, Try.ntmps8
  go_wp2_with fail
  refine (AL1 _).out.mono ?_
  rintro r w1 ⟨v1, d1, rfl, ht1, hB1⟩
  obtain ⟨A1, c1, rfl⟩ := RowK.shape ht1
  have hb0 := (Below.refl _ w1).alloc (Nat.le_refl _) (.cells #[.int .i64 0, .int .i64 0] 26)
  have ht0 := ht1.below hb0
  have s0 := hB1.size
  have hB0 := hB1.trans (hb0.mono s0)
  have s1 := hB0.size
  clear ht1 hB1 hb0
  go_wp2_with fail
  refine (AL2 _).out.mono ?_
  rintro r w2 ⟨v2, d2, rfl, ht2, hB2⟩
  have hB3 := hB0.trans (hB2.mono s1)
  have s3 := hB3.size
  have hbA := (Below.refl _ w2).alloc (Nat.le_refl _) (.cells #[.int .i64 2, .int .i64 2] 26)
  have hB4 := hB3.trans (hbA.mono s3)
  have ht3 : Toks (w2.alloc (.cells #[.int .i64 2, .int .i64 2] 26)) d1 (.slice A1 4 c1) [⟨1, [97], (1, 1)⟩, ⟨2, [98, 65], (1, 3)⟩, ⟨5, [], (1, 10)⟩, ⟨0, [], (1, 11)⟩] := (ht0.below hB2).below hbA
  obtain ⟨-, -, o, rfl, -, a0, a1, a2, a3⟩ := ht3.at (i := 0) rfl
  obtain ⟨-, -, o1, e1, -, b0, b1, b2, b3⟩ := ht3.at (i := 1) rfl
  obtain ⟨-, -, o2, e2, -, c0, c1', c2, c3⟩ := ht3.at (i := 2) rfl
  obtain ⟨-, -, o3, e3, -, f0, f1, f2, f3⟩ := ht3.at (i := 3) rfl
  injection e1 with e1; injection e1 with _ e1 _
  injection e2 with e2; injection e2 with _ e2 _
  injection e3 with e3; injection e3 with _ e3 _
  subst e1 e2 e3
  simp only [Nat.zero_mul, Nat.add_zero, Nat.one_mul, Nat.add_assoc] at a0 a1 a2 a3 b0 b1 b2 b3 c0 c1' c2 c3 f0 f1 f2 f3
  clear ht0 ht2 hB0 hB2 hB3 hbA
  have s4 := hB4.size
  go_wp2_with fail
  refine (PL1 _).out.mono ?_
  rintro r w5 ⟨rfl, hB5⟩
  have hB6 := hB4.trans (hB5.mono s4)
  have s6 := hB6.size
  clear ht3 hB4 hB5
  go_wp2_with fail
  refine (PL2 _).out.mono ?_
  rintro r w7 ⟨rfl, hB7⟩
  have hB8 := hB6.trans (hB7.mono s6)
  have s8 := hB8.size
  clear hB6 hB7
  go_wp2_with fail
  refine (QU _).out.mono ?_
  rintro r w9 ⟨rfl, hB9⟩
  have HB := Lib.hid (hB8.trans (hB9.mono s8))
  go_wp2
  all_goals go_ret
  all_goals exact ⟨rfl, HB.out⟩

end Go.Proofs.Ytgpcbfjakgndlaa
