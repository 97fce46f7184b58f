/-
  ScalarReads and ScalarShows, where package scalar answers as it is to and the law is awake.
-/
import Derived.Test.YtpaapjafnjipfaaDoorSclSpec
namespace Go.Proofs.YtpaapjafnjipfaaDoor
open Go.RowKit
set_option linter.unusedSimpArgs false

set_option maxRecDepth 100000 in
set_option maxHeartbeats 2000000 in
theorem scalarReads_walk (s : List UInt8) (w : World) (C : SclC w) (HA : Awake6 w) :
    Calls Tryd.prog 3 #[.string (txt s)] w fun e w' => e = .returned (.bool true) ∧ Below w.heap.size w w' := by
  have hsz := txt_size s
  have HAW := Lib.hid (HA w (Below.refl _ _))
  by_cases h3 : 300 < s.length
  · have i0 : (300 : Int) < (s.length : Int) := by omega
    clear C HA
    go_enter Tryd.func3, Tryd.ntmps3
    go_wp2_with fail
    refine HAW.out.mono ?_
    rintro r w1 ⟨rfl, hB1⟩
    go_wp2
    go_ret
    exact ⟨rfl, hB1⟩
  have i0 : ¬ (300 : Int) < (s.length : Int) := by omega
  obtain ⟨n1, b1, e1⟩ := opt_shape (uintX s)
  obtain ⟨n2, b2, e2⟩ := opt_shape (rateX s)
  have U1 : ∀ W, Below w.heap.size w W → Hid (Calls Tryd.prog 8 #[.string (txt s)] W (fun r w' => r = .returned (.tuple #[.int .u64 (n1 : Int), .bool b1]) ∧ Below W.heap.size W w')) := fun W h => Lib.hid (by rw [← e1]; exact C.uint s W (by omega) h)
  have U2 : ∀ W, Hid (Calls Tryd.prog 9 #[.string (txt s)] W (fun r w' => r = .returned (.tuple #[.int .u64 (n1 : Int), .bool b1]) ∧ Below W.heap.size W w')) := fun W => Lib.hid (by rw [← e1]; exact ruint_any s (by omega) W)
  have R1 : ∀ W, Below w.heap.size w W → Hid (Calls Tryd.prog 10 #[.string (txt s)] W (fun r w' => r = .returned (.tuple #[.int .u64 (n2 : Int), .bool b2]) ∧ Below W.heap.size W w')) := fun W h => Lib.hid (by rw [← e2]; exact C.rate s W (by omega) h)
  have R2 : ∀ W, Hid (Calls Tryd.prog 11 #[.string (txt s)] W (fun r w' => r = .returned (.tuple #[.int .u64 (n2 : Int), .bool b2]) ∧ Below W.heap.size W w')) := fun W => Lib.hid (by rw [← e2]; exact rrate_any s (by omega) W)
  obtain ⟨b3, hb3⟩ : ∃ b3, b3 = identX s := ⟨_, rfl⟩
  have I1 : ∀ W, Below w.heap.size w W → Hid (Calls Tryd.prog 12 #[.string (txt s)] W (fun r w' => r = .returned (.bool b3) ∧ Below W.heap.size W w')) := fun W h => Lib.hid (by rw [hb3]; exact C.ident s W (by omega) h)
  have I2 : ∀ W, Hid (Calls Tryd.prog 13 #[.string (txt s)] W (fun r w' => r = .returned (.bool b3) ∧ W = w')) := fun W => Lib.hid (by rw [hb3]; exact rident_any s (by omega) W)
  clear C HA e1 e2 hb3 h3
  go_enter Tryd.func3, Tryd.ntmps3
  go_wp2_with fail
  refine HAW.out.mono ?_
  rintro r w1 ⟨rfl, hB⟩
  have H1 := Lib.hid hB
  clear hB
  go_wp2_with fail
  refine (U1 _ H1.out).out.mono ?_
  rintro r w2 ⟨rfl, hB⟩
  have H2 := Lib.hid (H1.out.trans (hB.mono H1.out.size))
  clear hB
  go_wp2_with fail
  refine (U2 _).out.mono ?_
  rintro r w3 ⟨rfl, hB⟩
  have H3 := Lib.hid (H2.out.trans (hB.mono H2.out.size))
  clear hB
  go_wp2_with fail
  refine (R1 _ H3.out).out.mono ?_
  rintro r w4 ⟨rfl, hB⟩
  have H4 := Lib.hid (H3.out.trans (hB.mono H3.out.size))
  clear hB
  go_wp2_with fail
  refine (R2 _).out.mono ?_
  rintro r w5 ⟨rfl, hB⟩
  have H5 := Lib.hid (H4.out.trans (hB.mono H4.out.size))
  clear hB
  go_wp2_with fail
  refine (I1 _ H5.out).out.mono ?_
  rintro r w6 ⟨rfl, hB⟩
  have H6 := Lib.hid (H5.out.trans (hB.mono H5.out.size))
  clear hB
  go_wp2_with fail
  refine (I2 _).out.mono ?_
  rintro r w7 ⟨rfl, rfl⟩
  go_wp2
  go_ret
  exact ⟨by first | rfl | simp, H6.out⟩

set_option maxRecDepth 100000 in
set_option maxHeartbeats 2000000 in
theorem scalarShows_walk (x : Nat) (hx : x < 18446744073709551616) (w : World) (C : SclC w) (HA : Awake6 w) :
    Calls Tryd.prog 4 #[.int .u64 (x : Int)] w fun e w' => e = .returned (.bool true) ∧ Below w.heap.size w w' := by
  have HAW := Lib.hid (HA w (Below.refl _ _))
  obtain ⟨D, hD⟩ : ∃ D, D = dec x := ⟨_, rfl⟩
  obtain ⟨E, hE⟩ : ∃ E, E = showRateX x := ⟨_, rfl⟩
  have hDl : D.length ≤ 20 := by rw [hD]; exact dec_len20 hx
  have hEl : E.length ≤ 21 := by
    have h1 := rate_short (rate_dec hx)
    rw [← hE] at h1
    rw [← hD] at h1
    omega
  have tD : (txt D).toList = D := txt_toList D
  have tE : (txt E).toList = E := txt_toList E
  have S1 : ∀ W, Below w.heap.size w W → Hid (Calls Tryd.prog 14 #[.int .u64 (x : Int)] W (fun r w' => r = .returned (.string (txt D)) ∧ Below W.heap.size W w')) := fun W h => Lib.hid (by rw [hD]; exact C.shows x W hx h)
  have S2 : ∀ W, Hid (Calls Tryd.prog 16 #[.int .u64 (x : Int)] W (fun r w' => r = .returned (.string (txt D)) ∧ Below W.heap.size W w')) := fun W => Lib.hid (by rw [hD]; exact rshow_any x hx W)
  have T1 : ∀ W, Below w.heap.size w W → Hid (Calls Tryd.prog 15 #[.int .u64 (x : Int)] W (fun r w' => r = .returned (.string (txt E)) ∧ Below W.heap.size W w')) := fun W h => Lib.hid (by rw [hE]; exact C.shrate x W hx h)
  have T2 : ∀ W, Hid (Calls Tryd.prog 17 #[.int .u64 (x : Int)] W (fun r w' => r = .returned (.string (txt E)) ∧ Below W.heap.size W w')) := fun W => Lib.hid (by rw [hE]; exact rshrate_any x hx W)
  have U1 : ∀ W, Below w.heap.size w W → Hid (Calls Tryd.prog 8 #[.string (txt D)] W (fun r w' => r = .returned (.tuple #[.int .u64 (x : Int), .bool true]) ∧ Below W.heap.size W w')) := fun W h => Lib.hid (by
    have := C.uint D W (by omega) h
    rw [hD, uint_dec hx] at this
    rw [hD]
    exact this)
  have R1 : ∀ W, Below w.heap.size w W → Hid (Calls Tryd.prog 10 #[.string (txt E)] W (fun r w' => r = .returned (.tuple #[.int .u64 (x : Int), .bool true]) ∧ Below W.heap.size W w')) := fun W h => Lib.hid (by
    have := C.rate E W (by omega) h
    rw [hE, rate_show hx] at this
    rw [hE]
    exact this)
  clear C HA hD hE
  go_enter Tryd.func4, Tryd.ntmps4
  go_wp2_with fail
  refine HAW.out.mono ?_
  rintro r w1 ⟨rfl, hB⟩
  have H1 := Lib.hid hB
  clear hB
  go_wp2_with fail
  refine (S1 _ H1.out).out.mono ?_
  rintro r w2 ⟨rfl, hB⟩
  have H2 := Lib.hid (H1.out.trans (hB.mono H1.out.size))
  clear hB
  go_wp2_with fail
  refine (U1 _ H2.out).out.mono ?_
  rintro r w3 ⟨rfl, hB⟩
  have H3 := Lib.hid (H2.out.trans (hB.mono H2.out.size))
  clear hB
  go_wp2_with fail
  refine (T1 _ H3.out).out.mono ?_
  rintro r w4 ⟨rfl, hB⟩
  have H4 := Lib.hid (H3.out.trans (hB.mono H3.out.size))
  clear hB
  go_wp2_with fail
  refine (R1 _ H4.out).out.mono ?_
  rintro r w5 ⟨rfl, hB⟩
  have H5 := Lib.hid (H4.out.trans (hB.mono H4.out.size))
  clear hB
  go_wp2_with fail
  refine (S1 _ H5.out).out.mono ?_
  rintro r w6 ⟨rfl, hB⟩
  have H6 := Lib.hid (H5.out.trans (hB.mono H5.out.size))
  clear hB
  go_wp2_with fail
  refine (S2 _).out.mono ?_
  rintro r w7 ⟨rfl, hB⟩
  have H7 := Lib.hid (H6.out.trans (hB.mono H6.out.size))
  clear hB
  go_wp2_with fail
  refine (T1 _ H7.out).out.mono ?_
  rintro r w8 ⟨rfl, hB⟩
  have H8 := Lib.hid (H7.out.trans (hB.mono H7.out.size))
  clear hB
  go_wp2_with fail
  refine (T2 _).out.mono ?_
  rintro r w9 ⟨rfl, hB⟩
  have H9 := Lib.hid (H8.out.trans (hB.mono H8.out.size))
  clear hB
  go_wp2
  go_ret
  exact ⟨by first | rfl | simp, H9.out⟩

end Go.Proofs.YtpaapjafnjipfaaDoor
