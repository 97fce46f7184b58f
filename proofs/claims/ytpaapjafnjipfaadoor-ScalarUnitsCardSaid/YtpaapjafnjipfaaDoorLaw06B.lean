/-
  ScalarUnits, where package scalar answers as it is to and the law is awake.
-/
import Derived.Test.YtpaapjafnjipfaaDoorSclSpec
namespace Go.Proofs.YtpaapjafnjipfaaDoor
open Go.RowKit
set_option linter.unusedSimpArgs false

theorem uint_unit (x : Nat) : uintX (dec x ++ [107]) = none := uint_no (.inl ⟨107, by simp, by decide⟩)
theorem rate_two (x : Nat) : rateX (dec x ++ [107, 109]) = none := by
  rw [show dec x ++ [107, 109] = (dec x ++ [107]) ++ [109] by simp]
  unfold rateX
  rw [unit_m]
  simp only [uint_unit]
/-- A number times a unit, or none. -/
theorem mul_shape (x u lim : Nat) (hlim : ∀ x, ¬ lim < x → x * u < 18446744073709551616) (s : List UInt8) (h : rateX s = if lim < x then none else some (x * u)) :
    ∃ (n : Nat) (b : Bool), optR (rateX s) = .tuple #[.int .u64 (n : Int), .bool b] ∧ ((b = false ∧ ¬ (x : Int) ≤ (lim : Int)) ∨ (b = true ∧ (x : Int) ≤ (lim : Int) ∧ IntKind.u64.wrap ((u : Int) * (x : Int)) = (n : Int))) := by
  rw [h]
  by_cases hl : lim < x
  · rw [if_pos hl]
    exact ⟨0, false, rfl, .inl ⟨rfl, by omega⟩⟩
  · rw [if_neg hl]
    refine ⟨x * u, true, rfl, .inr ⟨rfl, by omega, ?_⟩⟩
    have h1 := hlim x hl
    rw [IntKind.wrap_u64, Int.mul_comm, ← Int.natCast_mul]
    omega

set_option maxRecDepth 100000 in
set_option maxHeartbeats 2000000 in
theorem scalarUnits_walk (x : Nat) (hx : x < 18446744073709551616) (s : List UInt8) (w : World) (C : SclC w) (HA : Awake6 w) :
    Calls Tryd.prog 5 #[.int .u64 (x : Int), .string (txt s)] w fun e w' => e = .returned (.bool true) ∧ Below w.heap.size w w' := by
  have hsz := txt_size s
  have HAW := Lib.hid (HA w (Below.refl _ _))
  by_cases h3 : 300 < s.length
  · have i0 : (300 : Int) < (s.length : Int) := by omega
    clear C HA
    go_enter Tryd.func5, Tryd.ntmps5
    go_wp2_with fail
    refine HAW.out.mono ?_
    rintro r w1 ⟨rfl, hB1⟩
    go_wp2
    go_ret
    exact ⟨rfl, hB1⟩
  have i0 : ¬ (300 : Int) < (s.length : Int) := by omega
  obtain ⟨D, hD⟩ : ∃ D, D = dec x := ⟨_, rfl⟩
  have hDl : D.length ≤ 20 := by rw [hD]; exact dec_len20 hx
  have hDz := txt_size D
  have c1 : txt D ++ (ByteArray.mk #[107]) = txt (D ++ [107]) := txt_catS _ [107]
  have c2 : txt D ++ (ByteArray.mk #[109]) = txt (D ++ [109]) := txt_catS _ [109]
  have c3 : txt D ++ (ByteArray.mk #[107, 109]) = txt (D ++ [107, 109]) := txt_catS _ [107, 109]
  have l1 : (D ++ [107]).length ≤ 100 := by simp; omega
  have l2 : (D ++ [109]).length ≤ 100 := by simp; omega
  have l3 : (D ++ [107, 109]).length ≤ 100 := by simp; omega
  obtain ⟨kn, kb, ke, kw⟩ := mul_shape x 1000 18446744073709551 (fun y hy => by omega) (D ++ [107]) (by rw [hD]; exact rate_k hx)
  obtain ⟨mn, mb, me, mw⟩ := mul_shape x 1000000 18446744073709 (fun y hy => by omega) (D ++ [109]) (by rw [hD]; exact rate_m hx)
  have S1 : ∀ W, Below w.heap.size w W → Hid (Calls Tryd.prog 14 #[.int .u64 (x : Int)] W (fun r w' => r = .returned (.string (txt D)) ∧ Below W.heap.size W w')) := fun W h => Lib.hid (by rw [hD]; exact C.shows x W hx h)
  have R1 : ∀ W, Below w.heap.size w W → Hid (Calls Tryd.prog 10 #[.string (txt (D ++ [107]))] W (fun r w' => r = .returned (.tuple #[.int .u64 (kn : Int), .bool kb]) ∧ Below W.heap.size W w')) := fun W h => Lib.hid (by rw [← ke]; exact C.rate _ W (by omega) h)
  have R2 : ∀ W, Below w.heap.size w W → Hid (Calls Tryd.prog 10 #[.string (txt (D ++ [109]))] W (fun r w' => r = .returned (.tuple #[.int .u64 (mn : Int), .bool mb]) ∧ Below W.heap.size W w')) := fun W h => Lib.hid (by rw [← me]; exact C.rate _ W (by omega) h)
  have U1 : ∀ W, Below w.heap.size w W → Hid (Calls Tryd.prog 8 #[.string (txt (D ++ [107]))] W (fun r w' => r = .returned (.tuple #[.int .u64 0, .bool false]) ∧ Below W.heap.size W w')) := fun W h => Lib.hid (by
    have := C.uint (D ++ [107]) W (by omega) h
    rw [hD, uint_unit] at this
    rw [hD]
    exact this)
  have R3 : ∀ W, Below w.heap.size w W → Hid (Calls Tryd.prog 10 #[.string (txt (D ++ [107, 109]))] W (fun r w' => r = .returned (.tuple #[.int .u64 0, .bool false]) ∧ Below W.heap.size W w')) := fun W h => Lib.hid (by
    have := C.rate (D ++ [107, 109]) W (by omega) h
    rw [hD, rate_two] at this
    rw [hD]
    exact this)
  have hway : (rateX s = none) ∨ ∃ y, rateX s = some y ∧ y < 18446744073709551616 := by
    cases h : rateX s with
    | none => exact .inl rfl
    | some y => exact .inr ⟨y, rfl, rate_lt h⟩
  have RS := fun W h => Lib.hid (C.rate s W (by omega) h)
  have SHR := C.shrate
  have HSH := Lib.hid SHR
  clear C HA hD ke me h3 SHR
  have kw2 : (kb = false ∧ ¬ (x : Int) ≤ 18446744073709551) ∨ (kb = true ∧ (x : Int) ≤ 18446744073709551 ∧ Hid (IntKind.u64.wrap (1000 * (x : Int)) = (kn : Int))) := by
    rcases kw with ⟨e, k1⟩ | ⟨e, k1, k2⟩
    · exact .inl ⟨e, by omega⟩
    · exact .inr ⟨e, by omega, Lib.hid k2⟩
  have mw2 : (mb = false ∧ ¬ (x : Int) ≤ 18446744073709) ∨ (mb = true ∧ (x : Int) ≤ 18446744073709 ∧ Hid (IntKind.u64.wrap (1000000 * (x : Int)) = (mn : Int))) := by
    rcases mw with ⟨e, k1⟩ | ⟨e, k1, k2⟩
    · exact .inl ⟨e, by omega⟩
    · exact .inr ⟨e, by omega, Lib.hid k2⟩
  clear kw mw
  have hfin : ∃ (y : Nat) (b : Bool), optR (rateX s) = .tuple #[.int .u64 (y : Int), .bool b] ∧ (b = false ∨ (b = true ∧ y < 18446744073709551616 ∧ Hid ((showRateX y).length ≤ s.length))) := by
    rcases hway with h | ⟨y, h, h9⟩
    · exact ⟨0, false, by rw [h]; rfl, .inl rfl⟩
    · exact ⟨y, true, by rw [h]; rfl, .inr ⟨rfl, h9, Lib.hid (rate_short h)⟩⟩
  clear hway
  obtain ⟨y, b, hy, hfin⟩ := hfin
  have RS2 : ∀ W, Below w.heap.size w W → Hid (Calls Tryd.prog 10 #[.string (txt s)] W (fun r w' => r = .returned (.tuple #[.int .u64 (y : Int), .bool b]) ∧ Below W.heap.size W w')) := fun W h => Lib.hid (by rw [← hy]; exact (RS W h).out)
  clear RS hy
  go_enter Tryd.func5, Tryd.ntmps5
  go_wp2_with fail
  refine HAW.out.mono ?_
  rintro r w1 ⟨rfl, hB⟩
  have H1 := Lib.hid hB
  clear hB
  go_wp2_with fail
  refine (S1 _ H1.out).out.mono ?_
  rintro r w2 ⟨rfl, hB⟩
  have H2 := Lib.hid (H1.out.trans (hB.mono H1.out.size))
  clear hB
  go_wp2_with fail
  refine (R1 _ H2.out).out.mono ?_
  rintro r w3 ⟨rfl, hB⟩
  have H3 := Lib.hid (H2.out.trans (hB.mono H2.out.size))
  clear hB
  go_wp2_with fail
  refine (R2 _ H3.out).out.mono ?_
  rintro r w4 ⟨rfl, hB⟩
  have H4 := Lib.hid (H3.out.trans (hB.mono H3.out.size))
  clear hB
  go_wp2_with fail
  refine (U1 _ H4.out).out.mono ?_
  rintro r w5 ⟨rfl, hB⟩
  have H5 := Lib.hid (H4.out.trans (hB.mono H4.out.size))
  clear hB
  go_wp2_with fail
  refine (R3 _ H5.out).out.mono ?_
  rintro r w6 ⟨rfl, hB⟩
  have H6 := Lib.hid (H5.out.trans (hB.mono H5.out.size))
  clear hB
  rcases kw2 with ⟨rfl, k1⟩ | ⟨rfl, k1, K2⟩ <;> rcases mw2 with ⟨rfl, m1⟩ | ⟨rfl, m1, M2⟩
  all_goals try (exfalso; omega)
  all_goals try have k2 := K2.out
  all_goals try have m2 := M2.out
  all_goals rcases hfin with rfl | ⟨rfl, hy9, HY⟩
  all_goals
    go_wp2_with fail
    refine (RS2 _ H6.out).out.mono ?_
    rintro r w7 ⟨rfl, hB⟩
    have H7 := Lib.hid (H6.out.trans (hB.mono H6.out.size))
    clear hB
  all_goals first
    | (go_wp2
       go_ret
       exact ⟨rfl, H7.out⟩)
    | (obtain ⟨E, hE⟩ : ∃ E, E = showRateX y := ⟨_, rfl⟩
       have hz := txt_size E
       have hl : E.length ≤ s.length := by rw [hE]; exact HY.out
       have SH : ∀ W, Below w.heap.size w W → Hid (Calls Tryd.prog 15 #[.int .u64 (y : Int)] W (fun r w' => r = .returned (.string (txt E)) ∧ Below W.heap.size W w')) := fun W h => Lib.hid (by rw [hE]; exact HSH.out y W hy9 h)
       clear hE
       go_wp2_with fail
       refine (SH _ H7.out).out.mono ?_
       rintro r w8 ⟨rfl, hB⟩
       have H8 := Lib.hid (H7.out.trans (hB.mono H7.out.size))
       clear hB
       go_wp2
       go_ret
       exact ⟨by first | rfl | simp, H8.out⟩)

end Go.Proofs.YtpaapjafnjipfaaDoor
