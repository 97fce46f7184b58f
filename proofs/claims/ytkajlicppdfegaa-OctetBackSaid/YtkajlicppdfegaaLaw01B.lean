/-
  The walk of the law OctetLeast: it answers true, for every number and every count of noughts, and writes nothing that was there. No condition.
-/
import Derived.Test.YtkajlicppdfegaaOctH
import Derived.Test.YtkajlicppdfegaaLaw01A
import Derived.Deep.QuietTactic
import Derived.BigQuiet
import Derived.OpenShut
import Derived.Outline
namespace Go.Proofs.Ytkajlicppdfegaa
open Go.RowKit

theorem power_any (n : Nat) (w : World) (h : n ≤ 7) : Calls Try.prog 21 #[.int .i64 (n : Int)] w fun r w' => r = .returned (.int .u64 ((256 ^ n : Nat) : Int)) ∧ w = w' := by
  go_enter Try.func21, Try.ntmps21
  go_wp2
  go_loop [3, 4] (fun x i => ∃ k : Nat, k ≤ n ∧ i = .int .i64 k ∧ x = .int .u64 ((256 ^ k : Nat) : Int)) (fun _ i => n - (intOf i).toNat)
  case atStart => exact ⟨0, Nat.zero_le _, rfl, rfl⟩
  case round =>
    obtain ⟨k, hk, rfl, rfl⟩ := hrel
    by_cases hlt : k < n
    · obtain ⟨P, hP⟩ : ∃ P : Nat, P = 256 ^ k := ⟨_, rfl⟩
      have hb : P ≤ 256 ^ 6 := by rw [hP]; exact Nat.pow_le_pow_right (by decide) (by omega)
      have hn : 256 ^ (k + 1) = P * 256 := by rw [hP, Nat.pow_succ]
      have HN := Lib.hid hn
      rw [← hP]
      have hb' : P ≤ 281474976710656 := hb
      clear hn hP hb
      go_wp2
      go_round
      case rel => exact ⟨k + 1, by omega, by go_num, by rw [HN.out]; go_num⟩
      case measure => simp [intOf]; omega
    · go_wp2
      go_ret
      obtain rfl : k = n := by omega
      exact ⟨rfl, rfl⟩

theorem made_zeros (k : Nat) : madeCells #[Value.int .u8 0] k = ((List.replicate k (0 : UInt8)).map byteV).toArray := by
  apply Array.ext
  · simp [size_madeCells]
  · intro i h1 h2
    have hm : i % 1 = 0 := Nat.mod_one i
    simp [madeCells, hm, byteV]
theorem valB_zeros (k : Nat) (l : List UInt8) : valB (List.replicate k 0 ++ l) = valB l := by
  rw [valB_append]
  have h : valB (List.replicate k (0 : UInt8)) = 0 := by
    induction k with
    | zero => rfl
    | succ k ih => rw [List.replicate_succ, valB_cons, ih]; simp
  rw [h]; simp
theorem head_ne {L : List UInt8} {x : Nat} (h0 : 0 < L.length) (hv : valB L = x) (hx : 0 < L.length → 256 ^ (L.length - 1) ≤ x) : ∃ b, L[0]? = some b ∧ ((b.toNat : Int) == 0) = false := by
  match L, h0 with
  | b :: l, _ =>
    refine ⟨b, rfl, ?_⟩
    have hx := hx (by simp)
    suffices h : b.toNat ≠ 0 by simpa using h
    intro hb
    have h1 := valB_lt l
    rw [valB_cons] at hv
    have hb' : b.toNat = 0 := hb
    rw [hb'] at hv
    simp at hx hv
    omega
theorem power_as (n P : Nat) (w : World) (h : n ≤ 7) (hP : P = 256 ^ n) : Calls Try.prog 21 #[.int .i64 (n : Int)] w fun r w' => r = .returned (.int .u64 (P : Int)) ∧ w = w' := by
  subst hP
  exact power_any n w h
theorem lit9 (w : World) : Rd (w.alloc (.cells #[.int .u8 1, .int .u8 0, .int .u8 0, .int .u8 0, .int .u8 0, .int .u8 0, .int .u8 0, .int .u8 0, .int .u8 0] 5)) w.heap.size (.slice (some ⟨w.heap.size, 0, none⟩) 9 9) [1, 0, 0, 0, 0, 0, 0, 0, 0] :=
  Rd.of_blk (l := [1, 0, 0, 0, 0, 0, 0, 0, 0]) (Blk.new w 5 _) (by simp)

set_option maxHeartbeats 1000000 in
theorem octetLeast_walk (a0 a1 : Int) (w0 : (Lit.int .u64 a0).wf = true) (w1 : (Lit.int .u8 a1).wf = true) (w : World) :
    Calls Try.prog 5 #[.int .u64 a0, .int .u8 a1] w fun e w' => e = .returned (.bool true) ∧ Below w.heap.size w w' := by
  obtain ⟨b0, b1⟩ := bounds_u64 w0
  obtain ⟨b2, b3⟩ := bounds_u8 w1
  obtain ⟨x, rfl⟩ := Int.eq_ofNat_of_zero_le b0
  obtain ⟨nn, rfl⟩ := Int.eq_ofNat_of_zero_le b2
  have hx64 : x < 18446744073709551616 := by omega
  obtain ⟨hx1, hx2, hx3⟩ := least_spec hx64
  have hlen := bigB_length x (least x)
  have hval := valB_bigB x (least x)
  rw [Nat.mod_eq_of_lt hx1] at hval
  have HX := Lib.hid hx64
  obtain ⟨k, hk⟩ : ∃ k : Nat, (nn : Int) % 20 = (k : Int) := ⟨nn % 20, by omega⟩
  have hk20 : k < 20 := by omega
  have hmk := run_make_row' (P := Try.prog) 22 5 (.int .u8 0) 1 Try.underlying22 Try.cells22o rfl .i64 .i64 k (by omega) (by omega)
  clear hx64 w0 w1 b1
  go_enter Try.func5, Try.ntmps5
  go_wp2_with fail
  refine (awake_any _).mono ?_
  rintro r w1 ⟨rfl, hB1⟩
  go_wp2_with fail
  refine (least_any x _ HX.out).mono ?_
  rintro r w2 ⟨v, rfl, hr, hA2, -⟩
  generalize bigB x (least x) = L at hr hlen hval
  generalize least x = n at hx1 hx2 hx3 hlen
  subst hlen
  obtain ⟨A, c, rfl⟩ := hr.shape
  have HV := Lib.hid hval
  have HP1 := Lib.hid hx1
  have HP2 := Lib.hid hx2
  clear hval hx1 hx2
  go_wp2_with fail
  refine (value_yes _ _ L _ hr (by rw [HV.out]; exact HX.out)).mono ?_
  rintro r w3 ⟨rfl, rfl⟩
  rw [HV.out]
  go_wp2_with (at_builtin; refine wpList_append_rd rfl (.tmp 28) (.tmp 29) rfl rfl w2.heap.size _ (List.replicate k 0) rfl (Own.made w2 k 0 (Nat.le_refl _) (by omega) _ (made_zeros k)) _ _ L rfl (hr.alloc _) ?h1 ?h2 ?_)
  case h1 => simp; omega
  case h2 => simp
  intro v' w4 hap
  have hA4 : Below w2.heap.size w2 w4 := ((Below.refl _ _).alloc (Nat.le_refl _) _).trans (hap.below (Own.made w2 k 0 (Nat.le_refl _) (by omega) _ (made_zeros k)) (by simp))
  obtain ⟨d4, -, -, hr4⟩ := hap.1.rd (by simp; omega)
  have hrb := hr.below' hA4
  have hB4 : Below w.heap.size w w4 := (hB1.trans (hA2.mono hB1.size)).trans (hA4.mono (Nat.le_trans hB1.size hA2.size))
  clear hap hA4 hr hA2 hB1 hmk
  go_wp2_with fail
  refine (value_yes _ _ _ _ hr4 (by rw [valB_zeros, HV.out]; exact HX.out)).mono ?_
  rintro r w5 ⟨rfl, rfl⟩
  rw [valB_zeros, HV.out]
  clear hr4
  by_cases h0 : L.length = 0
  · have hz : L = [] := List.eq_nil_of_length_eq_zero h0
    subst hz
    have hx0 : x = 0 := by have := HP1.out; simp at this; omega
    subst hx0
    go_wp2_with fail
    refine (value_no _ _ _ _ (lit9 w4) (by decide)).mono ?_
    rintro r w6 ⟨rfl, rfl⟩
    go_wp2_with fail
    refine (power_as 0 1 _ (by decide) rfl).mono ?_
    rintro r w7 ⟨rfl, rfl⟩
    go_wp2
    go_ret
    exact ⟨rfl, hB4.alloc hB4.size _⟩
  · obtain ⟨A', c', hsh, -, -, hce⟩ := id hrb
    injection hsh with e1 e2 e3
    subst e1 e3
    obtain ⟨off, rfl, hce2⟩ := hce (by omega)
    have hp2 : 0 < L.length → 256 ^ (L.length - 1) ≤ x := HP2.out
    obtain ⟨bb, hbb, hne⟩ := head_ne (by omega) HV.out hp2
    have hcell : w4.cell? ⟨w1.heap.size, off, none⟩ = some (.int .u8 (bb.toNat : Int)) := hce2 0 _ hbb
    have hgt : decide ((0 : Int) < (L.length : Int)) = true := by simp; omega
    have hpos : 0 < L.length := by omega
    have hp3 := hp2 hpos
    have hL0 : ((L.length : Int) == 0) = false := beq_eq_false_iff_ne.2 (by omega)
    clear hce hce2 hbb e2 hp2
    by_cases h8 : L.length = 8
    · have hp4 : 72057594037927936 ≤ x := by rw [h8] at hp3; exact hp3
      have hp5 : decide ((72057594037927936 : Int) ≤ (x : Int)) = true := decide_eq_true (by omega)
      have h8' : ((L.length : Int) == 8) = true := by simp; omega
      have h7 : (L.length : Int) - 1 = 7 := by omega
      clear h8 hp3
      go_wp2_with fail
      refine (value_no _ _ _ _ (lit9 w4) (by decide)).mono ?_
      rintro r w6 ⟨rfl, rfl⟩
      go_wp2_with fail
      refine (power_as 7 72057594037927936 _ (by decide) rfl).mono ?_
      rintro r w7 ⟨rfl, rfl⟩
      go_wp2
      go_ret
      exact ⟨rfl, hB4.alloc hB4.size _⟩
    · obtain ⟨P, hP⟩ : ∃ P, P = 256 ^ L.length := ⟨_, rfl⟩
      obtain ⟨m, hm⟩ : ∃ m, m + 1 = L.length := ⟨L.length - 1, by omega⟩
      obtain ⟨R, hR⟩ : ∃ R, R = 256 ^ m := ⟨_, rfl⟩
      have hx1 : x < P := by rw [hP]; exact HP1.out
      have hx2 : R ≤ x := by rw [hR]; have e : L.length - 1 = m := by omega
                             rw [e] at hp3; exact hp3
      have h8' : ((L.length : Int) == 8) = false := by simp; omega
      have h7 : (L.length : Int) - 1 = (m : Int) := by omega
      have hle : L.length ≤ 7 := by omega
      have hm6 : m ≤ 7 := by omega
      have HPP := Lib.hid hP
      have HRR := Lib.hid hR
      clear hp3 hP hR h8 hm h0
      go_wp2_with fail
      refine (value_no _ _ _ _ (lit9 w4) (by decide)).mono ?_
      rintro r w6 ⟨rfl, rfl⟩
      go_wp2_with fail
      refine (power_as _ P _ hle HPP.out).mono ?_
      rintro r w7 ⟨rfl, rfl⟩
      go_wp2_with fail
      refine (power_as _ R _ hm6 HRR.out).mono ?_
      rintro r w8 ⟨rfl, rfl⟩
      go_wp2
      go_ret
      exact ⟨rfl, hB4.alloc hB4.size _⟩

end Go.Proofs.Ytkajlicppdfegaa
