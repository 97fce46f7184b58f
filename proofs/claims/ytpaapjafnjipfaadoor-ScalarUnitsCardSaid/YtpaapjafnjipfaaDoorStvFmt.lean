/-
  strconv.FormatUint at base ten, where the library's table of powers holds what its text lays. No condition but those of each theorem.
-/
import Derived.Test.YtpaapjafnjipfaaDoorStvLayA
import Derived.Test.YtpaapjafnjipfaaDoorStvNum
import Derived.Test.YtpaapjafnjipfaaDoorSclSpec
import Derived.Lib.AppendIntMem
import Derived.Lib.SmallJoins
import Derived.Laws.IdiomStrings
import Derived.BigCall
import Derived.BigGuard
namespace Go.Proofs.YtpaapjafnjipfaaDoor
open Go.RowKit Go.Shelf Go.Sort Go.Lib
set_option linter.unusedSimpArgs false

theorem gPow : Tryd.prog.globalNamed "internal/strconv.uint64pow10" = some 3 := by kernel_rfl
theorem gSyn : Tryd.prog.globalNamed "strconv.ErrSyntax" = some 1 := by kernel_rfl
theorem gRng : Tryd.prog.globalNamed "strconv.ErrRange" = some 2 := by kernel_rfl
/-- What the listed variables hold. -/
structure Tab6 (w : World) : Prop where
  pow : Lib.TabIs Tryd.prog w "internal/strconv.uint64pow10" .u64 Lib.pow10Tab
  syn : ∃ tp p, w.var? Tryd.prog "strconv.ErrSyntax" = some #[.iface tp p]
  rng : ∃ tp p, w.var? Tryd.prog "strconv.ErrRange" = some #[.iface tp p]
  u0 : w.cell? ⟨0, 0, none⟩ = some (.int .u64 1000000)
  u1 : w.cell? ⟨0, 1, none⟩ = some (.string ⟨#[109]⟩)
  u2 : w.cell? ⟨0, 2, none⟩ = some (.int .u64 1000)
  u3 : w.cell? ⟨0, 3, none⟩ = some (.string ⟨#[107]⟩)
theorem Tab6.lt {w : World} (h : Tab6 w) : 0 < w.heap.size := World.block_lt_of_cell? w _ h.u0
theorem Tab6.below {w w' : World} (h : Tab6 w) (hb : Below w.heap.size w w') : Tab6 w' where
  pow := Go.Joins.var_stays gPow h.pow hb (Nat.le_refl _)
  syn := by obtain ⟨tp, p, e⟩ := h.syn; exact ⟨tp, p, Go.Joins.var_stays gSyn e hb (Nat.le_refl _)⟩
  rng := by obtain ⟨tp, p, e⟩ := h.rng; exact ⟨tp, p, Go.Joins.var_stays gRng e hb (Nat.le_refl _)⟩
  u0 := (hb.cell (p := ⟨0, 0, none⟩) h.lt).trans h.u0
  u1 := (hb.cell (p := ⟨0, 1, none⟩) h.lt).trans h.u1
  u2 := (hb.cell (p := ⟨0, 2, none⟩) h.lt).trans h.u2
  u3 := (hb.cell (p := ⟨0, 3, none⟩) h.lt).trans h.u3

theorem ndig_any (u : Nat) (h1 : 1 ≤ u) (h2 : u < 18446744073709551616) (w : World) (htab : Lib.TabIs Tryd.prog w "internal/strconv.uint64pow10" .u64 Lib.pow10Tab) :
    Calls Tryd.prog 37 #[.int .u64 (u : Int)] w fun e w' => e = .returned (.int .i64 (Lib.nDigits u)) ∧ w' = w :=
  Any.internal_strconv_numDigits sl284 u h1 h2 w htab
theorem small_any (i : Nat) (h : i < 100) (w : World) :
    Calls Tryd.prog 36 #[.int .i64 (i : Int)] w fun e w' => e = .returned (.string (txt (dec i))) ∧ w' = w :=
  (Any.internal_strconv_small sl283 i h w).mono fun e w' ⟨he, hw⟩ => ⟨by rw [he, decDigits_dec]; rfl, hw⟩
theorem fmt10_any (blk off cap : Nat) (u : Nat) (d : Array UInt8) (w : World) (hH : Holds (fun (b : UInt8) => Value.int .u8 (b.toNat : Int)) w blk off d) (hu : u < 10 ^ d.size) (hu64 : u < 18446744073709551616) (hsz : d.size < 4611686018427387904) :
    Calls Tryd.prog 38 #[.slice (some ⟨blk, off, none⟩) d.size cap, .int .u64 (u : Int)] w fun e w' =>
      e = .returned (.tuple #[]) ∧ ∃ (n v' : Nat) (dk : Array UInt8), w' = (putRow (fun (b : UInt8) => Value.int .u8 (b.toNat : Int)) w blk off dk).drewN n ∧ FmtInv d.size u 0 v' dk :=
  Any.internal_strconv_formatBase10 sl285 blk off cap u d w hH hu hu64 hsz
theorem mul_any (x y : Nat) (hx : x < 18446744073709551616) (hy : y < 18446744073709551616) (w : World) :
    Calls Tryd.prog 27 #[.int .u64 (x : Int), .int .u64 (y : Int)] w fun e w' => e = .returned (.tuple #[.int .u64 ((x * y / 18446744073709551616 : Nat) : Int), .int .u64 ((x * y % 18446744073709551616 : Nat) : Int)]) ∧ w' = w :=
  Any.bits_Mul64 sl264 x y hx hy w

set_option maxHeartbeats 4000000 in
set_option maxRecDepth 100000 in
theorem ifmt_small (u : Nat) (hu : u < 100) (w : World) :
    Calls Tryd.prog 28 #[.int .u64 (u : Int), .int .i64 10] w fun r w' => r = .returned (.string (txt (dec u))) ∧ Below w.heap.size w w' := by
  have i1 : (u : Int) < 100 := by omega
  have hw1 : IntKind.i64.wrap (u : Int) = (u : Int) := by rw [IntKind.wrap_i64]; omega
  go_enter Tryd.func28, Tryd.ntmps28
  go_wp2_with fail
  refine (small_any u hu _).mono ?_
  rintro e w' ⟨rfl, rfl⟩
  go_wp2
  go_ret
  exact ⟨rfl, Below.refl _ _⟩

set_option maxHeartbeats 4000000 in
set_option maxRecDepth 100000 in
theorem ifmt_big (u : Nat) (hu : 100 ≤ u) (hu64 : u < 18446744073709551616) (w : World) (htab : Lib.TabIs Tryd.prog w "internal/strconv.uint64pow10" .u64 Lib.pow10Tab) :
    Calls Tryd.prog 28 #[.int .u64 (u : Int), .int .i64 10] w fun r w' => r = .returned (.string (txt (dec u))) ∧ Below w.heap.size w w' := by
  have hu1 : 1 ≤ u := by omega
  have hnd20 : Lib.nDigits u ≤ 20 := by have := Lib.numDigits_eq u hu1 hu64; split at this <;> omega
  have hal : Tryd.prog.arrayLen 55 = 24 := by simp [Program.arrayLen, Tryd.underlying55]
  have hsl : ∀ W, (Instr.sliceAt 55 (.pointer (some ⟨w.heap.size, 0, none⟩)) none (some (.int .i64 (Lib.nDigits u : Int))) none).run Tryd.prog W = .ok (.slice (some ⟨w.heap.size, 0, none⟩) (Lib.nDigits u) 24) W := fun W => by
    rw [run_sliceAt_array_h W 55 ⟨w.heap.size, 0, none⟩ (by simp [Program.arrayLen, Program.elem, Tryd.underlying55]) .i64 (Lib.nDigits u : Int) (by omega) (by rw [hal]; omega)]
    go_simp
  have hH0 := Lib.holds_zero0 w 55 (Lib.nDigits u) (by omega)
  have hfmt := fmt10_any w.heap.size 0 24 u (Array.replicate (Lib.nDigits u) 0) (w.alloc (.cells Lib.zeros24 55)) hH0 (by rw [Array.size_replicate]; exact Lib.lt_pow_nDigits u) hu64 (by rw [Array.size_replicate]; omega)
  rw [Array.size_replicate] at hfmt
  have HH0 := Lib.hid hH0
  have iu : (100 : Int) ≤ (u : Int) := by omega
  clear hH0 hal
  go_enter Tryd.func28, Tryd.ntmps28
  go_wp2_with fail
  refine (ndig_any u hu1 hu64 _ (Lib.tabIs_alloc htab _)).mono ?_
  rintro e w' ⟨rfl, rfl⟩
  go_wp2_with fail
  refine hfmt.mono ?_
  rintro e w' ⟨rfl, k, v', dk, rfl, hF⟩
  have hcv : (convert 30 9 (.slice (some ⟨w.heap.size, 0, none⟩) (Lib.nDigits u) 24)).run Tryd.prog ((putRow (fun (b : UInt8) => Value.int .u8 (b.toNat : Int)) (w.alloc (.cells Lib.zeros24 55)) w.heap.size 0 dk).drewN k) = .ok (.string ⟨(Lib.decDigits u).toArray⟩) ((putRow (fun (b : UInt8) => Value.int .u8 (b.toNat : Int)) (w.alloc (.cells Lib.zeros24 55)) w.heap.size 0 dk).drewN k) := by
    have h := run_convert_bytes_back (P := Tryd.prog) ((putRow (fun (b : UInt8) => Value.int .u8 (b.toNat : Int)) (w.alloc (.cells Lib.zeros24 55)) w.heap.size 0 dk).drewN k) 30 9 5 ⟨w.heap.size, 0, none⟩ 24 (Lib.decDigits u) Tryd.underlying30 Tryd.underlying5 Tryd.underlying9 (fun j hj => by
      rw [Lib.row_is_numeral hF j hj, Lib.add_plain, World.cell?_drewN]
      exact cell?_putRow (fun (b : UInt8) => Value.int .u8 (b.toNat : Int)) _ w.heap.size 0 _ dk HH0.out (by rw [hF.size, Array.size_replicate]) j (by rw [hF.size]; rw [Lib.decDigits_length] at hj; exact hj))
    rw [Lib.decDigits_length] at h
    exact h
  obtain ⟨os, eo⟩ := Lib.fin_at w (.cells Lib.zeros24 55) dk k 0
  have hB2 : Below w.heap.size w ((putRow (fun (b : UInt8) => Value.int .u8 (b.toNat : Int)) (w.alloc (.cells Lib.zeros24 55)) w.heap.size 0 dk).drewN k) := by rw [eo]; exact Lib.below_grow w.heap.size w (Nat.le_refl _) k os
  have HB2 := Lib.hid hB2
  clear hB2 eo
  go_wp2
  go_ret
  exact ⟨by rw [decDigits_dec]; rfl, HB2.out⟩

theorem format_any (u : Nat) (hu64 : u < 18446744073709551616) (w : World) (hT : Tab6 w) :
    Calls Tryd.prog 23 #[.int .u64 (u : Int), .int .i64 10] w fun r w' => r = .returned (.string (txt (dec u))) ∧ Below w.heap.size w w' := by
  have H : Hid (Calls Tryd.prog 28 #[.int .u64 (u : Int), .int .i64 10] w fun r w' => r = .returned (.string (txt (dec u))) ∧ Below w.heap.size w w') := Lib.hid (by
    by_cases h : u < 100
    · exact ifmt_small u h w
    · exact ifmt_big u (by omega) hu64 w hT.pow)
  clear hT
  go_enter Tryd.func23, Tryd.ntmps23
  go_wp2_with fail
  refine H.out.mono ?_
  rintro r w1 ⟨rfl, hB⟩
  have HB := Lib.hid hB
  clear hB H
  go_wp2
  go_ret
  exact ⟨rfl, HB.out⟩
/-- scalar.ShowUint. -/
theorem shows_any (x : Nat) (hx : x < 18446744073709551616) (w : World) (hT : Tab6 w) :
    Calls Tryd.prog 14 #[.int .u64 (x : Int)] w fun r w' => r = .returned (.string (txt (dec x))) ∧ Below w.heap.size w w' := by
  have H := Lib.hid (format_any x hx w hT)
  clear hT
  go_enter Tryd.func14, Tryd.ntmps14
  go_wp2_with fail
  refine H.out.mono ?_
  rintro r w1 ⟨rfl, hB⟩
  have HB := Lib.hid hB
  clear hB H
  go_wp2
  go_ret
  exact ⟨rfl, HB.out⟩
end Go.Proofs.YtpaapjafnjipfaaDoor
