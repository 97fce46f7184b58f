/-
  scalar.Rate. No condition but those of each theorem.
-/
import Derived.Test.YtpaapjafnjipfaaDoorStvRat
namespace Go.Proofs.YtpaapjafnjipfaaDoor
open Go.RowKit
set_option linter.unusedSimpArgs false

def unitsV : Value := .agg #[.int .u64 1000000, .string ⟨#[109]⟩, .int .u64 1000, .string ⟨#[107]⟩]
theorem unit_at0 (W : World) : (Instr.index 38 (.agg #[.int .u64 1000000, .string ⟨#[109]⟩, .int .u64 1000, .string ⟨#[107]⟩]) (.int .i64 0)).run Tryd.prog W = .ok (.agg #[.int .u64 1000000, .string ⟨#[109]⟩]) W := by kernel_rfl
theorem unit_at1 (W : World) : (Instr.index 38 (.agg #[.int .u64 1000000, .string ⟨#[109]⟩, .int .u64 1000, .string ⟨#[107]⟩]) (.int .i64 1)).run Tryd.prog W = .ok (.agg #[.int .u64 1000, .string ⟨#[107]⟩]) W := by kernel_rfl
def RateP (s : List UInt8) (w : World) (r : Ending) (w' : World) : Prop := r = .returned (optR (rateX s)) ∧ Below w.heap.size w w'
/-- As far as the units were looked at. -/
def unL (s : List UInt8) (k : Nat) : Prop := (0 < k → s.getLast? ≠ some 109) ∧ (1 < k → s.getLast? ≠ some 107)
set_option maxHeartbeats 2000000 in
set_option maxRecDepth 100000 in
theorem rate_any (s : List UInt8) (hs : s.length ≤ 100000) (w : World) (hT : Tab6 w) :
    Calls Tryd.prog 10 #[.string (txt s)] w (RateP s w) := by
  have HT := Lib.hid hT
  have u0 := hT.u0
  have u1 := hT.u1
  have u2 := hT.u2
  have u3 := hT.u3
  clear hT
  go_enter Tryd.func10, Tryd.ntmps10
  go_wp2
  have e0 := unit_at0
  have e1 := unit_at1
  have n109 : (txt [109]) = (⟨#[109]⟩ : ByteArray) := rfl
  have n107 : (txt [107]) = (⟨#[107]⟩ : ByteArray) := rfl
  rcases unit_ways s with ⟨t, rfl, he⟩ | ⟨t, rfl, he⟩ | ⟨he, hn1, hn2⟩
  · have HV : Hid (rateX (t ++ [109]) = timesX t 1000000) := Lib.hid (by rw [rate_times, he])
    have ht : t.length ≤ 100000 := by rw [List.length_append] at hs; omega
    clear he
    go_loopw [9] (fun i wr => i = .int .i64 0 ∧ Below w.heap.size w wr) (fun _ _ => 0)
    case atStart => exact ⟨rfl, Below.refl _ _⟩
    case round =>
      obtain ⟨rfl, hB⟩ := hrel
      have HB := Lib.hid hB
      clear hB
      go_wp2_with fail
      refine (cut_hit t 109 _ ht).mono ?_
      rintro r w1 ⟨rfl, rfl⟩
      have HT2 : Hid (Tab6 (wr.alloc (.cells #[.int .u64 1000000, .string ⟨#[109]⟩] 37))) := Lib.hid (HT.out.below (HB.out.alloc HB.out.size _ : Below w.heap.size w (wr.alloc (.cells #[.int .u64 1000000, .string ⟨#[109]⟩] 37))))
      have HC := Lib.hid (times_any t 1000000 (by omega) (by omega) ht _ HT2.out)
      go_wp2_with fail
      refine HC.out.mono ?_
      rintro r w2 ⟨rfl, hB2⟩
      have HB2 : Hid (Below w.heap.size w w2) := Lib.hid ((HB.out.alloc HB.out.size _ : Below w.heap.size w (wr.alloc (.cells #[.int .u64 1000000, .string ⟨#[109]⟩] 37))).trans (hB2.mono (HB.out.alloc HB.out.size _ : Below w.heap.size w (wr.alloc (.cells #[.int .u64 1000000, .string ⟨#[109]⟩] 37))).size))
      obtain ⟨x, b, hx⟩ := opt_shape (timesX t 1000000)
      have HX : Hid (optR (rateX (t ++ [109])) = .tuple #[.int .u64 (x : Int), .bool b]) := Lib.hid (by rw [HV.out, hx])
      rw [hx]
      clear hx hB2 HC HT2 HT
      go_wp2
      go_ret2
      exact ⟨by rw [HX.out]; rfl, HB2.out⟩
  · have HV : Hid (rateX (t ++ [107]) = timesX t 1000) := Lib.hid (by rw [rate_times, he])
    have ht : t.length ≤ 100000 := by rw [List.length_append] at hs; omega
    have HN : Hid ((t ++ [107]).getLast? ≠ some 109) := Lib.hid (by simp)
    have HS := Lib.hid hs
    clear he hs
    go_loopw [9] (fun i wr => (i = .int .i64 0 ∨ i = .int .i64 1) ∧ Below w.heap.size w wr) (fun i _ => 1 - (intOf i).toNat)
    case atStart => exact ⟨.inl rfl, Below.refl _ _⟩
    case round =>
      obtain ⟨hi, hB⟩ := hrel
      have HB := Lib.hid hB
      clear hB
      rcases hi with rfl | rfl
      · go_wp2_with fail
        refine (cut_miss HN.out _ HS.out).mono ?_
        rintro r w1 ⟨⟨q, rfl⟩, rfl⟩
        have HB1 : Hid (Below w.heap.size w (wr.alloc (.cells #[.int .u64 1000000, .string ⟨#[109]⟩] 37))) := Lib.hid (HB.out.alloc HB.out.size _)
        go_wp2
        go_roundw
        case rel => exact ⟨.inr (by go_num), HB1.out⟩
        case measure => simp [intOf]
      go_wp2_with fail
      refine (cut_hit t 107 _ ht).mono ?_
      rintro r w1 ⟨rfl, rfl⟩
      have HT2 : Hid (Tab6 (wr.alloc (.cells #[.int .u64 1000, .string ⟨#[107]⟩] 37))) := Lib.hid (HT.out.below (HB.out.alloc HB.out.size _ : Below w.heap.size w (wr.alloc (.cells #[.int .u64 1000, .string ⟨#[107]⟩] 37))))
      have HC := Lib.hid (times_any t 1000 (by omega) (by omega) ht _ HT2.out)
      go_wp2_with fail
      refine HC.out.mono ?_
      rintro r w2 ⟨rfl, hB2⟩
      have HB2 : Hid (Below w.heap.size w w2) := Lib.hid ((HB.out.alloc HB.out.size _ : Below w.heap.size w (wr.alloc (.cells #[.int .u64 1000, .string ⟨#[107]⟩] 37))).trans (hB2.mono (HB.out.alloc HB.out.size _ : Below w.heap.size w (wr.alloc (.cells #[.int .u64 1000, .string ⟨#[107]⟩] 37))).size))
      obtain ⟨x, b, hx⟩ := opt_shape (timesX t 1000)
      have HX : Hid (optR (rateX (t ++ [107])) = .tuple #[.int .u64 (x : Int), .bool b]) := Lib.hid (by rw [HV.out, hx])
      rw [hx]
      clear hx hB2 HC HT2 HT
      go_wp2
      go_ret2
      exact ⟨by rw [HX.out]; rfl, HB2.out⟩
  · have HU := Lib.hid (rate_one he)
    have HN1 := Lib.hid hn1
    have HN2 := Lib.hid hn2
    have HS := Lib.hid hs
    clear he hn1 hn2 hs
    go_loopw [9] (fun i wr => (i = .int .i64 0 ∨ i = .int .i64 1 ∨ i = .int .i64 2) ∧ Below w.heap.size w wr) (fun i _ => 2 - (intOf i).toNat)
    case atStart => exact ⟨.inl rfl, Below.refl _ _⟩
    case round =>
      obtain ⟨hi, hB⟩ := hrel
      have HB := Lib.hid hB
      clear hB
      rcases hi with rfl | rfl | rfl
      · go_wp2_with fail
        refine (cut_miss HN1.out _ HS.out).mono ?_
        rintro r w1 ⟨⟨q, rfl⟩, rfl⟩
        have HB1 : Hid (Below w.heap.size w (wr.alloc (.cells #[.int .u64 1000000, .string ⟨#[109]⟩] 37))) := Lib.hid (HB.out.alloc HB.out.size _)
        go_wp2
        go_roundw
        case rel => exact ⟨.inr (.inl (by go_num)), HB1.out⟩
        case measure => simp [intOf]
      · go_wp2_with fail
        refine (cut_miss HN2.out _ HS.out).mono ?_
        rintro r w1 ⟨⟨q, rfl⟩, rfl⟩
        have HB1 : Hid (Below w.heap.size w (wr.alloc (.cells #[.int .u64 1000, .string ⟨#[107]⟩] 37))) := Lib.hid (HB.out.alloc HB.out.size _)
        go_wp2
        go_roundw
        case rel => exact ⟨.inr (.inr (by go_num)), HB1.out⟩
        case measure => simp [intOf]
      · have HC := Lib.hid (uint_any s HS.out wr (HT.out.below HB.out))
        go_wp2_with fail
        refine HC.out.mono ?_
        rintro r w2 ⟨rfl, hB2⟩
        have HB2 : Hid (Below w.heap.size w w2) := Lib.hid (HB.out.trans (hB2.mono HB.out.size))
        obtain ⟨x, b, hx⟩ := opt_shape (uintX s)
        have HX : Hid (optR (rateX s) = .tuple #[.int .u64 (x : Int), .bool b]) := Lib.hid (by rw [HU.out, hx])
        rw [hx]
        clear hx hB2 HC HT
        go_wp2
        go_ret2
        exact ⟨by rw [HX.out]; rfl, HB2.out⟩
end Go.Proofs.YtpaapjafnjipfaaDoor
