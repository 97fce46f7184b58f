/- What the laws of package tree want of TreRefA. -/
import Derived.Test.YtgipnemcmiohlaaZ0TreOpen
namespace Go.Proofs.Ytgipnemcmiohlaa
open Go.RowKit
set_option linter.unusedSimpArgs false
set_option linter.unusedVariables false
theorem Ans9.bool {b c : Bool} {w : World} {r : Ending} {w' : World} (h : Ans9 (.bool b) w r w') (e : b = c) : Ans9 (.bool c) w r w' := by subst e; exact h
set_option maxRecDepth 100000 in
set_option maxHeartbeats 1000000 in
theorem rless_name (a b : NdD) (A B : Option Addr) (m n c d : Nat) (w : World) (h1 : Go.Op.bytesLess a.name b.name = true) :
    Calls Try.prog 19 #[.agg #[.string (txt a.name), .string (txt a.key), .int .i64 a.kind, .int .u64 (a.num : Int), .string (txt a.text), .slice A m c], .agg #[.string (txt b.name), .string (txt b.key), .int .i64 b.kind, .int .u64 (b.num : Int), .string (txt b.text), .slice B n d]] w (Ans9 (.bool true) w) := by
  have hB : Below w.heap.size w ((w.alloc (.cells #[.string (txt a.name), .string (txt a.key), .int .i64 a.kind, .int .u64 (a.num : Int), .string (txt a.text), .slice A m c] 27)).alloc (.cells #[.string (txt b.name), .string (txt b.key), .int .i64 b.kind, .int .u64 (b.num : Int), .string (txt b.text), .slice B n d] 27)) := ((Below.refl _ _).alloc (Nat.le_refl _) _).alloc (by simp) _
  have HB := Lib.hid hB
  have t1 : (txt a.name).toList = a.name := txt_toList _
  have t2 : (txt b.name).toList = b.name := txt_toList _
  have t3 : (txt a.key).toList = a.key := txt_toList _
  have t4 : (txt b.key).toList = b.key := txt_toList _
  clear hB
  go_enter Try.func19, Try.ntmps19
  go_wp2
  go_ret
  exact ⟨rfl, HB.out⟩
set_option maxRecDepth 100000 in
set_option maxHeartbeats 1000000 in
theorem rless_key (a b : NdD) (A B : Option Addr) (m n c d : Nat) (w : World) (h1 : Go.Op.bytesLess a.name b.name = false) (h2 : (a.name == b.name) = true) (h3 : Go.Op.bytesLess a.key b.key = true) :
    Calls Try.prog 19 #[.agg #[.string (txt a.name), .string (txt a.key), .int .i64 a.kind, .int .u64 (a.num : Int), .string (txt a.text), .slice A m c], .agg #[.string (txt b.name), .string (txt b.key), .int .i64 b.kind, .int .u64 (b.num : Int), .string (txt b.text), .slice B n d]] w (Ans9 (.bool true) w) := by
  have hB : Below w.heap.size w ((w.alloc (.cells #[.string (txt a.name), .string (txt a.key), .int .i64 a.kind, .int .u64 (a.num : Int), .string (txt a.text), .slice A m c] 27)).alloc (.cells #[.string (txt b.name), .string (txt b.key), .int .i64 b.kind, .int .u64 (b.num : Int), .string (txt b.text), .slice B n d] 27)) := ((Below.refl _ _).alloc (Nat.le_refl _) _).alloc (by simp) _
  have HB := Lib.hid hB
  have t1 : (txt a.name).toList = a.name := txt_toList _
  have t2 : (txt b.name).toList = b.name := txt_toList _
  have t3 : (txt a.key).toList = a.key := txt_toList _
  have t4 : (txt b.key).toList = b.key := txt_toList _
  clear hB
  go_enter Try.func19, Try.ntmps19
  go_wp2
  go_ret
  exact ⟨rfl, HB.out⟩
set_option maxRecDepth 100000 in
set_option maxHeartbeats 1000000 in
theorem rless_not (a b : NdD) (A B : Option Addr) (m n c d : Nat) (w : World) (h1 : Go.Op.bytesLess a.name b.name = false) (h2 : (a.name == b.name) = true) (h3 : Go.Op.bytesLess a.key b.key = false) :
    Calls Try.prog 19 #[.agg #[.string (txt a.name), .string (txt a.key), .int .i64 a.kind, .int .u64 (a.num : Int), .string (txt a.text), .slice A m c], .agg #[.string (txt b.name), .string (txt b.key), .int .i64 b.kind, .int .u64 (b.num : Int), .string (txt b.text), .slice B n d]] w (Ans9 (.bool false) w) := by
  have hB : Below w.heap.size w ((w.alloc (.cells #[.string (txt a.name), .string (txt a.key), .int .i64 a.kind, .int .u64 (a.num : Int), .string (txt a.text), .slice A m c] 27)).alloc (.cells #[.string (txt b.name), .string (txt b.key), .int .i64 b.kind, .int .u64 (b.num : Int), .string (txt b.text), .slice B n d] 27)) := ((Below.refl _ _).alloc (Nat.le_refl _) _).alloc (by simp) _
  have HB := Lib.hid hB
  have t1 : (txt a.name).toList = a.name := txt_toList _
  have t2 : (txt b.name).toList = b.name := txt_toList _
  have t3 : (txt a.key).toList = a.key := txt_toList _
  have t4 : (txt b.key).toList = b.key := txt_toList _
  clear hB
  go_enter Try.func19, Try.ntmps19
  go_wp2
  go_ret
  exact ⟨rfl, HB.out⟩
set_option maxRecDepth 100000 in
set_option maxHeartbeats 1000000 in
theorem rless_no (a b : NdD) (A B : Option Addr) (m n c d : Nat) (w : World) (h1 : Go.Op.bytesLess a.name b.name = false) (h2 : (a.name == b.name) = false) :
    Calls Try.prog 19 #[.agg #[.string (txt a.name), .string (txt a.key), .int .i64 a.kind, .int .u64 (a.num : Int), .string (txt a.text), .slice A m c], .agg #[.string (txt b.name), .string (txt b.key), .int .i64 b.kind, .int .u64 (b.num : Int), .string (txt b.text), .slice B n d]] w (Ans9 (.bool false) w) := by
  have hB : Below w.heap.size w ((w.alloc (.cells #[.string (txt a.name), .string (txt a.key), .int .i64 a.kind, .int .u64 (a.num : Int), .string (txt a.text), .slice A m c] 27)).alloc (.cells #[.string (txt b.name), .string (txt b.key), .int .i64 b.kind, .int .u64 (b.num : Int), .string (txt b.text), .slice B n d] 27)) := ((Below.refl _ _).alloc (Nat.le_refl _) _).alloc (by simp) _
  have HB := Lib.hid hB
  have t1 : (txt a.name).toList = a.name := txt_toList _
  have t2 : (txt b.name).toList = b.name := txt_toList _
  have t3 : (txt a.key).toList = a.key := txt_toList _
  have t4 : (txt b.key).toList = b.key := txt_toList _
  clear hB
  go_enter Try.func19, Try.ntmps19
  go_wp2
  go_ret
  exact ⟨rfl, HB.out⟩
theorem rless_any (x y : Nd) (cs ds : List Value) (w : World) (hx : LieN w cs x) (hy : LieN w ds y) :
    Calls Try.prog 19 #[.agg cs.toArray, .agg ds.toArray] w (Ans9 (.bool (lessX x.1 y.1)) w) := by
  obtain ⟨A, c, rfl, -⟩ := hx.shape
  obtain ⟨B, d, rfl, -⟩ := hy.shape
  cases h1 : Go.Op.bytesLess x.1.name y.1.name with
  | true => exact (rless_name x.1 y.1 _ _ _ _ _ _ w h1).mono fun _ _ h => h.bool (by simp [lessX, lessS, stp, ltY, h1])
  | false =>
    by_cases h2 : x.1.name = y.1.name
    · cases h3 : Go.Op.bytesLess x.1.key y.1.key with
      | true => exact (rless_key x.1 y.1 _ _ _ _ _ _ w h1 (beq_iff_eq.2 h2) h3).mono fun _ _ h => h.bool (by simp [lessX, lessS, stp, ltY, h1, h2, h3])
      | false => exact (rless_not x.1 y.1 _ _ _ _ _ _ w h1 (beq_iff_eq.2 h2) h3).mono fun _ _ h => h.bool (by rw [h2] at h1; simp [lessX, lessS, stp, ltY, h1, h2, h3])
    · exact (rless_no x.1 y.1 _ _ _ _ _ _ w h1 (beq_eq_false_iff_ne.2 h2)).mono fun _ _ h => h.bool (by simp [lessX, lessS, stp, ltY, h1, h2])
end Go.Proofs.Ytgipnemcmiohlaa

