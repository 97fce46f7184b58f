/-
  What package octet's windows answer, the rest: Byte, Bytes, Sub, and all of a nil window. No condition but those of each theorem.
-/
import Derived.Test.YtdpaijechogmlaaOctE
namespace Go.Proofs.Ytdpaijechogmlaa
open Go.RowKit

/-! ### Byte -/
theorem nm_one_lt (l : List UInt8) (e : Int) : (nm l e 1).1 < 256 := by
  have hl := nx_len l e 1
  have h := valB_lt (nx l e 1).1
  have h2 : valB (nx l e 1).1 < 256 := Nat.lt_of_lt_of_le h (Nat.le_trans (pow_mono (b := 1) (by omega)) (by decide))
  unfold nm
  split
  · show 0 < 256
    decide
  · exact h2

def BytePost (g d : Nat) (l : List UInt8) (e : Int) (w : World) (r : Ending) (w' : World) : Prop :=
  r = .returned (.int .u8 ((nm l e 1).1 : Int)) ∧ Win w' g d (nm l e 1).2.1 (nm l e 1).2.2 ∧ w.grownBy w' (some g) ∧ Sz w' w.heap.size

/-! ### Bytes -/
def BytesPost (g d : Nat) (l : List UInt8) (e n : Int) (w : World) (r : Ending) (w' : World) : Prop :=
  ∃ v, r = .returned v ∧ Rd w' w.heap.size v (nx l e n).1 ∧ Win w' g d (nx l e n).2.1 (nx l e n).2.2 ∧ w.grownBy w' (some g) ∧ Sz w' (w.heap.size + 1)

theorem grown_below {a b c : World} {g : Nat} (h : a.grownBy b (some g)) (k : Below b.heap.size b c) : a.grownBy c (some g) :=
  ⟨k.os.trans h.os, k.tape.trans h.tape, k.output.trans h.output, Nat.le_trans h.size k.size, fun i hi hne => (k.block i (Nat.lt_of_lt_of_le hi h.size)).trans (h.block i hi hne)⟩

theorem bytes_any (g d : Nat) (l : List UInt8) (e n : Int) (w : World) (h : Win w g d l e) (hd : d ≠ g) :
    Calls Try.prog 32 #[.pointer (some ⟨g, 0, none⟩), .int .i64 n] w (BytesPost g d l e n w) := by
  go_enter Try.func32, Try.ntmps32
  go_wp2_with (first | (go_at_call 39; refine (next_any g d l e n _ h hd).mono ?_; rintro r w1 ⟨v, rfl, hr, hwin, hg, hs⟩) | (go_at_call 38; refine (copied_any d v _ _ hr).mono ?_; rintro r w2 ⟨rfl, hb, hbel, hs2⟩))
  go_ret
  have e1 : w1.heap.size = w.heap.size := hs
  have e2 : w2.heap.size = w1.heap.size + 1 := hs2
  exact ⟨_, rfl, by rw [← e1]; exact Rd.of_blk hb hr.len, hwin.below hbel, grown_below hg hbel, by show _ = _; rw [e2, e1]⟩

/-! ### Sub -/
def SubPost (g d : Nat) (l : List UInt8) (e n : Int) (w : World) (r : Ending) (w' : World) : Prop :=
  r = .returned (.pointer (some ⟨w.heap.size + 1, 0, none⟩)) ∧ Win w' (w.heap.size + 1) w.heap.size (nx l e n).1 (nx l e n).2.2 ∧
    Win w' g d (nx l e n).2.1 (nx l e n).2.2 ∧ w.grownBy w' (some g) ∧ Sz w' (w.heap.size + 2)

theorem sub_any (g d : Nat) (l : List UInt8) (e n : Int) (w : World) (h : Win w g d l e) (hd : d ≠ g) :
    Calls Try.prog 37 #[.pointer (some ⟨g, 0, none⟩), .int .i64 n] w (SubPost g d l e n w) := by
  go_enter Try.func37, Try.ntmps37
  go_wp2_with (first | (go_at_call 32; refine (bytes_any g d l e n _ h hd).mono ?_; rintro r w1 ⟨v, rfl, hr, hwin, hg, hs⟩; obtain ⟨A, c, rfl, hr'⟩ := id hr; clear hr') | (go_at_call 42; refine (err_any g d _ _ _ hwin).mono ?_; rintro r w2 ⟨rfl, rfl⟩))
  go_ret
  have e1 : w1.heap.size = w.heap.size + 1 := hs
  refine ⟨by rw [← e1]; rfl, ⟨_, by rw [← e1]; exact Blk.new _ _ _, hr.alloc _⟩, hwin.alloc _, ?_, by simp [Sz, e1]⟩
  exact grown_below hg ((Below.refl _ _).alloc (Nat.le_refl _) _)

/-! ### none -/
theorem next_nil (n : Int) (w : World) : Calls Try.prog 39 #[.pointer none, .int .i64 n] w fun r w' => r = .returned (.slice none 0 0) ∧ w = w' := by
  go_enter Try.func39, Try.ntmps39
  go_wp2_with (go_at_call 42; refine (err_nil _).mono ?_; rintro r w' ⟨rfl, rfl⟩)
  go_ret
  exact ⟨rfl, rfl⟩
def NilBytes (w : World) (r : Ending) (w' : World) : Prop := r = .returned (.slice (some ⟨w.heap.size, 0, none⟩) 0 0) ∧ Below w.heap.size w w' ∧ Sz w' (w.heap.size + 1)
theorem bytes_nil (n : Int) (w : World) : Calls Try.prog 32 #[.pointer none, .int .i64 n] w (NilBytes w) := by
  go_enter Try.func32, Try.ntmps32
  go_wp2_with (first | (go_at_call 39; refine (next_nil _ _).mono ?_; rintro r w' ⟨rfl, rfl⟩) | (go_at_call 38; refine (copied_any 0 _ [] _ (Rd.nil _ _)).mono ?_; rintro r w2 ⟨rfl, hb, hbel, hs2⟩))
  go_ret
  exact ⟨rfl, hbel, hs2⟩
def NilSub (w : World) (r : Ending) (w' : World) : Prop := r = .returned (.pointer (some ⟨w.heap.size + 1, 0, none⟩)) ∧ Win w' (w.heap.size + 1) w.heap.size [] 1 ∧ Below w.heap.size w w' ∧ Sz w' (w.heap.size + 2)
theorem sub_nil (n : Int) (w : World) : Calls Try.prog 37 #[.pointer none, .int .i64 n] w (NilSub w) := by
  go_enter Try.func37, Try.ntmps37
  go_wp2_with (first | (go_at_call 32; refine (bytes_nil n _).mono ?_; rintro r w1 ⟨rfl, hbel, hs⟩) | (go_at_call 42; refine (err_nil _).mono ?_; rintro r w2 ⟨rfl, rfl⟩))
  go_ret
  have e1 : w1.heap.size = w.heap.size + 1 := hs
  refine ⟨by rw [← e1]; rfl, ⟨_, by rw [← e1]; exact Blk.new _ _ _, ⟨_, _, rfl, Nat.le_refl _, by simp, fun hp => absurd hp (by simp)⟩⟩, hbel.alloc (by omega) _, by simp [Sz, e1]⟩

end Go.Proofs.Ytdpaijechogmlaa
