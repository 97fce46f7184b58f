/-
  What package octet's windows answer: Open, Num, Byte, Bytes and Sub, of a window with what it has left and its error, and of none. No condition but those of each theorem.
-/
import Derived.Test.YtkajlicppdfegaaOctD
namespace Go.Proofs.Ytkajlicppdfegaa
open Go.RowKit

/-! ### Open -/
def OpenPost (l : List UInt8) (w : World) (r : Ending) (w' : World) : Prop :=
  r = .returned (.pointer (some ⟨w.heap.size + 1, 0, none⟩)) ∧ Win w' (w.heap.size + 1) w.heap.size l 0 ∧ Below w.heap.size w w' ∧ Sz w' (w.heap.size + 2)

theorem open_any (d : Nat) (v : Value) (l : List UInt8) (w : World) (h : Rd w d v l) : Calls Try.prog 8 #[v] w (OpenPost l w) := by
  have hlen := h.len
  go_enter Try.func8, Try.ntmps8
  go_wp2_with (go_at_call 24; refine (copied_any d v l _ h).mono ?_; rintro r w1 ⟨rfl, hb, hbel, hs⟩)
  go_ret
  have hs' : w1.heap.size = w.heap.size + 1 := hs
  refine ⟨by rw [← hs']; rfl, ⟨_, by rw [← hs']; exact Blk.new _ _ _, (Rd.of_blk hb hlen).alloc _⟩, hbel.alloc (by omega) _, by simp [Sz, hs']⟩

/-! ### Num -/
/-- What Num answers, what is left, and the error. -/
def nm (l : List UInt8) (e n : Int) : Nat × List UInt8 × Int :=
  if e = 0 ∧ ¬ (1 ≤ n ∧ n ≤ 8) then (0, l, 1) else (valB (nx l e n).1, (nx l e n).2.1, (nx l e n).2.2)

theorem nx_err {l : List UInt8} {e n : Int} (h : e ≠ 0) : nx l e n = ([], l, e) := by simp [nx, h]
theorem nx_neg {l : List UInt8} {n : Int} (h : n < 0) : nx l 0 n = ([], l, 1) := by simp [nx, h]
theorem nx_short {l : List UInt8} {n : Int} (h : 0 ≤ n) (h2 : (l.length : Int) < n) : nx l 0 n = ([], l, 10) := by simp [nx, h2]; omega
theorem nx_ok {l : List UInt8} {n : Int} (h : 0 ≤ n) (h2 : n ≤ l.length) : nx l 0 n = (l.take n.toNat, l.drop n.toNat, 0) := by
  have a : ¬ n < 0 := by omega
  have b : ¬ (l.length : Int) < n := by omega
  simp [nx, a, b]
theorem nx_len (l : List UInt8) (e n : Int) : ((nx l e n).1.length : Int) ≤ max n 0 := by
  unfold nx
  split
  · simp; omega
  · split
    · simp; omega
    · split
      · simp; omega
      · simp; omega
theorem nx_len' (l : List UInt8) (e n : Int) : (nx l e n).1.length ≤ l.length := by
  unfold nx
  split
  · simp
  · split
    · simp
    · split
      · simp
      · simp; omega

def NumPost (g d : Nat) (l : List UInt8) (e n : Int) (w : World) (r : Ending) (w' : World) : Prop :=
  r = .returned (.int .u64 ((nm l e n).1 : Int)) ∧ Win w' g d (nm l e n).2.1 (nm l e n).2.2 ∧ w.grownBy w' (some g) ∧ Sz w' w.heap.size

theorem pow_val {l : List UInt8} (h : l.length ≤ 8) : valB l < 18446744073709551616 :=
  Nat.lt_of_lt_of_le (valB_lt l) (Nat.le_trans (pow_mono h) (by decide))

theorem num_any (g d : Nat) (l : List UInt8) (e n : Int) (w : World) (h : Win w g d l e) (hd : d ≠ g) :
    Calls Try.prog 11 #[.pointer (some ⟨g, 0, none⟩), .int .i64 n] w (NumPost g d l e n w) := by
  by_cases he : e = 0
  · subst he
    by_cases hf : 1 ≤ n ∧ n ≤ 8
    · have hb := fits_yes hf.1 hf.2
      have hl := nx_len l 0 n
      have hnm : nm l 0 n = (valB (nx l 0 n).1, (nx l 0 n).2.1, (nx l 0 n).2.2) := by simp [nm, hf]
      have hval : valB (nx l 0 n).1 < 18446744073709551616 := pow_val (by omega)
      have HN := Lib.hid hnm
      have HV := Lib.hid hval
      clear hnm hval hf hl
      go_enter Try.func11, Try.ntmps11
      go_wp2_with (first | (go_at_call 17; refine (err_any g d l _ _ h).mono ?_; rintro r w' ⟨rfl, rfl⟩) | (go_at_call 26; refine (fits_any _ _).mono ?_; rintro r w' ⟨rfl, rfl⟩) | (go_at_call 27; refine (next_any g d l 0 n _ h hd).mono ?_; rintro r w1 ⟨v, rfl, hr, hwin, hg, hs⟩) | (go_at_call 23; refine (value_yes d v _ _ hr HV.out).mono ?_; rintro r w' ⟨rfl, rfl⟩))
      go_ret
      exact ⟨by rw [HN.out]; rfl, by rw [HN.out]; exact hwin, hg, hs⟩
    · have hb := fits_no hf
      have hnm : nm l 0 n = (0, l, 1) := by simp [nm]; omega
      have hx : nx l 1 n = ([], l, 1) := nx_err (by decide)
      obtain ⟨vv, hblk, hrr⟩ := h
      have hblk' := hblk
      have h1 : w.cell? ⟨g, 1, none⟩ = some (.int .i64 0) := by rw [hblk.cell]; rfl
      have f1 : w.frozen? ⟨g, 1, none⟩ = false := hblk.frozen 1
      have hwin : Win (w.setCell ⟨g, 1, none⟩ (.int .i64 1)) g d l 1 := ⟨_, hblk.set_ 1 _, hrr.setCell (by simpa using hd) _⟩
      have hnext := next_any g d l 1 n _ hwin hd
      have HN := Lib.hid hnm
      have HX := Lib.hid hx
      have HC := Lib.hid hnext
      have h0 : Win w g d l 0 := ⟨vv, hblk', hrr⟩
      clear hnm hx hnext hf
      go_enter Try.func11, Try.ntmps11
      go_wp2_with (first | (go_at_call 17; refine (err_any g d l _ _ h0).mono ?_; rintro r w' ⟨rfl, rfl⟩) | (go_at_call 26; refine (fits_any _ _).mono ?_; rintro r w' ⟨rfl, rfl⟩) | (go_at_call 27; refine (HC.out).mono ?_; rintro r w1 ⟨v, rfl, hr, hwin1, hg, hs⟩; rw [HX.out] at hr hwin1) | (go_at_call 23; refine (value_yes d v _ _ hr (by simp [valB])).mono ?_; rintro r w' ⟨rfl, rfl⟩))
      go_ret
      refine ⟨by rw [HN.out]; rfl, by rw [HN.out]; exact hwin1, (grown_set _).trans hg, ?_⟩
      have hs' : w1.heap.size = (w.setCell ⟨g, 1, none⟩ (.int .i64 1)).heap.size := hs
      simpa [Sz, World.setCell] using hs'
  · have hb : (e == 0) = false := by simpa using he
    have hx : nx l e n = ([], l, e) := nx_err he
    have hnm : nm l e n = (0, l, e) := by simp [nm, he, hx, valB]
    have HN := Lib.hid hnm
    have HX := Lib.hid hx
    clear hnm hx
    go_enter Try.func11, Try.ntmps11
    go_wp2_with (first | (go_at_call 17; refine (err_any g d l _ _ h).mono ?_; rintro r w' ⟨rfl, rfl⟩) | (go_at_call 27; refine (next_any g d l e n _ h hd).mono ?_; rintro r w1 ⟨v, rfl, hr, hwin, hg, hs⟩; rw [HX.out] at hr hwin) | (go_at_call 23; refine (value_yes d v _ _ hr (by simp [valB])).mono ?_; rintro r w' ⟨rfl, rfl⟩))
    go_ret
    exact ⟨by rw [HN.out]; rfl, by rw [HN.out]; exact hwin, hg, hs⟩

end Go.Proofs.Ytkajlicppdfegaa
