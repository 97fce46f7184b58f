/-
  The laws' own example of layer 2 answers true, and makes new memory alone: for every world. No condition.
-/
import Derived.Test.YtpgoikclhegglaaVarD
import Derived.Test.YtpgoikclhegglaaOctG
import Derived.Outline
namespace Go.Proofs.Ytpgoikclhegglaa
open Go.RowKit

theorem lit_rd (l : List UInt8) (hl : l.length ≤ 1000) (cs : Array Value) (e : cs = (l.map byteV).toArray) (n : Nat) (hn : n = l.length) (w : World) : Rd (w.alloc (.cells cs 5)) w.heap.size (.slice (some ⟨w.heap.size, 0, none⟩) n n) l := by
  subst e hn
  exact Rd.of_blk (Blk.new w 5 _) (by omega)

theorem Rd.shape2 {w : World} {d : Nat} {v : Value} {l : List UInt8} (h : Rd w d v l) : ∃ A c, v = .slice A l.length c := by
  obtain ⟨A, c, e, _⟩ := h
  exact ⟨A, c, e⟩
/-- What a call of a window's own leaves of what lay below. -/
theorem below_grown2 {B g : Nat} {a b c : World} (h : Below B a b) (k : b.grownBy c (some g)) (hB : B ≤ b.heap.size) (hg : B ≤ g) : Below B a c :=
  h.grown k hB fun _ e => by injection e with e; omega

theorem got1 : outV (getV [172, 2, 9]) = .returned (.tuple #[.int .u64 300, .int .i64 2, .int .i64 0]) := by rw [show getV [172, 2, 9] = (300, 2, 0) from by decide]; rfl
theorem got2 : outV (getV [128, 0]) = .returned (.tuple #[.int .u64 0, .int .i64 0, .int .i64 11]) := by rw [show getV [128, 0] = (0, 0, 11) from by decide]; rfl
theorem got3 : outV (getV [128]) = .returned (.tuple #[.int .u64 0, .int .i64 0, .int .i64 10]) := by rw [show getV [128] = (0, 0, 10) from by decide]; rfl
theorem got4 : getV [5] = (5, 1, 0) := by decide
theorem enc1 : encV 9 300 = [172, 2] := by decide
theorem enc2 : encV 9 0 = [0] := by decide

theorem get_at (d : Nat) (v : Value) (l : List UInt8) (r0 : Ending) (w : World) (h : Rd w d v l) (e : outV (getV l) = r0) : Calls Try.prog 8 #[v] w fun r w' => r = r0 ∧ w = w' := by
  subst e
  exact get_any d v l w h
theorem take_at (g d : Nat) (l : List UInt8) (x : Nat) (n : Nat) (f : Int) (hv : getV l = (x, n, f)) (w : World) (h : Win w g d l 0) (hd : d ≠ g) (hdw : d < w.heap.size) :
    Calls Try.prog 14 #[.pointer (some ⟨g, 0, none⟩)] w fun r w' => r = .returned (.tuple #[.int .u64 (x : Int), .int .i64 f]) ∧ Win w' g d (l.drop n) 0 ∧ w.grownBy w' (some g) :=
  (take_any g d l 0 w h hd hdw).mono fun r w' hp => by
    unfold TakePost at hp
    rw [hv] at hp
    exact hp

set_option maxHeartbeats 1000000 in
theorem awake2_any (w : World) : Calls Try.prog 7 #[] w fun r w' => r = .returned (.bool true) ∧ Below w.heap.size w w' := by
  go_enter Try.func7, Try.ntmps7
  go_wp2_with fail
  refine (get_at _ _ [172, 2, 9] _ _ (lit_rd _ (by simp) #[.int .u8 172, .int .u8 2, .int .u8 9] rfl 3 rfl w) got1).mono ?_
  rintro r w1 ⟨rfl, rfl⟩
  have hB1 : Below w.heap.size w (w.alloc (.cells #[.int .u8 172, .int .u8 2, .int .u8 9] 5)) := (Below.refl _ _).alloc (Nat.le_refl _) _
  obtain ⟨w1, hw1⟩ : ∃ w1, w.alloc (.cells #[.int .u8 172, .int .u8 2, .int .u8 9] 5) = w1 := ⟨_, rfl⟩
  rw [hw1] at hB1 ⊢
  clear hw1
  go_wp2_with fail
  refine (get_at _ _ [128, 0] _ _ (lit_rd _ (by simp) #[.int .u8 128, .int .u8 0] rfl 2 rfl w1) got2).mono ?_
  rintro r w2 ⟨rfl, rfl⟩
  have hB2 : Below w.heap.size w (w1.alloc (.cells #[.int .u8 128, .int .u8 0] 5)) := hB1.alloc hB1.size _
  obtain ⟨w2, hw2⟩ : ∃ w2, w1.alloc (.cells #[.int .u8 128, .int .u8 0] 5) = w2 := ⟨_, rfl⟩
  rw [hw2] at hB2 ⊢
  clear hw2 hB1
  go_wp2_with fail
  refine (get_at _ _ [128] _ _ (lit_rd _ (by simp) #[.int .u8 128] rfl 1 rfl w2) got3).mono ?_
  rintro r w3 ⟨rfl, rfl⟩
  have hB3 : Below w.heap.size w (w2.alloc (.cells #[.int .u8 128] 5)) := hB2.alloc hB2.size _
  obtain ⟨w3, hw3⟩ : ∃ w3, w2.alloc (.cells #[.int .u8 128] 5) = w3 := ⟨_, rfl⟩
  rw [hw3] at hB3 ⊢
  clear hw3 hB2
  go_wp2_with fail
  refine (open_any _ _ [5] _ (lit_rd _ (by simp) #[.int .u8 5] rfl 1 rfl w3)).mono ?_
  rintro r w4 ⟨rfl, hW4, hb4, hs4⟩
  have hB4 : Below w.heap.size w w4 := (hB3.alloc hB3.size _).trans (hb4.mono (by have := hB3.size; simp; omega))
  have z3 := hB3.size
  simp only [World.size_alloc] at hW4 hs4
  have z4 : w4.heap.size = w3.heap.size + 1 + 2 := hs4
  clear hb4 hs4 hB3
  go_wp2_with fail
  refine (take_at _ _ [5] 5 1 0 got4 _ hW4 (by omega) (by omega)).mono ?_
  rintro r w5 ⟨rfl, -, hg5⟩
  have hB5 := below_grown2 hB4 hg5 (by omega) (by omega)
  clear hW4 hg5 hB4 z4 z3
  go_wp2_with fail
  refine (put_any 300 (by decide) _).mono ?_
  rintro r w6 ⟨v6, d6, rfl, hr6, -, hb6⟩
  rw [enc1] at hr6
  have st6 := str_of hr6
  have hB6 := hB5.trans (hb6.mono hB5.size)
  clear hr6 hb6 hB5
  go_wp2_with fail
  refine (len_any 300 (by decide) _).mono ?_
  rintro r w7 ⟨rfl, hb7⟩
  rw [enc1]
  have hB7 := hB6.trans (hb7.mono hB6.size)
  clear hb7 hB6 st6
  go_wp2_with fail
  refine (len_any 0 (by decide) _).mono ?_
  rintro r w8 ⟨rfl, hb8⟩
  rw [enc2]
  have hB8 := hB7.trans (hb8.mono hB7.size)
  clear hb8 hB7
  go_wp2
  go_ret
  exact ⟨rfl, hB8⟩

end Go.Proofs.Ytpgoikclhegglaa
