/-
  The laws' own example answers true, and makes new memory alone: for every world. No condition.
-/
import Derived.Test.YtkajlicppdfegaaOctG
import Derived.Outline
namespace Go.Proofs.Ytkajlicppdfegaa
open Go.RowKit

theorem lit3 (w : World) : Rd (w.alloc (.cells #[.int .u8 1, .int .u8 2, .int .u8 3] 5)) w.heap.size (.slice (some ⟨w.heap.size, 0, none⟩) 3 3) [1, 2, 3] :=
  Rd.of_blk (l := [1, 2, 3]) (Blk.new w 5 _) (by simp)
theorem lit2 (w : World) : Rd (w.alloc (.cells #[.int .u8 1, .int .u8 0] 5)) w.heap.size (.slice (some ⟨w.heap.size, 0, none⟩) 2 2) [1, 0] :=
  Rd.of_blk (l := [1, 0]) (Blk.new w 5 _) (by simp)

theorem value_lit2 (w : World) : Calls Try.prog 23 #[.slice (some ⟨w.heap.size, 0, none⟩) 2 2] (w.alloc (.cells #[.int .u8 1, .int .u8 0] 5))
    fun r w' => r = .returned (.tuple #[.int .u64 256, .bool true]) ∧ w.alloc (.cells #[.int .u8 1, .int .u8 0] 5) = w' := by
  have h := value_yes _ _ [1, 0] _ (lit2 w) (by decide)
  rw [show valB [1, 0] = 256 from by decide] at h
  exact h

theorem nx_a : nx [1, 2, 3] 0 2 = ([1, 2], [3], 0) := by decide
theorem nm_a : nm [1, 2] 0 2 = (258, [], 0) := by decide
theorem nm_b : nm [3] 0 1 = (3, [], 0) := by decide
theorem nm_c : nm [] 0 1 = (0, [], 10) := by decide
theorem big_a : bigB 256 (least 256) = [1, 0] := by decide
theorem big_b : bigB 0 (least 0) = [] := by decide
theorem big_c : bigB 5 2 = [0, 5] := by decide

theorem Rd.shape {w : World} {d : Nat} {v : Value} {l : List UInt8} (h : Rd w d v l) : ∃ A c, v = .slice A l.length c := by
  obtain ⟨A, c, e, _⟩ := h
  exact ⟨A, c, e⟩

/-- What a call of a window's own leaves of what lay below. -/
theorem below_grown {B g : Nat} {a b c : World} (h : Below B a b) (k : b.grownBy c (some g)) (hB : B ≤ b.heap.size) (hg : B ≤ g) : Below B a c :=
  h.grown k hB fun _ e => by injection e with e; omega

theorem awake_any (w : World) : Calls Try.prog 7 #[] w fun r w' => r = .returned (.bool true) ∧ Below w.heap.size w w' := by
  go_enter Try.func7, Try.ntmps7
  go_wp2_with fail
  refine (open_any w.heap.size _ [1, 2, 3] _ (lit3 w)).mono ?_
  rintro r w1 ⟨rfl, hW1, hb1, hs1⟩
  simp only [World.size_alloc] at hW1 hb1 hs1
  have hB1 : Below w.heap.size w w1 := ((Below.refl _ _).alloc (Nat.le_refl _) _).trans (hb1.mono (by omega))
  clear hb1
  go_wp2_with fail
  refine (sub_any _ _ _ _ 2 _ hW1 (by omega)).mono ?_
  rintro r w2 ⟨rfl, hV, hW2, hg2, hs2⟩
  rw [nx_a] at hV hW2
  have z1 : w.heap.size + 3 ≤ w1.heap.size := Nat.le_of_eq hs1.symm
  have z2 : w1.heap.size + 2 ≤ w2.heap.size := Nat.le_of_eq hs2.symm
  have hB2 : Below w.heap.size w w2 := below_grown hB1 hg2 (by omega) (by omega)
  clear hs1 hs2 hg2 hB1 hW1
  go_wp2_with fail
  refine (value_lit2 w2).mono ?_
  rintro r w3 ⟨rfl, rfl⟩
  go_wp2_with fail
  refine (least_any 256 _ (by decide)).mono ?_
  rintro r w4 ⟨v4, rfl, hr4, hb4, -⟩
  rw [big_a] at hr4
  have st4 := str_of hr4
  simp only [World.size_alloc] at hb4
  have hA4 : Below w2.heap.size w2 w4 := ((Below.refl _ _).alloc (Nat.le_refl _) _).trans (hb4.mono (by omega))
  have hB4 : Below w.heap.size w w4 := hB2.trans (hA4.mono (by omega))
  have hV4 := hV.below hA4
  have hW4 := hW2.below hA4
  have z4 : w2.heap.size ≤ w4.heap.size := hA4.size
  clear hb4 hr4 hA4 hV hW2 hB2
  go_wp2_with fail
  refine (least_any 0 _ (by decide)).mono ?_
  rintro r w5 ⟨v5, rfl, hr5, hA5, -⟩
  rw [big_b] at hr5
  obtain ⟨A5, c5, rfl⟩ := hr5.shape
  have hB5 : Below w.heap.size w w5 := hB4.trans (hA5.mono (by omega))
  have hV5 := hV4.below hA5
  have hW5 := hW4.below hA5
  have z5 : w4.heap.size ≤ w5.heap.size := hA5.size
  clear hr5 hA5 hV4 hW4 hB4 st4
  go_wp2_with fail
  refine (big_any 5 2 _ (by decide)).mono ?_
  rintro r w6 ⟨v6, rfl, hr6, hA6, -⟩
  rw [big_c] at hr6
  have st6 := str_of hr6
  have hB6 : Below w.heap.size w w6 := hB5.trans (hA6.mono (by omega))
  have hV6 := hV5.below hA6
  have hW6 := hW5.below hA6
  have z6 : w5.heap.size ≤ w6.heap.size := hA6.size
  clear hr6 hA6 hV5 hW5 hB5
  go_wp2_with fail
  refine (num_any _ _ _ _ 2 _ hV6 (by omega)).mono ?_
  rintro r w7 ⟨rfl, -, hg7, hs7⟩
  rw [nm_a]
  have hB7 : Below w.heap.size w w7 := below_grown hB6 hg7 (by omega) (by omega)
  have hW7 := hW6.grown hg7 (by omega) (by omega)
  have z7 : w6.heap.size ≤ w7.heap.size := Nat.le_of_eq hs7.symm
  clear hg7 hs7 hV6 hW6 hB6 st6
  go_wp2_with fail
  refine (left_any _ _ _ _ _ hW7).mono ?_
  rintro r w8 ⟨rfl, rfl⟩
  go_wp2_with fail
  refine (end_any _ _ _ _ _ hW7).mono ?_
  rintro r w8 ⟨rfl, rfl⟩
  rw [show endOf [3] 0 = 11 from by decide]
  go_wp2_with fail
  refine (byte_any _ _ _ _ _ hW7 (by omega)).mono ?_
  rintro r w8 ⟨rfl, hW8, hg8, hs8⟩
  rw [nm_b] at hW8 ⊢
  have hB8 : Below w.heap.size w w8 := below_grown hB7 hg8 (by omega) (by omega)
  have z8 : w7.heap.size ≤ w8.heap.size := Nat.le_of_eq hs8.symm
  clear hg8 hs8 hW7 hB7
  go_wp2_with fail
  refine (end_any _ _ _ _ _ hW8).mono ?_
  rintro r w9 ⟨rfl, rfl⟩
  rw [show endOf [] 0 = 0 from by decide]
  go_wp2_with fail
  refine (byte_any _ _ _ _ _ hW8 (by omega)).mono ?_
  rintro r w9 ⟨rfl, hW9, hg9, hs9⟩
  rw [nm_c] at hW9 ⊢
  have hB9 : Below w.heap.size w w9 := below_grown hB8 hg9 (by omega) (by omega)
  clear hg9 hs9 hW8 hB8
  go_wp2_with fail
  refine (err_any _ _ _ _ _ hW9).mono ?_
  rintro r w10 ⟨rfl, rfl⟩
  go_wp2
  go_ret
  exact ⟨rfl, hB9⟩

end Go.Proofs.Ytkajlicppdfegaa
