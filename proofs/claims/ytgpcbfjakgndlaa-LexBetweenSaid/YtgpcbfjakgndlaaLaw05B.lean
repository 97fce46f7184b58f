/-
  LexTells, where package lex answers as it is to and the law is awake.
-/
import Derived.Test.YtgpcbfjakgndlaaLexSpec
namespace Go.Proofs.Ytgpcbfjakgndlaa
open Go.RowKit
set_option linter.unusedSimpArgs false

theorem lx_len (p : Ps) (l : List It) : (lx p l).1.length ≤ l.length + 1 := by
  refine lx_ind (P := fun p l => (lx p l).1.length ≤ l.length + 1) (fun p => by rw [lx_nil]; simp) (fun p x r q h => by rw [lx_bad h]; simp) (fun p x r o r' q h ih => ?_) p l
  rw [lx_go h]
  have h1 := (step_len h).1
  unfold consO
  split
  · rw [List.length_append]
    have : o.toList.length ≤ 1 := by cases o <;> simp
    simp only [List.length_cons]
    omega
  · simp
theorem allX_len (s : List UInt8) : (allX s).1.length ≤ s.length + 1 := by
  unfold allX
  split
  · simp
  · have h1 := lx_len (1, 1) (cut s)
    have h2 := cut_len s
    omega
def Awake5 : Prop := ∀ w, Calls Try.prog 8 #[] w fun r w' => r = .returned (.bool true) ∧ Below w.heap.size w w'

set_option maxRecDepth 100000 in
set_option maxHeartbeats 2000000 in
theorem lexTells_walk (s : List UInt8) (w : World) (C : LexC) (HA : Awake5) :
    Calls Try.prog 3 #[.string (txt s)] w fun e w' => e = .returned (.bool true) ∧ Below w.heap.size w w' := by
  have hsz := txt_size s
  have HC := Lib.hid C
  have HAW := Lib.hid HA
  clear C HA
  by_cases h9 : 9000 < s.length
  · have i0 : (9000 : Int) < (s.length : Int) := by omega
    go_enter Try.func3, Try.ntmps3
    go_wp2_with fail
    refine (HAW.out _).mono ?_
    rintro r w1 ⟨rfl, hB1⟩
    go_wp2
    go_ret
    exact ⟨rfl, hB1⟩
  · have i0 : ¬ (9000 : Int) < (s.length : Int) := by omega
    obtain ⟨X, hX⟩ : ∃ X, X = allX s := ⟨_, rfl⟩
    have hXl : X.1.length ≤ 9001 := by rw [hX]; have := allX_len s; omega
    have ALL : ∀ W, Hid (Calls Try.prog 9 #[.string (txt s)] W (fun r w' => ∃ v d, r = .returned (.tuple #[v, .int .i64 X.2.1, .agg #[.int .i64 (X.2.2.1 : Int), .int .i64 (X.2.2.2 : Int)]]) ∧ Toks w' d v X.1 ∧ Below W.heap.size W w')) := fun W => Lib.hid (by
      have h := HC.out.all s W (by omega)
      unfold LexAllP at h
      rw [← hX] at h
      exact h)
    have RALL : ∀ W, Hid (Calls Try.prog 10 #[.string (txt s)] W (fun r w' => ∃ v, r = .returned (.tuple #[v, .int .i64 X.2.1, .agg #[.int .i64 (X.2.2.1 : Int), .int .i64 (X.2.2.2 : Int)]]) ∧ OwnK 49 4 w' W.heap.size v X.1.length (X.1.flatMap tkC) ∧ Below W.heap.size W w')) := fun W => Lib.hid (by
      have h := rall_any s W (by omega)
      unfold RAllP at h
      rw [← hX] at h
      exact h)
    clear h9 hX
    obtain ⟨L, E, p1, p2⟩ := X
    simp only at ALL RALL hXl
    go_enter Try.func3, Try.ntmps3
    go_wp2_with fail
    refine (HAW.out _).mono ?_
    rintro r w1 ⟨rfl, hB1⟩
    go_wp2_with fail
    refine (ALL _).out.mono ?_
    rintro r w2 ⟨v2, d2, rfl, ht2, hB2⟩
    have b2 := Blk.new w2 26 #[.int .i64 (p1 : Int), .int .i64 (p2 : Int)]
    have ht2' := ht2.below ((Below.refl _ w2).alloc (Nat.le_refl _) (.cells #[.int .i64 (p1 : Int), .int .i64 (p2 : Int)] 26))
    have hB2' := (hB1.trans (hB2.mono hB1.size)).alloc (by have := hB1.size; have := hB2.size; omega) (.cells #[.int .i64 (p1 : Int), .int .i64 (p2 : Int)] 26)
    clear ht2 hB2 hB1
    go_wp2_with fail
    refine (RALL _).out.mono ?_
    rintro r w3 ⟨v3, rfl, ht3, hB3⟩
    obtain ⟨d3, hr3, -⟩ := ht3.row
    have ht3' : Toks w3 d3 v3 L := hr3
    clear ht3 hr3
    have b2' := (b2.below hB3 b2.lt).alloc (.cells #[.int .i64 (p1 : Int), .int .i64 (p2 : Int)] 26)
    have b3 := Blk.new w3 26 #[.int .i64 (p1 : Int), .int .i64 (p2 : Int)]
    have hbA := (Below.refl _ w3).alloc (Nat.le_refl _) (.cells #[.int .i64 (p1 : Int), .int .i64 (p2 : Int)] 26)
    have ht4 := (ht2'.below hB3).below hbA
    have ht5 := ht3'.below hbA
    have hs2 := hB2'.size
    have hs3 := hB3.size
    have hB4 := (hB2'.trans (hB3.mono hs2)).alloc (by omega) (.cells #[.int .i64 (p1 : Int), .int .i64 (p2 : Int)] 26)
    have PL := Lib.hid (plainT_any L _ v2 d2 ht4 (by omega))
    clear ht2' ht3' ht4 b2 hB2' hB3 hbA
    go_wp2_with fail
    refine PL.out.mono ?_
    rintro r w5 ⟨v5, d5, rfl, ht6, hB5⟩
    have ht7 := ht5.below hB5
    have b2'' := b2'.below hB5 b2'.lt
    have b3'' := b3.below hB5 b3.lt
    have hs4 := hB4.size
    have hB6 := hB4.trans (hB5.mono hs4)
    have SM := Lib.hid (rsame5_any L L w5 v5 v3 d5 d3 ht6 ht7 (by omega))
    clear ht5 ht6 ht7 b2' b3 hB4 hB5 PL
    go_wp2_with fail
    refine SM.out.mono ?_
    rintro r w6 ⟨⟨q, rfl, hq⟩, hB7⟩
    obtain rfl : q = true := hq.2 rfl
    have z1 := b2''.below hB7 b2''.lt
    have z2 := b3''.below hB7 b3''.lt
    have k0 : w6.cell? ⟨w2.heap.size, 0, none⟩ = some (.int .i64 (p1 : Int)) := z1.cell 0
    have k1 : w6.cell? ⟨w2.heap.size, 1, none⟩ = some (.int .i64 (p2 : Int)) := z1.cell 1
    have m0 : w6.cell? ⟨w3.heap.size, 0, none⟩ = some (.int .i64 (p1 : Int)) := z2.cell 0
    have m1 : w6.cell? ⟨w3.heap.size, 1, none⟩ = some (.int .i64 (p2 : Int)) := z2.cell 1
    have hs6 := hB6.size
    have HB := Lib.hid (hB6.trans (hB7.mono hs6))
    clear z1 z2 b2'' b3'' hB6 hB7 hs2 hs3 hs4 hs6
    go_wp2
    all_goals go_ret
    all_goals exact ⟨rfl, HB.out⟩

end Go.Proofs.Ytgpcbfjakgndlaa
