/-
  Contracts of layer 7 in short words: a thing lies in a world. No condition but those of each theorem.
-/
import Derived.Test.YtkpbjgjflabloaaLaw07A
namespace Go.Proofs.Ytkpbjgjflabloaa
open Go.RowKit
set_option linter.unusedSimpArgs false

/-- The cells cs are the thing x in the world w. -/
def Lies (w : World) (cs : List Value) (x : Sp) : Prop := ∃ S N, (∀ g, S g → g < w.heap.size) ∧ (∀ g, N g → g < w.heap.size) ∧ SpN w S N cs x
theorem Lies.below {w w' : World} {cs : List Value} {x : Sp} (h : Lies w cs x) (hb : Below w.heap.size w w') : Lies w' cs x := by
  obtain ⟨S, N, hS, hN, h⟩ := h
  exact ⟨S, N, fun g hg => Nat.lt_of_lt_of_le (hS g hg) hb.size, fun g hg => Nat.lt_of_lt_of_le (hN g hg) hb.size, h.under hb hS hN⟩
theorem Lies.shape {w : World} {cs : List Value} {x : Sp} (h : Lies w cs x) : ∃ B m A c, cs = [.string (txt x.1.name), .int .i64 (x.1.kind : Int), .int .i64 (x.1.typ : Int), .int .u64 (x.1.low : Int), .int .u64 (x.1.high : Int), .slice B x.1.names.length m, .bool x.1.must, .int .i64 (x.1.most : Int), .slice A x.2.len c] := by
  obtain ⟨S, N, hS, hN, h⟩ := h
  obtain ⟨B, m, A, c, d, e, _⟩ := h.shape
  exact ⟨B, m, A, c, e⟩
theorem NewSp.lies {base : Nat} {w : World} {cs : List Value} {x : Sp} (h : NewSp base w cs x) : Lies w cs x := by
  obtain ⟨S, N, hS, hN, h⟩ := h
  exact ⟨S, N, fun g hg => (hS g hg).lt, fun g hg => (hN g hg).1.lt, h⟩
/-- Few. -/
def Few (x : Sp) : Prop := x.2.size ≤ 1000 ∧ x.1.names.length ≤ 3 ∧ x.2.len ≤ 7 ∧ ∀ y ∈ inner x.2, y.1.names.length ≤ 3
def fewB (x : Sp) : Bool := decide (x.2.size ≤ 1000) && decide (x.1.names.length ≤ 3) && decide (x.2.len ≤ 7) && (inner x.2).all fun y => decide (y.1.names.length ≤ 3)
theorem few_iff {x : Sp} (h : fewB x = true) : Few x := by
  unfold fewB at h
  simp only [Bool.and_eq_true, decide_eq_true_eq, List.all_eq_true] at h
  exact ⟨h.1.1.1, h.1.1.2, h.1.2, h.2⟩
theorem all_few : (([1, 2, 3] : List Nat).all fun v => ((rootD, rootF v) :: inner (rootF v)).all fewB) = true := by decide
theorem zero_few : Few (zeroD, .nil) := few_iff (by decide)
theorem few_in {v : Int} {x : Sp} (h1 : 1 ≤ v) (h2 : v ≤ 3) (h : x = (rootD, rootF v.toNat) ∨ x ∈ inner (rootF v.toNat)) : Few x := by
  have hv : v.toNat ∈ ([1, 2, 3] : List Nat) := by
    have : v.toNat = 1 ∨ v.toNat = 2 ∨ v.toNat = 3 := by omega
    simpa using this
  have h3 := List.all_eq_true.1 (List.all_eq_true.1 all_few _ hv)
  rcases h with rfl | h
  · exact few_iff (h3 _ (by simp))
  · exact few_iff (h3 _ (by simp [h]))
theorem few_at (v : Int) (l : List (List UInt8)) : Few (atX v l).1 := by
  rcases at_cases v l with ⟨e, h, _⟩ | ⟨x, h, h1, h2, hd, _⟩
  · rw [h]; exact zero_few
  · rw [h]; exact few_in h1 h2 (down_in hd)
theorem few_root (v : Int) : Few (rootX v).1 := by
  unfold rootX
  split
  · exact zero_few
  · exact few_in (by omega) (by omega) (.inl rfl)
theorem plain_l {w : World} {cs : List Value} {x : Sp} (h : Lies w cs x) (hf : Few x) : Calls Try.prog 13 #[.agg cs.toArray] w (fun r w' => ∃ cs', r = .returned (.agg cs'.toArray) ∧ Lies w' cs' x ∧ Below w.heap.size w w') := by
  obtain ⟨S, N, hS, hN, h⟩ := h
  refine (splain_any x.2 x.1 cs w S N h hS hN (Nat.le_trans hf.1 (by omega))).mono ?_
  rintro r w' ⟨cs', rfl, h2, hb⟩
  exact ⟨cs', rfl, ⟨_, N, fun g hg => hg.2, fun g hg => Nat.lt_of_lt_of_le (hN g hg) hb.size, h2⟩, hb⟩
theorem same_l {w : World} {cs cs' : List Value} {x : Sp} (h : Lies w cs x) (h' : Lies w cs' x) (hf : Few x) : Calls Try.prog 12 #[.agg cs.toArray, .agg cs'.toArray] w (AnsP (.bool true) w) := by
  obtain ⟨S, N, hS, hN, h⟩ := h
  obtain ⟨S', N', hS', hN', h'⟩ := h'
  exact rsame_any x.2 x.1 cs cs' w S N S' N' h h' hS hN hS' hN' (Nat.le_trans hf.1 (by omega)) (Nat.le_trans hf.2.1 (by omega)) (fun y hy => Nat.le_trans (hf.2.2.2 y hy) (by omega))
theorem rfind_l {w : World} {cs : List Value} {x : Sp} (n : List UInt8) (h : Lies w cs x) (hf : Few x) : Calls Try.prog 15 #[.agg cs.toArray, .string (txt n)] w (AnsP (.int .i64 (findI n x.2)) w) := by
  obtain ⟨S, N, hS, hN, h⟩ := h
  exact rfind_any n S N cs x w h hS (Nat.le_trans hf.2.2.1 (by omega))
theorem rtag_l {w : World} {cs : List Value} {x : Sp} (i : Int) (h0 : -9223372036854775808 ≤ i) (h1 : i ≤ 9223372036854775807) (h : Lies w cs x) (hf : Few x) : Calls Try.prog 19 #[.agg cs.toArray, .int .i64 i] w (AnsP (.int .u64 (tagX x.2 i : Int)) w) := by
  obtain ⟨S, N, hS, hN, h⟩ := h
  exact rtag_any i S N cs x w h0 h1 h hS (Nat.le_trans hf.2.2.1 (by omega))
theorem rkid_l {w : World} {cs : List Value} {x : Sp} (t : Nat) (h : Lies w cs x) (hf : Few x) : Calls Try.prog 17 #[.agg cs.toArray, .int .u64 (t : Int)] w (AnsP (.int .i64 (kidX x.2 t)) w) := by
  obtain ⟨S, N, hS, hN, h⟩ := h
  exact rkid_any t S N cs x w h hS hN (Nat.le_trans hf.2.2.1 (by omega))
section
variable {W0 : World} (C : SpcC W0)
include C
theorem find_l {w : World} {cs : List Value} {x : Sp} (n : List UInt8) (hw : Below W0.heap.size W0 w) (h : Lies w cs x) (hf : Few x) : Calls Try.prog 14 #[.agg cs.toArray, .string (txt n)] w (AnsP (.int .i64 (findI n x.2)) w) := by
  obtain ⟨S, N, hS, hN, h⟩ := h
  exact C.find n S N cs x w h hS (Nat.le_trans hf.2.2.1 (by omega)) hw
theorem tag_l {w : World} {cs : List Value} {x : Sp} (i : Int) (h0 : -9223372036854775808 ≤ i) (h1 : i ≤ 9223372036854775807) (hw : Below W0.heap.size W0 w) (h : Lies w cs x) (hf : Few x) : Calls Try.prog 18 #[.agg cs.toArray, .int .i64 i] w (AnsP (.int .u64 (tagX x.2 i : Int)) w) := by
  obtain ⟨S, N, hS, hN, h⟩ := h
  exact C.tag i S N cs x w h0 h1 h hS (Nat.le_trans hf.2.2.1 (by omega)) hw
theorem kid_l {w : World} {cs : List Value} {x : Sp} (t : Nat) (ht : t < 18446744073709551616) (hw : Below W0.heap.size W0 w) (h : Lies w cs x) (hf : Few x) : Calls Try.prog 16 #[.agg cs.toArray, .int .u64 (t : Int)] w (AnsP (.int .i64 (kidX x.2 t)) w) := by
  obtain ⟨S, N, hS, hN, h⟩ := h
  exact C.kid t S N cs x w ht h hS (Nat.le_trans hf.2.2.1 (by omega)) hw
end
def LieP (x : Sp × Nat) (w : World) (r : Ending) (w' : World) : Prop := ∃ cs, r = .returned (.tuple #[.agg cs.toArray, .int .i64 (x.2 : Int)]) ∧ Lies w' cs x.1 ∧ Below w.heap.size w w'
theorem RSpP.lie {x : Sp × Nat} {w : World} {r : Ending} {w' : World} (h : RSpP x w r w') : LieP x w r w' := by
  obtain ⟨cs, e, h, hb⟩ := h
  exact ⟨cs, e, ⟨_, _, fun g hg => hg.2, fun g hg => hg.2, h⟩, hb⟩
theorem SpP.lie {x : Sp × Nat} {w : World} {r : Ending} {w' : World} (h : SpP x w r w') : LieP x w r w' := by
  obtain ⟨cs, e, h, hb⟩ := h
  exact ⟨cs, e, h.lies, hb⟩
theorem rroot_l (v : Int) (w : World) : Calls Try.prog 9 #[.int .i64 v] w (LieP (rootX v) w) := (rroot_any v w).mono fun _ _ h => h.lie
theorem rat_l (v : Int) (l : List (List UInt8)) (nv : Value) (d : Nat) (w : World) (hn : Vals w d nv (txts l)) (hl : l.length ≤ 1000000) : Calls Try.prog 11 #[.int .i64 v, nv] w (LieP (atX v l) w) := by
  by_cases h : v < 1 ∨ 3 < v
  · exact (rat_no v l nv d w h hn).mono fun _ _ h => h.lie
  · exact (rat_in v l nv d w (by omega) (by omega) hn hl).mono fun _ _ h => h.lie

end Go.Proofs.Ytkpbjgjflabloaa
