/-
  What package frame is to answer (a proposition, to be proved of the code that landed), and the examples' numbers.
-/
import Derived.Test.YtepcaaejadeklaaDoorFrmTexts
import Derived.Test.YtepcaaejadeklaaDoorFrmTurn
import Derived.Test.YtepcaaejadeklaaDoorOctH
namespace Go.Proofs.YtepcaaejadeklaaDoor
open Go.RowKit
set_option linter.unusedSimpArgs false

def SumC (W0 : World) : Prop := ∀ (l : List UInt8) (w : World) (d : Nat) (v : Value), Below W0.heap.size W0 w → Rd w d v l → l.length ≤ 90000 →
  Calls Tryd.prog 14 #[v] w (fun r w' => r = .returned (.int .u32 (crc l : Int)) ∧ Below w.heap.size w w')
/-- What Put hands back: the record, in new memory, or none. -/
def putF (l : List UInt8) : List UInt8 := if 8192 < l.length then [] else frm l
def putE (l : List UInt8) : Int := if 8192 < l.length then 14 else 0
def PutFP (l : List UInt8) (w : World) (r : Ending) (w' : World) : Prop := ∃ v, r = .returned (.tuple #[v, .int .i64 (putE l)]) ∧ Own w' w.heap.size v (putF l) ∧ Below w.heap.size w w'
def PutFC (W0 : World) : Prop := ∀ (l : List UInt8) (w : World) (d : Nat) (v : Value), Below W0.heap.size W0 w → Rd w d v l → Calls Tryd.prog 10 #[v] w (PutFP l w)
def GetFP (x : List UInt8 × Nat × Int) (w : World) (r : Ending) (w' : World) : Prop := ∃ v d, r = .returned (.tuple #[v, .int .i64 (x.2.1 : Int), .int .i64 x.2.2]) ∧ Rd w' d v x.1 ∧ Below w.heap.size w w'
def GetFC (W0 : World) : Prop := ∀ (l : List UInt8) (w : World) (d : Nat) (v : Value), Below W0.heap.size W0 w → Rd w d v l → l.length ≤ 90000 → Calls Tryd.prog 12 #[v] w (GetFP (getF l) w)
def AllFP (x : List (List UInt8) × Nat × Int) (w : World) (r : Ending) (w' : World) : Prop := ∃ v d, r = .returned (.tuple #[v, .int .i64 (x.2.1 : Int), .int .i64 x.2.2]) ∧ RowB w' d v x.1 ∧ Below w.heap.size w w'
def AllFC (W0 : World) : Prop := ∀ (l : List UInt8) (w : World) (d : Nat) (v : Value), Below W0.heap.size W0 w → Rd w d v l → l.length ≤ 90000 → Calls Tryd.prog 16 #[v] w (AllFP (recs l) w)
/-- PACKAGE FRAME ANSWERS AS IT IS TO, in every world that comes of W0 (whose package-level table it reads) by new memory alone. -/
structure FrmC (W0 : World) : Prop where
  sum : SumC W0
  put : PutFC W0
  get : GetFC W0
  all : AllFC W0

theorem Rd.shape4 {w : World} {d : Nat} {v : Value} {l : List UInt8} (h : Rd w d v l) : ∃ A c, v = .slice A l.length c := by obtain ⟨A, c, h, _⟩ := h; exact ⟨A, c, h⟩
theorem putF_small {l : List UInt8} (h : l.length ≤ 8192) : putF l = frm l ∧ putE l = 0 := by unfold putF putE; rw [if_neg (by omega), if_neg (by omega)]; exact ⟨rfl, rfl⟩
theorem putF_big {l : List UInt8} (h : 8192 < l.length) : putF l = [] ∧ putE l = 14 := by unfold putF putE; rw [if_pos h, if_pos h]; exact ⟨rfl, rfl⟩
theorem putFOut_eq (s : List UInt8) : putFOut s = .returned (.tuple #[.string (txt (putF s)), .int .i64 (putE s)]) := by
  unfold putFOut putF putE
  by_cases h : 8192 < s.length
  · rw [if_pos h, if_pos h, if_pos h]; rfl
  · rw [if_neg h, if_neg h, if_neg h]
theorem encV_two {n : Nat} (h : n ≤ 8192) : (encV 9 n).length ≤ 2 := by
  have h1 := enc_mono 9 n 8192 h
  have h2 : (encV 9 8192).length = 2 := by decide
  omega
theorem frm_len {l : List UInt8} (h : l.length ≤ 8192) : (frm l).length ≤ l.length + 6 := by
  have := encV_two h
  rw [frm_length]; omega
theorem putF_len (l : List UInt8) : (putF l).length ≤ 8198 := by
  by_cases h : 8192 < l.length
  · rw [(putF_big h).1]; simp
  · rw [(putF_small (by omega)).1]
    have := frm_len (l := l) (by omega)
    omega
theorem getF_len (s : List UInt8) : (getF s).1.length ≤ s.length := by
  obtain ⟨x, n, e, h⟩ : ∃ x n e, getF s = (x, n, e) := ⟨_, _, _, rfl⟩
  rw [h]
  by_cases he : e = 0
  · subst he
    have := getF_pos h
    simp only; omega
  · rw [(getF_err h he).1]; simp
theorem recs_len (s : List UInt8) : (recs s).1.length ≤ s.length := by
  suffices h : ∀ (n : Nat) (s : List UInt8), s.length ≤ n → (recs s).1.length ≤ s.length from h s.length s (Nat.le_refl _)
  intro n
  induction n with
  | zero =>
    intro s h
    have : s = [] := List.length_eq_zero_iff.1 (by omega)
    rw [this, recs_nil]; simp
  | succ n ih =>
    intro s hs
    by_cases h0 : s = []
    · rw [h0, recs_nil]; simp
    obtain ⟨x, m, e, h⟩ : ∃ x n e, getF s = (x, n, e) := ⟨_, _, _, rfl⟩
    by_cases he : e ≠ 0
    · rw [recs_err h0 h he]; simp
    obtain rfl : e = 0 := Decidable.not_not.1 he
    have hp := getF_pos h
    have hd : (s.drop m).length = s.length - m := List.length_drop
    have := ih (s.drop m) (by omega)
    rw [recs_ok h0 h]
    simp only [List.length_cons]
    omega

theorem ex_sum : crc [49, 50, 51, 52, 53, 54, 55, 56, 57] = 3808858755 := by kernel_rfl
theorem ex_len : (frm [97, 98]).length = 7 := by decide
theorem ex_get : getF (frm [97, 98]) = ([97, 98], 7, 0) := by
  have h := getF_frm [97, 98] [] (by decide)
  rw [List.append_nil, ex_len] at h
  exact h
theorem ex_all : recs (frm [97, 98]) = ([[97, 98]], 7, 0) := by
  have h := recs_frm [97, 98] [] (by decide)
  rw [List.append_nil, ex_len, recs_nil] at h
  exact h

end Go.Proofs.YtepcaaejadeklaaDoor
