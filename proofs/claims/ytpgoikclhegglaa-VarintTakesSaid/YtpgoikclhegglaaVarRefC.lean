/-
  What the document's answers for layer 2 compute, the rest: Take. No condition but those of each theorem.
-/
import Derived.Test.YtpgoikclhegglaaVarRefB
namespace Go.Proofs.Ytpgoikclhegglaa
open Go.RowKit
set_option linter.unusedSimpArgs false

theorem lead_le (f : Nat) : ∀ s : List UInt8, lead f s ≤ f ∧ lead f s ≤ s.length := by
  induction f with
  | zero => intro s; simp [lead]
  | succ f ih =>
    intro s
    cases s with
    | nil => simp [lead]
    | cons b l =>
      unfold lead
      have := ih l
      split <;> simp <;> omega
theorem getV_le (s : List UInt8) : (getV s).2.1 ≤ s.length ∧ (getV s).2.1 ≤ 10 := by
  have := lead_le 10 s
  unfold getV
  repeat' split
  all_goals simp <;> omega

def RTakePost (g : Nat) (s : List UInt8) (e : Int) (w : World) (r : Ending) (w' : World) : Prop :=
  r = .returned (.tuple #[.int .u64 (if e = 0 then ((getV s).1 : Int) else 0), .int .i64 (if e = 0 then (getV s).2.2 else e)]) ∧ RW w' g (if e = 0 then s.drop (getV s).2.1 else s) e ∧ w.grownBy w' (some g) ∧ Sz w' w.heap.size

theorem rtake_any (g : Nat) (s : List UInt8) (e : Int) (w : World) (h : RW w g s e) (hs : s.length ≤ 100000) :
    Calls Try.prog 15 #[.pointer (some ⟨g, 0, none⟩)] w (RTakePost g s e w) := by
  have h0 := h.cell0
  have h1 := h.cell1
  have f0 : w.frozen? ⟨g, 0, none⟩ = false := Blk.frozen h 0
  have hsz := txt_size s
  by_cases he : e = 0
  · subst he
    obtain ⟨X, hX⟩ : ∃ X, X = (getV s).1 := ⟨_, rfl⟩
    obtain ⟨n, hn⟩ : ∃ n, n = (getV s).2.1 := ⟨_, rfl⟩
    obtain ⟨f, hf⟩ : ∃ f, f = (getV s).2.2 := ⟨_, rfl⟩
    have hc : Calls Try.prog 9 #[.string (txt s)] w (fun r w' => r = .returned (.tuple #[.int .u64 (X : Int), .int .i64 (n : Int), .int .i64 f]) ∧ w = w') := by
      rw [hX, hn, hf]; exact rget_any s w hs
    have hnl : n ≤ s.length := by rw [hn]; exact (getV_le s).1
    have Hp : RTakePost g s 0 w (.returned (.tuple #[.int .u64 (X : Int), .int .i64 f])) (w.setCell ⟨g, 0, none⟩ (.string ((txt s).extract n s.length))) := by
      rw [txt_extract]
      refine ⟨?_, ?_, grown_set _, by simp [Sz, World.setCell]⟩
      · rw [if_pos rfl, if_pos rfl, hX, hf]
      · rw [if_pos rfl, ← hn, List.take_of_length_le (Nat.le_refl _)]; exact Blk.set_ h 0 _
    have HP := Lib.hid Hp
    clear Hp hX hn hf
    go_enter Try.func15, Try.ntmps15
    go_wp2_with fail
    refine hc.mono ?_
    rintro r w' ⟨rfl, rfl⟩
    go_wp2
    go_ret2
    exact HP.out
  · have hb : (e == 0) = false := by simpa using he
    have hb2 : (e != 0) = true := by simpa using he
    have Hp : RTakePost g s e w (.returned (.tuple #[.int .u64 0, .int .i64 e])) w.drew := by
      refine ⟨?_, ?_, ⟨rfl, rfl, rfl, Nat.le_refl _, fun _ _ _ => rfl⟩, rfl⟩
      · rw [if_neg he, if_neg he]
      · rw [if_neg he]; exact h
    have HP := Lib.hid Hp
    clear Hp
    go_enter Try.func15, Try.ntmps15
    go_wp2_with fail
    go_region
    go_wp2_with fail
    go_ret2
    exact HP.out

end Go.Proofs.Ytpgoikclhegglaa
