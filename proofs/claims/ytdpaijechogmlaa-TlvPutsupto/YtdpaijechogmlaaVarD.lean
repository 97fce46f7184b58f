/-
  What package varint's Take answers. No condition but those of each theorem.
-/
import Derived.Test.YtdpaijechogmlaaVarC
import Derived.Test.YtdpaijechogmlaaVarRefC
namespace Go.Proofs.Ytdpaijechogmlaa
open Go.RowKit

theorem lead_take (f : Nat) : ∀ l : List UInt8, lead f (l.take f) = lead f l := by
  induction f with
  | zero => intro l; simp [lead]
  | succ f ih =>
    intro l
    cases l with
    | nil => simp
    | cons b l =>
      rw [List.take_succ_cons]
      conv => lhs; unfold lead
      conv => rhs; unfold lead
      rw [ih l]
/-- No byte behind the tenth plays a part. -/
theorem getV_take (l : List UInt8) : getV (l.take 10) = getV l := by
  have hl := lead_take 10 l
  have hle := lead_le 10 l
  unfold getV
  rw [hl]
  by_cases h1 : lead 10 l = 10
  · rw [if_pos h1, if_pos h1]
  rw [if_neg h1, if_neg h1]
  by_cases h2 : lead 10 l = l.length
  · rw [if_pos h2, if_pos (by rw [List.length_take]; omega)]
  rw [if_neg h2, if_neg (by rw [List.length_take]; omega), List.take_take, Nat.min_eq_left (by omega)]
  have hg : (l.take 10).getD (lead 10 l) 0 = l.getD (lead 10 l) 0 := by
    simp only [List.getD]
    rw [List.getElem?_take_of_lt (by omega)]
  rw [hg]

def TakePost (g d : Nat) (l : List UInt8) (e : Int) (w : World) (r : Ending) (w' : World) : Prop :=
  r = .returned (.tuple #[.int .u64 (if e = 0 then ((getV l).1 : Int) else 0), .int .i64 (if e = 0 then (getV l).2.2 else e)]) ∧ Win w' g d (if e = 0 then l.drop (getV l).2.1 else l) e ∧ w.grownBy w' (some g)

theorem grown_two {a b c : World} {g : Nat} (h : a.grownBy b (some a.heap.size)) (_ : g < a.heap.size) (k : b.grownBy c (some g)) : a.grownBy c (some g) :=
  ⟨k.os.trans h.os, k.tape.trans h.tape, k.output.trans h.output, Nat.le_trans h.size k.size, fun i hi hne => (k.block i (Nat.lt_of_lt_of_le hi h.size) hne).trans (h.block i hi (by intro e; injection e with e; omega))⟩

theorem take_nil (w : World) : Calls Try.prog 36 #[.pointer none] w fun r w' => r = .returned (.tuple #[.int .u64 0, .int .i64 1]) ∧ w = w' := by
  go_enter Try.func36, Try.ntmps36
  go_wp2_with (go_at_call 42; refine (err_nil _).mono ?_; rintro r w' ⟨rfl, rfl⟩)
  go_ret2
  exact ⟨rfl, rfl⟩

theorem take_any (g d : Nat) (l : List UInt8) (e : Int) (w : World) (h : Win w g d l e) (hd : d ≠ g) (hdw : d < w.heap.size) :
    Calls Try.prog 36 #[.pointer (some ⟨g, 0, none⟩)] w (TakePost g d l e w) := by
  by_cases he : e = 0
  · subst he
    have hlt := h.lt
    obtain ⟨v, hb, hr⟩ := id h
    have hr0 := hr
    obtain ⟨A, c, rfl, -⟩ := hr
    have h0 : w.cell? ⟨g, 0, none⟩ = some (.slice A l.length c) := by rw [hb.cell]; rfl
    have h1 : w.cell? ⟨g, 1, none⟩ = some (.int .i64 0) := by rw [hb.cell]; rfl
    go_enter Try.func36, Try.ntmps36
    go_wp2_with (go_at_call 42; refine (err_any g d l _ _ h).mono ?_; rintro r w' ⟨rfl, rfl⟩)
    have hW1 : Win (w.alloc (.cells #[.slice A l.length c, .int .i64 0] 69)) w.heap.size d l 0 := ⟨_, Blk.new _ _ _, hr0.alloc _⟩
    have hw1 : Win (w.alloc (.cells #[.slice A l.length c, .int .i64 0] 69)) g d l 0 := h.alloc _
    refine (left_any w.heap.size d l 0 _ hW1).mono ?_
    rintro r w' ⟨rfl, rfl⟩
    obtain ⟨m, hm⟩ : ∃ m : Nat, min (l.length : Int) 10 = (m : Int) := ⟨min l.length 10, by omega⟩
    have hm10 : m ≤ 10 := by omega
    have hml : m ≤ l.length := by omega
    have HM : Hid (m = 10 ∨ m = l.length) := Lib.hid (by omega)
    go_wp2_with fail
    have hdeq : d ≠ w.heap.size := by omega
    refine (bytes_any w.heap.size d l 0 (m : Int) _ hW1 hdeq).mono ?_
    rintro r w2 ⟨v2, rfl, hr2, hW2, hg2, hs2⟩
    rw [nx_ok (by omega) (by omega)] at hr2
    have hgl : getV (l.take m) = getV l := by
      rcases HM.out with h | h
      · rw [h]; exact getV_take l
      · rw [List.take_of_length_le (by omega)]
    have hr2' : Rd w2 (w.heap.size + 1) v2 (l.take m) := by simpa using hr2
    have hw2 := hw1.grown hg2 (by omega) hdeq
    have hG1 : w.grownBy w2 (some w.heap.size) := (World.grownBy_alloc w _ _).trans hg2
    have hz2 : w2.heap.size = w.heap.size + 2 := by have h : w2.heap.size = _ := hs2; simpa using h
    clear hr2 hW2 hg2 hs2
    go_wp2_with fail
    refine (get_any _ v2 _ w2 hr2').mono ?_
    rintro r w3 ⟨rfl, rfl⟩
    rw [hgl]
    obtain ⟨V, hV⟩ : ∃ V, V = getV l := ⟨_, rfl⟩
    have hVl := getV_le l
    rw [← hV] at hVl ⊢
    have HV := Lib.hid hV
    clear hV hgl
    unfold outV
    go_wp2_with fail
    refine (bytes_any g d l 0 (V.2.1 : Int) _ hw2 hd).mono ?_
    rintro r w3 ⟨v3, rfl, -, hw3, hg3, -⟩
    rw [nx_ok (by omega) (by omega)] at hw3
    have HP : Hid (TakePost g d l 0 w (.returned (.tuple #[.int .u64 (V.1 : Int), .int .i64 V.2.2])) w3) := Lib.hid ⟨by rw [if_pos rfl, if_pos rfl, ← HV.out], by rw [if_pos rfl, ← HV.out]; simpa using hw3, grown_two hG1 hlt hg3⟩
    clear hw3 hg3 hG1
    go_wp2
    go_ret2
    exact HP.out
  · have hb : (e == 0) = false := by simpa using he
    have HP : Hid (TakePost g d l e w (.returned (.tuple #[.int .u64 0, .int .i64 e])) w) := Lib.hid ⟨by rw [if_neg he, if_neg he], by rw [if_neg he]; exact h, World.grownBy.refl w _⟩
    clear he
    go_enter Try.func36, Try.ntmps36
    go_wp2_with (go_at_call 42; refine (err_any g d l _ _ h).mono ?_; rintro r w' ⟨rfl, rfl⟩)
    go_ret2
    exact HP.out

end Go.Proofs.Ytdpaijechogmlaa
