/-
  Package lex: Plain. No condition but those of each theorem.
-/
import Derived.Test.YtgpcbfjakgndlaaLexFnJ
namespace Go.Proofs.Ytgpcbfjakgndlaa
open Go.RowKit
set_option linter.unusedSimpArgs false

theorem high_not {a : UInt8} (h : 128 ≤ a.toNat) : letterB [a] = false := by
  cases hx : letterB [a] with
  | false => rfl
  | true => have := letter_asc hx; omega
/-- A text's first rune is of a word just if its first byte is; then it has one byte. -/
theorem word_front (a : UInt8) (r : List UInt8) : wordB ((dc (a :: r)).1 : Int) = letterB [a] ∧ (letterB [a] = true → (dc (a :: r)).2 = 1) := by
  rcases dc_cases (a :: r) with ⟨a', r', e, h⟩ | ⟨a', b, r', e, h⟩ | ⟨a', b, c, r', e, h⟩ | ⟨a', b, c, d, r', e, h⟩ | h
  · injection e with e1 e2
    subst e1 e2
    rw [dc_one r h]
    exact ⟨wordB_byte a, fun _ => rfl⟩
  · injection e with e1 e2
    subst e1 e2
    have ha : 128 ≤ a.toNat := by have := h.1; omega
    have h3 := h.2.2
    rw [dc_two r' h, high_not ha]
    exact ⟨wordB_out (by simp only; omega), fun h => by cases h⟩
  · injection e with e1 e2
    subst e1 e2
    have ha : 128 ≤ a.toNat := by have := h.1; omega
    have h3 := h.2.2.2.1
    rw [dc_three r' h, high_not ha]
    exact ⟨wordB_out (by simp only; omega), fun h => by cases h⟩
  · injection e with e1 e2
    subst e1 e2
    have ha : 128 ≤ a.toNat := by have := h.1; omega
    have h3 := h.2.2.2.2.1
    rw [dc_four r' h, high_not ha]
    exact ⟨wordB_out (by simp only; omega), fun h => by cases h⟩
  · have ha := h.1 a r rfl
    rw [dc_none (by simp) h, high_not ha]
    exact ⟨by decide, fun h => by cases h⟩
theorem plain_no {s : List UInt8} {pos : Nat} {a : UInt8} {r : List UInt8} (h : s.drop pos = a :: r) (hl : letterB [a] = false) : plainX s = false := by
  have hm : a ∈ s := List.mem_of_mem_drop (by rw [h]; exact List.mem_cons_self)
  unfold plainX
  rw [Bool.and_eq_false_iff]
  right
  rw [List.all_eq_false]
  exact ⟨a, hm, by simp only [hl]; decide⟩
set_option maxRecDepth 100000 in
set_option maxHeartbeats 2000000 in
theorem lexPlain_any (s : List UInt8) (w : World) (hs : s.length ≤ 20000) :
    Calls Try.prog 14 #[.string (txt s)] w (fun r w' => r = .returned (.bool (plainX s)) ∧ Below w.heap.size w w') := by
  have hsz := txt_size s
  have hit0 := World.iter_heap w (txt s) 0
  have hb0 : Below w.heap.size w (w.iter (txt s) 0) := (Below.refl _ w).alloc (Nat.le_refl _) _
  go_enter Try.func14, Try.ntmps14
  go_wp2
  obtain ⟨B, hB⟩ : ∃ B, B = w.heap.size := ⟨_, rfl⟩
  rw [← hB] at hit0 hb0 ⊢
  have HB := Lib.hid hB
  clear hB
  go_loopw [] (fun wr => ∃ pos : Nat, pos ≤ s.length ∧ wr.heap[B]? = some (.stringIter (txt s) pos) ∧ Below B w wr ∧ Hid (∀ c ∈ s.take pos, letterB [c] = true)) (fun wr => s.length - wr.iterPos B)
  case atStart => exact ⟨0, Nat.zero_le _, hit0, hb0, Lib.hid (by simp)⟩
  case round =>
    obtain ⟨pos, hpos, hit, hbel, HC⟩ := hrel
    by_cases hlt : pos < s.length
    · obtain ⟨a, r, har⟩ : ∃ a r, s.drop pos = a :: r := by
        cases h : s.drop pos with
        | nil => have := congrArg List.length h; rw [List.length_drop] at this; simp at this; omega
        | cons a r => exact ⟨a, r, rfl⟩
      have hnx : ∀ ty, (Instr.next (.pointer (some ⟨B, 0, none⟩)) true ty).run Try.prog wr = _ := fun ty => Lib.run_next_any_at wr B (txt s) pos ty hit (by rw [txt_size]; exact hlt)
      rw [dec_at s pos (by omega)] at hnx
      obtain ⟨hw1, hw2⟩ := word_front a r
      rw [← har] at hw1 hw2
      obtain ⟨c, k, hdc⟩ : ∃ c k, dc (s.drop pos) = (c, k) := ⟨_, _, rfl⟩
      rw [hdc] at hnx hw1 hw2
      simp only at hnx hw1 hw2
      have hit2 := Lib.iterAt_heap wr B (txt s) pos (pos + k) hit
      have hbel2 := Lib.below_iterAt hbel (k := B) (Nat.le_refl _) (txt s) (pos + k)
      obtain ⟨W, hW⟩ : ∃ W, wr.iterAt B (txt s) (pos + k) = W := ⟨_, rfl⟩
      rw [hW] at hnx hit2 hbel2
      have hHIT := Lib.hid hit
      clear hW hdc hbel hit hit0 hb0
      cases hl : letterB [a] with
      | true =>
        have IW : Hid (Calls Try.prog 26 #[.int .i32 (c : Int)] W fun r w' => r = .returned (.bool true) ∧ W = w') := Lib.hid (by
          rw [← hl, ← hw1]; exact inWord_any _ W)
        obtain rfl : k = 1 := hw2 hl
        have HC2 : Hid (∀ c ∈ s.take (pos + 1), letterB [c] = true) := Lib.hid (fun x hx => by
          rw [List.take_add, har] at hx
          rcases List.mem_append.1 hx with h | h
          · exact HC.out x h
          · simp at h; rw [h]; exact hl)
        have HIT2 := Lib.hid hit2
        have HBE2 := Lib.hid hbel2
        clear har hw1 hw2 hl hit2 hbel2
        go_wp2_with fail
        refine IW.out.mono ?_
        rintro r' w' ⟨rfl, rfl⟩
        go_wp2
        go_roundw
        case rel => exact ⟨pos + 1, by omega, HIT2.out, HBE2.out, HC2⟩
        case measure => rw [iterPos_of HIT2.out, iterPos_of hHIT.out]; omega
      | false =>
        have IW : Hid (Calls Try.prog 26 #[.int .i32 (c : Int)] W fun r w' => r = .returned (.bool false) ∧ W = w') := Lib.hid (by
          rw [← hl, ← hw1]; exact inWord_any _ W)
        have HF : Hid (plainX s = false) := Lib.hid (plain_no har hl)
        have HBE2 := Lib.hid hbel2
        clear har hw1 hw2 hl hit2 hbel2
        go_wp2_with fail
        refine IW.out.mono ?_
        rintro r' w' ⟨rfl, rfl⟩
        go_wp2
        go_ret
        exact ⟨by rw [HF.out]; rfl, by rw [← HB.out]; exact HBE2.out⟩
    · have hpe : pos = s.length := by omega
      have hnx : ∀ ty, (Instr.next (.pointer (some ⟨B, 0, none⟩)) true ty).run Try.prog wr = _ := fun ty => Lib.run_next_end_at wr B (txt s) pos ty hit (by rw [txt_size]; omega)
      have HAll : Hid (s.all (fun c => letterB [c]) = true) := Lib.hid (by
        rw [List.all_eq_true]
        have := HC.out
        rw [hpe, List.take_length] at this
        exact this)
      have HBE := Lib.hid hbel
      have tl := txt_toList s
      cases s with
      | nil =>
        have HF : Hid (plainX [] = false) := Lib.hid rfl
        clear hpe hlt hit hbel hit0 hb0 tl
        have t0 := txt_none
        go_wp2
        go_ret
        exact ⟨by rw [HF.out]; rfl, by rw [← HB.out]; exact HBE.out⟩
      | cons a r =>
        have HF : Hid (plainX (a :: r) = true) := Lib.hid (by unfold plainX; rw [HAll.out]; rfl)
        have t0 := txt_some (l := a :: r) (by simp)
        clear hpe hlt hit hbel hit0 hb0 tl
        go_wp2
        go_ret
        exact ⟨by rw [HF.out]; rfl, by rw [← HB.out]; exact HBE.out⟩

end Go.Proofs.Ytgpcbfjakgndlaa
