/-
  Package lex: inWord, blank, decoded; peek and take of the reader. No condition but those of each theorem.
-/
import Derived.Test.YtgpcbfjakgndlaaLexRdr
import Derived.Outline
namespace Go.Proofs.Ytgpcbfjakgndlaa
open Go.RowKit
set_option linter.unusedSimpArgs false

set_option maxRecDepth 100000 in
set_option maxHeartbeats 1000000 in
theorem inWord_any (n : Int) (w : World) : Calls Try.prog 26 #[.int .i32 n] w fun r w' => r = .returned (.bool (wordB n)) ∧ w = w' := by
  go_enter Try.func26, Try.ntmps26
  go_wp2
  all_goals go_ret
  all_goals refine ⟨congrArg (fun b => Ending.returned (Value.bool b)) (?_ : _ = _), rfl⟩
  all_goals first
    | rfl
    | (unfold wordB; rw [Bool.eq_iff_iff]; simp only [Bool.or_eq_true, Bool.and_eq_true, decide_eq_true_eq, beq_iff_eq, true_iff, false_iff, Bool.false_eq_true]; omega)
def blankN (n : Int) : Bool := n == 32 || n == 9 || n == 13 || n == 10
set_option maxRecDepth 100000 in
set_option maxHeartbeats 1000000 in
theorem blank_any (n : Int) (w : World) : Calls Try.prog 35 #[.int .i32 n] w fun r w' => r = .returned (.bool (blankN n)) ∧ w = w' := by
  go_enter Try.func35, Try.ntmps35
  go_wp2
  all_goals go_ret
  all_goals refine ⟨congrArg (fun b => Ending.returned (Value.bool b)) (?_ : _ = _), rfl⟩
  all_goals first
    | rfl
    | (unfold blankN; rw [Bool.eq_iff_iff]; simp only [Bool.or_eq_true, Bool.and_eq_true, decide_eq_true_eq, beq_iff_eq, true_iff, false_iff, Bool.false_eq_true]; omega)

/-! ### decoded -/
set_option maxRecDepth 100000 in
set_option maxHeartbeats 1000000 in
theorem prefix_any (s p : List UInt8) (w : World) :
    Calls Try.prog 41 #[.string (txt s), .string (txt p)] w fun r w' => r = .returned (.bool (s.take p.length == p)) ∧ w = w' := by
  have hsz := txt_size s
  have hpz := txt_size p
  obtain ⟨b, hb⟩ : ∃ b, b = (s.take p.length == p) := ⟨_, rfl⟩
  by_cases hle : p.length ≤ s.length
  · have i0 : decide (p.length ≤ s.length) = true := by simpa using hle
    have hx : (((txt s).extract 0 p.length).toList == (txt p).toList) = b := by
      rw [txt_extract, txt_toList, txt_toList, List.drop_zero, hb]
    rw [← hb]
    clear hb
    go_enter Try.func41, Try.ntmps41
    go_wp2
    go_ret
    exact ⟨rfl, rfl⟩
  · have hf : b = false := by
      rw [hb, List.take_of_length_le (by omega)]
      exact beq_eq_false_iff_ne.2 (fun e => hle (by rw [e]; exact Nat.le_refl _))
    rw [← hb, hf]
    clear hb hf
    have i0 : decide (p.length ≤ s.length) = false := by simpa using hle
    go_enter Try.func41, Try.ntmps41
    go_wp2
    go_ret
    exact ⟨rfl, rfl⟩
/-- The character that a text begins with. -/
def frC (s : List UInt8) : It := (s.take (dc s).2, okc s)
theorem wc_fr {s : List UInt8} (h0 : s ≠ []) : wc (frC s) = if okc s then ((dc s).1 : Int) else -2 := by
  unfold wc frC
  by_cases h : okc s = true
  · have e := dc_valid h0 h []
    rw [List.append_nil] at e
    simp only [h, if_true, e]
  · rw [if_neg h, if_neg h]
set_option maxRecDepth 100000 in
set_option maxHeartbeats 1000000 in
theorem decoded_any (s : List UInt8) (h0 : s ≠ []) (w : World) :
    Calls Try.prog 33 #[.string (txt s), .int .i32 ((dc s).1 : Int)] w fun r w' => r = .returned (.int .i32 (wc (frC s))) ∧ w = w' := by
  have hk := dc_know h0
  rw [wc_fr h0]
  have HP : ∀ W, Hid (Calls Try.prog 41 #[.string (txt s), .string ⟨#[239, 191, 189]⟩] W fun r w' => r = .returned (.bool (s.take 3 == [239, 191, 189])) ∧ W = w') := fun W => Lib.hid (prefix_any s [239, 191, 189] W)
  have he : encU 65533 = [239, 191, 189] := by decide
  by_cases ho : okc s = true
  · rw [if_pos ho]
    by_cases hn : (dc s).1 = 65533
    · have ht : (s.take 3 == [239, 191, 189]) = true := by
        have h3 : (dc s).2 = 3 := by
          have := ho
          unfold okc at this
          rw [hn] at this
          simpa [sz] using this
        have := hk.2.2.2.1 ho
        rw [h3, hn, he] at this
        rw [this]; rfl
      rw [ht] at HP
      rw [hn]
      clear hk ht hn ho he
      go_enter Try.func33, Try.ntmps33
      go_wp2_with fail
      refine (HP _).out.mono ?_
      rintro r w' ⟨rfl, rfl⟩
      go_wp2
      go_ret
      exact ⟨rfl, rfl⟩
    · have i0 : (((dc s).1 : Int) == 65533) = false := by simpa using (show ((dc s).1 : Int) ≠ 65533 by omega)
      generalize (dc s).1 = n at *
      clear hk hn ho he HP
      go_enter Try.func33, Try.ntmps33
      go_wp2
      go_ret
      exact ⟨rfl, rfl⟩
  · have hf : okc s = false := by simpa using ho
    obtain ⟨e, h3, -⟩ := hk.2.2.2.2 hf
    have ht : (s.take 3 == [239, 191, 189]) = false := beq_eq_false_iff_ne.2 (by rw [← he]; exact h3)
    rw [if_neg ho, e]
    rw [ht] at HP
    clear hk ht ho he h3 e hf
    go_enter Try.func33, Try.ntmps33
    go_wp2_with fail
    refine (HP _).out.mono ?_
    rintro r w' ⟨rfl, rfl⟩
    go_wp2
    go_ret
    exact ⟨rfl, rfl⟩

/-! ### The reader -/
/-- A character that is told, and where it is. -/
def chV (n : Int) (p : Ps) : Value := .agg #[.int .i32 n, .int .i64 (p.1 : Int), .int .i64 (p.2 : Int)]
set_option maxRecDepth 100000 in
set_option maxHeartbeats 1000000 in
theorem peek_any (B g : Nat) (p : Ps) (l : List It) (w : World) (h : Rdr w B g p l) :
    Calls Try.prog 34 #[.pointer (some ⟨g, 0, none⟩)] w fun r w' => r = .returned (chV (hdc l) p) ∧ Below w.heap.size w w' := by
  obtain ⟨d, off, c, hd, hg, hlc, c0, c1, c2, c3⟩ := h.at
  clear h
  generalize hdc l = n at c1 ⊢
  have i0 : (0 : Int) < ((l.length : Int) + 1) := by omega
  go_enter Try.func34, Try.ntmps34
  go_wp2
  exact bodyPost_ret (v := .agg #[.int .i32 n, .int .i64 (p.1 : Int), .int .i64 (p.2 : Int)]) (by simp [results, Try.results34, go_sem]) rfl ⟨rfl, (Below.refl _ _).alloc (Nat.le_refl _) _⟩
/-- What take leaves. -/
def TakeP (B g : Nat) (p : Ps) (l : List It) (w : World) (r : Ending) (w' : World) : Prop := r = .returned (chV (hdc l) p) ∧ Rdr w' B g (nxP p l) l.tail ∧ w.grownBy w' (some g)
/-- A box for a character. -/
def ChB (w : World) (b : Nat) (n : Int) (p : Ps) : Prop := Blk w b 75 #[.int .i32 n, .int .i64 (p.1 : Int), .int .i64 (p.2 : Int)]
theorem ChB.cells {w : World} {b : Nat} {n : Int} {p : Ps} (h : ChB w b n p) : b < w.heap.size ∧ w.cell? ⟨b, 0, none⟩ = some (.int .i32 n) ∧ w.cell? ⟨b, 1, none⟩ = some (.int .i64 (p.1 : Int)) ∧ w.cell? ⟨b, 2, none⟩ = some (.int .i64 (p.2 : Int)) ∧
    w.frozen? ⟨b, 0, none⟩ = false ∧ w.frozen? ⟨b, 1, none⟩ = false ∧ w.frozen? ⟨b, 2, none⟩ = false := ⟨h.lt, h.cell 0, h.cell 1, h.cell 2, h.frozen 0, h.frozen 1, h.frozen 2⟩
theorem ChB.set {w : World} {b : Nat} {n m : Int} {p q : Ps} (h : ChB w b n p) : ChB (((w.setCell ⟨b, 0, none⟩ (.int .i32 m)).setCell ⟨b, 1, none⟩ (.int .i64 (q.1 : Int))).setCell ⟨b, 2, none⟩ (.int .i64 (q.2 : Int))) b m q := by
  exact ((Blk.set_ h 0 (.int .i32 m)).set_ 1 (.int .i64 (q.1 : Int))).set_ 2 (.int .i64 (q.2 : Int))
theorem resTake {tmps : Array Value} {W : World} {b : Nat} {n : Int} {p : Ps} (h2 : tmps.getD 2 undef = .pointer (some ⟨b, 0, none⟩)) (q : ChB W b n p) :
    (results Try.f36 tmps).run Try.prog W = .ok (chV n p) W := by
  have c0 := q.cell 0
  have c1 := q.cell 1
  have c2 := q.cell 2
  have g2 : tmps[2]?.getD undef = .pointer (some ⟨b, 0, none⟩) := by simpa using h2
  simp [results, Try.f36, go_sem, g2, c0, c1, c2, chV]
set_option maxRecDepth 100000 in
set_option maxHeartbeats 1000000 in
theorem take_end (B g : Nat) (p : Ps) (w : World) (h : Rdr w B g p []) : Calls Try.prog 36 #[.pointer (some ⟨g, 0, none⟩)] w (TakeP B g p [] w) := by
  have hlt := h.lt
  have hb0 := (Below.refl _ w).alloc (Nat.le_refl _) (.cells #[.int .i32 0, .int .i64 0, .int .i64 0] 75)
  have hR0 := h.below hb0 hlt.2
  have PK0 : Hid (Calls Try.prog 34 #[.pointer (some ⟨g, 0, none⟩)] (w.alloc (.cells #[.int .i32 0, .int .i64 0, .int .i64 0] 75)) (fun r w' => r = .returned (.agg #[.int .i32 (-1), .int .i64 (p.1 : Int), .int .i64 (p.2 : Int)]) ∧ Below (w.alloc (.cells #[.int .i32 0, .int .i64 0, .int .i64 0] 75)).heap.size (w.alloc (.cells #[.int .i32 0, .int .i64 0, .int .i64 0] 75)) w')) := Lib.hid (peek_any B g p [] _ hR0)
  have q0 : ChB (w.alloc (.cells #[.int .i32 0, .int .i64 0, .int .i64 0] 75)) w.heap.size 0 (0, 0) := Blk.new w 75 _
  clear h
  go_enter Try.func36, Try.ntmps36
  go_wp2_with fail
  refine PK0.out.mono ?_
  rintro r w1 ⟨rfl, hB1⟩
  have q1 : ChB w1 w.heap.size 0 (0, 0) := q0.below hB1 q0.lt
  have hs1 : w.heap.size < w1.heap.size := q1.lt
  have hR1 := hR0.below hB1 (by have := hb0.size; omega)
  have HQ := Lib.hid ((q1.set (m := -1) (q := p)).alloc (.cells #[.int .i32 (-1), .int .i64 (p.1 : Int), .int .i64 (p.2 : Int)] 75))
  have HR := Lib.hid (hR1.below (((((Below.refl B w1).setCell (p := ⟨w.heap.size, 0, none⟩) hlt.2 (.int .i32 (-1))).setCell (p := ⟨w.heap.size, 1, none⟩) hlt.2 (.int .i64 (p.1 : Int))).setCell (p := ⟨w.heap.size, 2, none⟩) hlt.2 (.int .i64 (p.2 : Int))).alloc (by simp; omega) (.cells #[.int .i32 (-1), .int .i64 (p.1 : Int), .int .i64 (p.2 : Int)] 75)) (Nat.le_refl _))
  have HB := Lib.hid (((((hb0.trans (hB1.mono hb0.size)).setCell (p := ⟨w.heap.size, 0, none⟩) (Nat.le_refl _) (.int .i32 (-1))).setCell (p := ⟨w.heap.size, 1, none⟩) (Nat.le_refl _) (.int .i64 (p.1 : Int))).setCell (p := ⟨w.heap.size, 2, none⟩) (Nat.le_refl _) (.int .i64 (p.2 : Int))).alloc (by simp; omega) (.cells #[.int .i32 (-1), .int .i64 (p.1 : Int), .int .i64 (p.2 : Int)] 75))
  obtain ⟨-, k0, k1, k2, f0, f1, f2⟩ := q1.cells
  clear q0 q1 hB1 hb0 hR0 hR1
  go_wp2
  exact bodyPost_ret (resTake rfl HQ.out) rfl ⟨rfl, HR.out, gr_of HB.out (Nat.le_refl _) _⟩
set_option maxRecDepth 100000 in
set_option maxHeartbeats 1000000 in
theorem take_some (B g : Nat) (p : Ps) (x : It) (l : List It) (w : World) (h : Rdr w B g p (x :: l)) : Calls Try.prog 36 #[.pointer (some ⟨g, 0, none⟩)] w (TakeP B g p (x :: l) w) := by
  have hlt := h.lt
  have hb0 := (Below.refl _ w).alloc (Nat.le_refl _) (.cells #[.int .i32 0, .int .i64 0, .int .i64 0] 75)
  have hR0 := h.below hb0 hlt.2
  obtain ⟨n, hn⟩ : ∃ n, n = wc x := ⟨_, rfl⟩
  have hn1 : (n != -1) = true := by
    have := (wc_range (h.ok x List.mem_cons_self)).2.2
    rw [← hn] at this
    simpa using this
  have PK0 : Hid (Calls Try.prog 34 #[.pointer (some ⟨g, 0, none⟩)] (w.alloc (.cells #[.int .i32 0, .int .i64 0, .int .i64 0] 75)) (fun r w' => r = .returned (.agg #[.int .i32 n, .int .i64 (p.1 : Int), .int .i64 (p.2 : Int)]) ∧ Below (w.alloc (.cells #[.int .i32 0, .int .i64 0, .int .i64 0] 75)).heap.size (w.alloc (.cells #[.int .i32 0, .int .i64 0, .int .i64 0] 75)) w')) := Lib.hid (by rw [hn]; exact peek_any B g p (x :: l) _ hR0)
  have q0 : ChB (w.alloc (.cells #[.int .i32 0, .int .i64 0, .int .i64 0] 75)) w.heap.size 0 (0, 0) := Blk.new w 75 _
  have HN := Lib.hid hn
  clear h hn
  go_enter Try.func36, Try.ntmps36
  go_wp2_with fail
  refine PK0.out.mono ?_
  rintro r w1 ⟨rfl, hB1⟩
  have q1 : ChB w1 w.heap.size 0 (0, 0) := q0.below hB1 q0.lt
  have hs1 : w.heap.size < w1.heap.size := q1.lt
  have hR1 := hR0.below hB1 (by have := hb0.size; omega)
  obtain ⟨d, off, c, hc, g0, gf, hRN⟩ := hR1.next
  have HRN := Lib.hid hRN
  have hgl : g < w1.heap.size := by omega
  have hbA := (Below.refl w1.heap.size w1).alloc (Nat.le_refl _) (.cells #[.int .i32 n, .int .i64 (p.1 : Int), .int .i64 (p.2 : Int)] 75)
  have ga := (hbA.cell (p := ⟨g, 0, none⟩) hgl).trans g0
  have gfa := (hbA.frozen (p := ⟨g, 0, none⟩) hgl).trans gf
  have hB2 := Lib.hid (hb0.trans (hB1.mono hb0.size))
  obtain ⟨-, k0, k1, k2, f0, f1, f2⟩ := q1.cells
  have HQ := Lib.hid q1
  clear q0 q1 hB1 hb0 hR0 hR1 hRN hbA
  have i1 : (1 : Int) ≤ ((l.length : Int) + 2) := by omega
  go_wp2
  have hB2o := hB2.out
  have q1 := HQ.out
  have hw1 : ∀ B', B' ≤ w.heap.size → Below B' (w1.setCell ⟨g, 0, none⟩ (.slice (some ⟨d, off + 3, none⟩) (l.length + 1) (c - 1))) (((((w1.setCell ⟨g, 0, none⟩ (.slice (some ⟨d, off + 3, none⟩) (l.length + 1) (c - 1))).setCell ⟨w.heap.size, 0, none⟩ (.int .i32 n)).setCell ⟨w.heap.size, 1, none⟩ (.int .i64 (p.1 : Int))).setCell ⟨w.heap.size, 2, none⟩ (.int .i64 (p.2 : Int))).alloc (.cells #[.int .i32 n, .int .i64 (p.1 : Int), .int .i64 (p.2 : Int)] 75)) :=
    fun B' h => ((((Below.refl B' _).setCell (p := ⟨w.heap.size, 0, none⟩) h _).setCell (p := ⟨w.heap.size, 1, none⟩) h _).setCell (p := ⟨w.heap.size, 2, none⟩) h _).alloc (by simp; omega) _
  have q2 : ChB (w1.setCell ⟨g, 0, none⟩ (.slice (some ⟨d, off + 3, none⟩) (l.length + 1) (c - 1))) w.heap.size 0 (0, 0) := Blk.far q1 (show w.heap.size ≠ g by omega) _
  have hg1 := gr_trans (gr_of hB2o (Nat.le_refl _) (some g)) (gr_set (w := w1) ⟨g, 0, none⟩ (.slice (some ⟨d, off + 3, none⟩) (l.length + 1) (c - 1)))
  refine bodyPost_ret (resTake rfl ((q2.set (m := n) (q := p)).alloc _)) rfl ⟨by rw [HN.out]; rfl, (HRN.out (c - 1) (by omega)).below (hw1 B hlt.2) (Nat.le_refl _), gr_below hg1 (hw1 _ (Nat.le_refl _)) (Nat.le_refl _)⟩
theorem take_any (B g : Nat) (p : Ps) (l : List It) (w : World) (h : Rdr w B g p l) : Calls Try.prog 36 #[.pointer (some ⟨g, 0, none⟩)] w (TakeP B g p l w) := by
  cases l with
  | nil => exact take_end B g p w h
  | cons x l => exact take_some B g p x l w h

end Go.Proofs.Ytgpcbfjakgndlaa
