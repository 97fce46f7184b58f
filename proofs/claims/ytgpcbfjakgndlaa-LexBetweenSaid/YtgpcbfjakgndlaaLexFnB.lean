/-
  Package lex: digit, escaped, comment and skip of the reader. No condition but those of each theorem.
-/
import Derived.Test.YtgpcbfjakgndlaaLexFnA
import Derived.WalkLawsBesides
import Derived.LoopTactic
namespace Go.Proofs.Ytgpcbfjakgndlaa
open Go.RowKit
set_option linter.unusedSimpArgs false

/-- What take answers, in the walk's words. -/
def TakeW (B g : Nat) (p : Ps) (l : List It) (n : Int) (W : World) : Prop :=
  Calls Try.prog 36 #[.pointer (some ⟨g, 0, none⟩)] W (fun r w' => r = .returned (.agg #[.int .i32 n, .int .i64 (p.1 : Int), .int .i64 (p.2 : Int)]) ∧ Rdr w' B g (nxP p l) l.tail ∧ W.grownBy w' (some g))
theorem takeW (B g : Nat) (p : Ps) (l : List It) (n : Int) (hn : n = hdc l) (W : World) (h : Rdr W B g p l) : TakeW B g p l n W := by
  subst hn
  exact take_any B g p l W h
theorem ret_num {k : IntKind} {a b : Int} (h : a = b) : Ending.returned (.int k a) = .returned (.int k b) := by rw [h]
/-- A problem, as it is told. -/
def prb (q : Ps) : List PanicEntry := [{ v := .iface 42 (.agg #[.int .i64 (q.1 : Int), .int .i64 (q.2 : Int)]), recovered := false }]

set_option maxRecDepth 100000 in
set_option maxHeartbeats 1000000 in
theorem digit_some (B g : Nat) (p : Ps) (l : List It) (i : Nat) (hi : digN (hdc l) = some i) (w : World) (h : Rdr w B g p l) :
    Calls Try.prog 46 #[.pointer (some ⟨g, 0, none⟩)] w fun r w' => r = .returned (.int .u8 (i : Int)) ∧ Rdr w' B g (nxP p l) l.tail ∧ w.grownBy w' (some g) := by
  obtain ⟨n, hn⟩ : ∃ n, n = hdc l := ⟨_, rfl⟩
  rw [← hn] at hi
  have TK := Lib.hid (takeW B g p l n hn w h)
  clear h hn
  have hr : (48 ≤ n ∧ n ≤ 57 ∧ (i : Int) = n - 48) ∨ (97 ≤ n ∧ n ≤ 102 ∧ (i : Int) = n - 87) := by
    unfold digN at hi
    split at hi
    · injection hi with hi; omega
    split at hi
    · injection hi with hi; omega
    · cases hi
  clear hi
  rcases hr with ⟨h1, h2, h3⟩ | ⟨h1, h2, h3⟩
  · rw [h3]
    clear h3
    go_enter Try.func46, Try.ntmps46
    go_wp2_with fail
    refine TK.out.mono ?_
    rintro r w1 ⟨rfl, hR1, hg1⟩
    have HR := Lib.hid (hR1.below ((Below.refl B w1).alloc hR1.lt.2 (.cells #[.int .i32 n, .int .i64 (p.1 : Int), .int .i64 (p.2 : Int)] 75)) (Nat.le_refl _))
    have HG := Lib.hid (gr_below hg1 ((Below.refl w1.heap.size w1).alloc (Nat.le_refl _) (.cells #[.int .i32 n, .int .i64 (p.1 : Int), .int .i64 (p.2 : Int)] 75)) hg1.size)
    clear hR1 hg1
    go_wp2
    go_ret
    exact ⟨rfl, HR.out, HG.out⟩
  · rw [h3]
    clear h3
    have h0 : ¬ n ≤ 57 := by omega
    have h48 : 48 ≤ n := by omega
    go_enter Try.func46, Try.ntmps46
    go_wp2_with fail
    refine TK.out.mono ?_
    rintro r w1 ⟨rfl, hR1, hg1⟩
    have HR := Lib.hid (hR1.below ((Below.refl B w1).alloc hR1.lt.2 (.cells #[.int .i32 n, .int .i64 (p.1 : Int), .int .i64 (p.2 : Int)] 75)) (Nat.le_refl _))
    have HG := Lib.hid (gr_below hg1 ((Below.refl w1.heap.size w1).alloc (Nat.le_refl _) (.cells #[.int .i32 n, .int .i64 (p.1 : Int), .int .i64 (p.2 : Int)] 75)) hg1.size)
    clear hR1 hg1
    go_wp2
    go_ret
    exact ⟨ret_num (by omega), HR.out, HG.out⟩
set_option maxRecDepth 100000 in
set_option maxHeartbeats 1000000 in
theorem digit_none (B g : Nat) (p : Ps) (l : List It) (hi : digN (hdc l) = none) (w : World) (h : Rdr w B g p l) :
    Calls Try.prog 46 #[.pointer (some ⟨g, 0, none⟩)] w fun r w' => r = .panicked (prb p) ∧ w.grownBy w' (some g) := by
  obtain ⟨n, hn⟩ : ∃ n, n = hdc l := ⟨_, rfl⟩
  rw [← hn] at hi
  have TK := Lib.hid (takeW B g p l n hn w h)
  clear h hn
  have hr : ¬ (48 ≤ n ∧ n ≤ 57) ∧ ¬ (97 ≤ n ∧ n ≤ 102) := by
    unfold digN at hi
    split at hi
    · cases hi
    split at hi
    · cases hi
    · exact ⟨by assumption, by assumption⟩
  clear hi
  obtain ⟨h1, h2⟩ := hr
  go_enter Try.func46, Try.ntmps46
  go_wp2_with fail
  refine TK.out.mono ?_
  rintro r w1 ⟨rfl, hR1, hg1⟩
  have HG := Lib.hid (gr_below hg1 ((Below.refl w1.heap.size w1).alloc (Nat.le_refl _) (.cells #[.int .i32 n, .int .i64 (p.1 : Int), .int .i64 (p.2 : Int)] 75)) hg1.size)
  clear hR1 hg1
  go_wp2
  all_goals first
    | exact ⟨rfl, rfl, HG.out⟩
    | (exfalso; omega)

/-! ### escaped -/
/-- What digit answers. -/
theorem digitW_some (B g : Nat) (p : Ps) (l : List It) (i : Nat) (hi : digN (hdc l) = some i) (W : World) (h : Rdr W B g p l) :
    Hid (Calls Try.prog 46 #[.pointer (some ⟨g, 0, none⟩)] W fun r w' => r = .returned (.int .u8 (i : Int)) ∧ Rdr w' B g (nxP p l) l.tail ∧ W.grownBy w' (some g)) := Lib.hid (digit_some B g p l i hi W h)
theorem digitW_none (B g : Nat) (p : Ps) (l : List It) (hi : digN (hdc l) = none) (W : World) (h : Rdr W B g p l) :
    Hid (Calls Try.prog 46 #[.pointer (some ⟨g, 0, none⟩)] W fun r w' => r = .panicked (prb p) ∧ W.grownBy w' (some g)) := Lib.hid (digit_none B g p l hi W h)
/-- What escaped leaves. -/
def EscP (B g : Nat) (p : Ps) (l : List It) (w : World) (r : Ending) (w' : World) : Prop :=
  w.grownBy w' (some g) ∧ match escX p l with
    | .inl q => r = .panicked (prb q)
    | .inr (c, n) => r = .returned (.int .u8 (c.toNat : Int)) ∧ Rdr w' B g (advs p (l.take n)) (l.drop n)
theorem esc_byte {i j : Nat} (hi : i < 16) (hj : j < 16) : ((UInt8.ofNat (16 * i + j)).toNat : Int) = 16 * (i : Int) + (j : Int) := by
  rw [UInt8.toNat_ofNat', Nat.mod_eq_of_lt (by omega)]
  omega
theorem or_nib : ∀ i : Nat, i < 16 → ∀ j : Nat, j < 16 → bits BinOp.or IntKind.u8 ((i : Int) * 16) (j : Int) = 16 * (i : Int) + (j : Int) := by decide
set_option maxRecDepth 100000 in
set_option maxHeartbeats 2000000 in
theorem escaped_any (B g : Nat) (p : Ps) (l : List It) (w : World) (h : Rdr w B g p l) :
    Calls Try.prog 43 #[.pointer (some ⟨g, 0, none⟩)] w (EscP B g p l w) := by
  obtain ⟨n, hn⟩ : ∃ n, n = hdc l := ⟨_, rfl⟩
  have TK := Lib.hid (takeW B g p l n hn w h)
  have hok := h.ok
  cases l with
  | nil =>
    have hn1 : n = -1 := hn
    subst hn1
    have HE : Hid (escX p [] = .inl p) := Lib.hid rfl
    clear h hn
    go_enter Try.func43, Try.ntmps43
    go_wp2_with fail
    refine TK.out.mono ?_
    rintro r w1 ⟨rfl, hR1, hg1⟩
    have HG := Lib.hid (gr_below hg1 ((Below.refl w1.heap.size w1).alloc (Nat.le_refl _) (.cells #[.int .i32 (-1), .int .i64 (p.1 : Int), .int .i64 (p.2 : Int)] 75)) hg1.size)
    clear hR1 hg1
    go_wp2
    exact ⟨rfl, HG.out, by rw [HE.out]; rfl⟩
  | cons y r2 =>
    have hy := hok y List.mem_cons_self
    have e34 := wc_ascii hy 34 (by decide)
    have e92 := wc_ascii hy 92 (by decide)
    have e110 := wc_ascii hy 110 (by decide)
    have e116 := wc_ascii hy 116 (by decide)
    have e120 := wc_ascii hy 120 (by decide)
    rw [show wc y = n from hn.symm] at e34 e92 e110 e116 e120
    have t1 : advs p ((y :: r2).take 1) = adv p y := rfl
    by_cases d1 : y.1 = [34]
    · have HE : Hid (escX p (y :: r2) = .inr (34, 1)) := Lib.hid (by unfold escX; simp only; rw [if_pos d1])
      obtain rfl : n = 34 := e34.2 d1
      clear h hn e34 e92 e110 e116 e120 d1 hy hok
      go_enter Try.func43, Try.ntmps43
      go_wp2_with fail
      refine TK.out.mono ?_
      rintro r w1 ⟨rfl, hR1, hg1⟩
      have HR := Lib.hid (hR1.below ((Below.refl B w1).alloc hR1.lt.2 (.cells #[.int .i32 34, .int .i64 (p.1 : Int), .int .i64 (p.2 : Int)] 75)) (Nat.le_refl _))
      have HG := Lib.hid (gr_below hg1 ((Below.refl w1.heap.size w1).alloc (Nat.le_refl _) (.cells #[.int .i32 34, .int .i64 (p.1 : Int), .int .i64 (p.2 : Int)] 75)) hg1.size)
      clear hR1 hg1
      go_wp2
      go_ret
      exact ⟨HG.out, by rw [HE.out]; exact ⟨rfl, HR.out⟩⟩
    by_cases d2 : y.1 = [92]
    · have HE : Hid (escX p (y :: r2) = .inr (92, 1)) := Lib.hid (by unfold escX; simp only; rw [if_neg d1, if_pos d2])
      obtain rfl : n = 92 := e92.2 d2
      clear h hn e34 e92 e110 e116 e120 d2 hy hok d1
      go_enter Try.func43, Try.ntmps43
      go_wp2_with fail
      refine TK.out.mono ?_
      rintro r w1 ⟨rfl, hR1, hg1⟩
      have HR := Lib.hid (hR1.below ((Below.refl B w1).alloc hR1.lt.2 (.cells #[.int .i32 92, .int .i64 (p.1 : Int), .int .i64 (p.2 : Int)] 75)) (Nat.le_refl _))
      have HG := Lib.hid (gr_below hg1 ((Below.refl w1.heap.size w1).alloc (Nat.le_refl _) (.cells #[.int .i32 92, .int .i64 (p.1 : Int), .int .i64 (p.2 : Int)] 75)) hg1.size)
      clear hR1 hg1
      go_wp2
      go_ret
      exact ⟨HG.out, by rw [HE.out]; exact ⟨rfl, HR.out⟩⟩
    by_cases d3 : y.1 = [110]
    · have HE : Hid (escX p (y :: r2) = .inr (10, 1)) := Lib.hid (by unfold escX; simp only; rw [if_neg d1, if_neg d2, if_pos d3])
      obtain rfl : n = 110 := e110.2 d3
      clear h hn e34 e92 e110 e116 e120 d3 hy hok d1 d2
      go_enter Try.func43, Try.ntmps43
      go_wp2_with fail
      refine TK.out.mono ?_
      rintro r w1 ⟨rfl, hR1, hg1⟩
      have HR := Lib.hid (hR1.below ((Below.refl B w1).alloc hR1.lt.2 (.cells #[.int .i32 110, .int .i64 (p.1 : Int), .int .i64 (p.2 : Int)] 75)) (Nat.le_refl _))
      have HG := Lib.hid (gr_below hg1 ((Below.refl w1.heap.size w1).alloc (Nat.le_refl _) (.cells #[.int .i32 110, .int .i64 (p.1 : Int), .int .i64 (p.2 : Int)] 75)) hg1.size)
      clear hR1 hg1
      go_wp2
      go_ret
      exact ⟨HG.out, by rw [HE.out]; exact ⟨rfl, HR.out⟩⟩
    by_cases d4 : y.1 = [116]
    · have HE : Hid (escX p (y :: r2) = .inr (9, 1)) := Lib.hid (by unfold escX; simp only; rw [if_neg d1, if_neg d2, if_neg d3, if_pos d4])
      obtain rfl : n = 116 := e116.2 d4
      clear h hn e34 e92 e110 e116 e120 d4 hy hok d1 d2 d3
      go_enter Try.func43, Try.ntmps43
      go_wp2_with fail
      refine TK.out.mono ?_
      rintro r w1 ⟨rfl, hR1, hg1⟩
      have HR := Lib.hid (hR1.below ((Below.refl B w1).alloc hR1.lt.2 (.cells #[.int .i32 116, .int .i64 (p.1 : Int), .int .i64 (p.2 : Int)] 75)) (Nat.le_refl _))
      have HG := Lib.hid (gr_below hg1 ((Below.refl w1.heap.size w1).alloc (Nat.le_refl _) (.cells #[.int .i32 116, .int .i64 (p.1 : Int), .int .i64 (p.2 : Int)] 75)) hg1.size)
      clear hR1 hg1
      go_wp2
      go_ret
      exact ⟨HG.out, by rw [HE.out]; exact ⟨rfl, HR.out⟩⟩
    by_cases d5 : y.1 = [120]
    · obtain rfl : n = 120 := e120.2 d5
      have hx : escX p (y :: r2) = match digN (hdc r2) with
          | none => .inl (adv p y)
          | some i => match digN (hdc r2.tail) with
            | none => .inl (nxP (adv p y) r2)
            | some j => .inr (UInt8.ofNat (16 * i + j), 3) := by
        conv => lhs; unfold escX
        simp only
        rw [if_neg d1, if_neg d2, if_neg d3, if_neg d4, if_pos d5]
        rfl
      clear h hn e34 e92 e110 e116 e120 d1 d2 d3 d4 d5 hy hok
      go_enter Try.func43, Try.ntmps43
      go_wp2_with fail
      refine TK.out.mono ?_
      rintro r w1 ⟨rfl, hR1, hg1⟩
      have hRB : Rdr (w1.alloc (.cells #[.int .i32 120, .int .i64 (p.1 : Int), .int .i64 (p.2 : Int)] 75)) B g (adv p y) r2 := hR1.below ((Below.refl B w1).alloc hR1.lt.2 (.cells #[.int .i32 120, .int .i64 (p.1 : Int), .int .i64 (p.2 : Int)] 75)) (Nat.le_refl _)
      have hgB := gr_below hg1 ((Below.refl w1.heap.size w1).alloc (Nat.le_refl _) (.cells #[.int .i32 120, .int .i64 (p.1 : Int), .int .i64 (p.2 : Int)] 75)) hg1.size
      clear hR1 hg1
      cases hd1 : digN (hdc r2) with
      | none =>
        rw [hd1] at hx
        have HE := Lib.hid hx
        have D1 := digitW_none B g (adv p y) r2 hd1 _ hRB
        have HGB := Lib.hid hgB
        clear hx hd1 hRB hgB
        go_wp2_with fail
        refine D1.out.mono ?_
        rintro r w2 ⟨rfl, hg2⟩
        have HG := Lib.hid (gr_trans HGB.out hg2)
        clear hg2
        go_wp2
        exact ⟨rfl, HG.out, by rw [HE.out]⟩
      | some i =>
        rw [hd1] at hx
        have hi := digN_lt hd1
        have D1 := digitW_some B g (adv p y) r2 i hd1 _ hRB
        have HGB := Lib.hid hgB
        have HD1 := Lib.hid hd1
        clear hd1 hRB hgB
        go_wp2_with fail
        refine D1.out.mono ?_
        rintro r w2 ⟨rfl, hR2, hg2⟩
        have hg3 := gr_trans HGB.out hg2
        clear hg2
        cases hd2 : digN (hdc r2.tail) with
        | none =>
          rw [hd2] at hx
          have HE := Lib.hid hx
          have D2 := digitW_none B g _ _ hd2 _ hR2
          have HG3 := Lib.hid hg3
          clear hx hd2 hR2 hg3
          go_wp2_with fail
          refine D2.out.mono ?_
          rintro r w3 ⟨rfl, hg4⟩
          have HG := Lib.hid (gr_trans HG3.out hg4)
          clear hg4
          go_wp2
          exact ⟨rfl, HG.out, by rw [HE.out]⟩
        | some j =>
          rw [hd2] at hx
          have hj := digN_lt hd2
          have HE := Lib.hid hx
          have D2 := digitW_some B g _ _ j hd2 _ hR2
          have HG3 := Lib.hid hg3
          have HD2 := Lib.hid hd2
          clear hx hd2 hR2 hg3
          go_wp2_with fail
          refine D2.out.mono ?_
          rintro r w3 ⟨rfl, hR3, hg4⟩
          have HG := Lib.hid (gr_trans HG3.out hg4)
          have HR := Lib.hid hR3
          clear hg4 hR3
          go_wp2
          have HB := Lib.hid ((or_nib i hi j hj).trans (esc_byte hi hj).symm)
          have hne : ∀ l : List It, (digN (hdc l)).isSome → ∃ a m, l = a :: m := fun l h => by
            cases l with
            | nil => rw [digN_end] at h; cases h
            | cons a m => exact ⟨a, m, rfl⟩
          go_ret
          refine ⟨HG.out, ?_⟩
          rw [HE.out]
          refine ⟨ret_num HB.out, ?_⟩
          obtain ⟨a, r3, rfl⟩ := hne r2 (by rw [HD1.out]; rfl)
          obtain ⟨c, r4, e4⟩ := hne _ (by rw [HD2.out]; rfl)
          have e5 : r3 = c :: r4 := e4
          subst e5
          exact HR.out
    · have HE : Hid (escX p (y :: r2) = .inl p) := Lib.hid (by unfold escX; simp only; rw [if_neg d1, if_neg d2, if_neg d3, if_neg d4, if_neg d5])
      have n1 : (n == 34) = false := beq_eq_false_iff_ne.2 (fun e => d1 (e34.1 e))
      have n2 : (n == 92) = false := beq_eq_false_iff_ne.2 (fun e => d2 (e92.1 e))
      have n3 : (n == 110) = false := beq_eq_false_iff_ne.2 (fun e => d3 (e110.1 e))
      have n4 : (n == 116) = false := beq_eq_false_iff_ne.2 (fun e => d4 (e116.1 e))
      have n5 : (n == 120) = false := beq_eq_false_iff_ne.2 (fun e => d5 (e120.1 e))
      clear h hn e34 e92 e110 e116 e120 d1 d2 d3 d4 d5 hy hok
      go_enter Try.func43, Try.ntmps43
      go_wp2_with fail
      refine TK.out.mono ?_
      rintro r w1 ⟨rfl, hR1, hg1⟩
      have HG := Lib.hid (gr_below hg1 ((Below.refl w1.heap.size w1).alloc (Nat.le_refl _) (.cells #[.int .i32 n, .int .i64 (p.1 : Int), .int .i64 (p.2 : Int)] 75)) hg1.size)
      clear hR1 hg1
      go_wp2
      exact ⟨rfl, HG.out, by rw [HE.out]; rfl⟩

end Go.Proofs.Ytgpcbfjakgndlaa
