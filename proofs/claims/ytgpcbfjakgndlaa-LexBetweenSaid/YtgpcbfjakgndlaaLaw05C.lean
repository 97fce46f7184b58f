/-
  LexQuotes, where package lex answers as it is to and the law is awake.
-/
import Derived.Test.YtgpcbfjakgndlaaLaw05B
import Derived.Test.YtgpcbfjakgndlaaLexQuo
namespace Go.Proofs.Ytgpcbfjakgndlaa
open Go.RowKit
set_option linter.unusedSimpArgs false

theorem flat_len4 {l : List It} (h : ∀ x ∈ l, ItOk x) : (l.flatMap quoI).length ≤ 4 * l.length := by
  induction l with
  | nil => simp
  | cons x l ih =>
    have h1 := quo_len (h x List.mem_cons_self)
    have h2 := ih (fun y hy => h y (List.mem_cons_of_mem _ hy))
    rw [List.flatMap_cons, List.length_append, List.length_cons]
    omega
theorem quoteX_len (s : List UInt8) : (quoteX s).length ≤ 4 * s.length + 2 := by
  have h1 := flat_len4 (cut_item s)
  have h2 := cut_len s
  unfold quoteX
  rw [List.length_cons, List.length_append, List.length_singleton]
  omega
theorem allX_quote {s : List UInt8} (h : s.length ≤ 1000) : ∃ p, allX (quoteX s) = ([⟨2, s, (1, 1)⟩, ⟨0, [], p⟩], 0, (0, 0)) := by
  have h1 := quoteX_len s
  rw [allX_ok (by omega)]
  have e := lx_quote s (1, 1) []
  rw [List.append_nil, cut_nil, lx_nil] at e
  exact ⟨_, e⟩
theorem allX_word {s : List UInt8} (h : s.length ≤ 1000) (hp : plainX s = true) : ∃ p, allX s = ([⟨1, s, (1, 1)⟩, ⟨0, [], p⟩], 0, (0, 0)) := by
  rw [allX_ok (by omega)]
  have e := lx_word hp (1, 1) [] (.inl rfl)
  rw [List.append_nil, cut_nil, lx_nil] at e
  exact ⟨_, e⟩

set_option maxRecDepth 100000 in
set_option maxHeartbeats 2000000 in
theorem lexQuotes_walk (s : List UInt8) (w : World) (C : LexC) (HA : Awake5) :
    Calls Try.prog 4 #[.string (txt s)] w fun e w' => e = .returned (.bool true) ∧ Below w.heap.size w w' := by
  have hsz := txt_size s
  have HC := Lib.hid C
  have HAW := Lib.hid HA
  clear C HA
  by_cases h9 : 1000 < s.length
  · have i0 : (1000 : Int) < (s.length : Int) := by omega
    go_enter Try.func4, Try.ntmps4
    go_wp2_with fail
    refine (HAW.out _).mono ?_
    rintro r w1 ⟨rfl, hB1⟩
    go_wp2
    go_ret
    exact ⟨rfl, hB1⟩
  · have i0 : ¬ (1000 : Int) < (s.length : Int) := by omega
    have hs1 : s.length ≤ 1000 := by omega
    obtain ⟨p, hp⟩ := allX_quote hs1
    have hql := quoteX_len s
    have ts : (txt s).toList = s := txt_toList s
    have QUO : ∀ W, Hid (Calls Try.prog 13 #[.string (txt s)] W (fun r w' => r = .returned (.string (txt (quoteX s))) ∧ Below W.heap.size W w')) := fun W => Lib.hid (HC.out.quote s W (by omega))
    have RQUO : ∀ W, Hid (Calls Try.prog 16 #[.string (txt s)] W (fun r w' => r = .returned (.string (txt (quoteX s))) ∧ Below W.heap.size W w')) := fun W => Lib.hid (rquote_any s W (by omega))
    have PLA : ∀ W, Hid (Calls Try.prog 14 #[.string (txt s)] W (fun r w' => r = .returned (.bool (plainX s)) ∧ Below W.heap.size W w')) := fun W => Lib.hid (HC.out.plain s W (by omega))
    have RPLA : ∀ W, Hid (Calls Try.prog 15 #[.string (txt s)] W (fun r w' => r = .returned (.bool (plainX s)) ∧ W = w')) := fun W => Lib.hid (rplain_any s W (by omega))
    have ALQ : ∀ W, Hid (Calls Try.prog 9 #[.string (txt (quoteX s))] W (fun r w' => ∃ v d, r = .returned (.tuple #[v, .int .i64 0, .agg #[.int .i64 0, .int .i64 0]]) ∧ Toks w' d v [⟨2, s, (1, 1)⟩, ⟨0, [], p⟩] ∧ Below W.heap.size W w')) := fun W => Lib.hid (by
      have h := HC.out.all (quoteX s) W (by omega)
      unfold LexAllP at h
      rw [hp] at h
      exact h)
    have ALW : plainX s = true → Hid (∃ p', ∀ W, (Calls Try.prog 9 #[.string (txt s)] W (fun r w' => ∃ v d, r = .returned (.tuple #[v, .int .i64 0, .agg #[.int .i64 0, .int .i64 0]]) ∧ Toks w' d v [⟨1, s, (1, 1)⟩, ⟨0, [], p'⟩] ∧ Below W.heap.size W w'))) := fun hpl => Lib.hid (by
      obtain ⟨p', hp'⟩ := allX_word hs1 hpl
      refine ⟨p', fun W => ?_⟩
      have h := HC.out.all s W (by omega)
      unfold LexAllP at h
      rw [hp'] at h
      exact h)
    obtain ⟨Q, hQ⟩ : ∃ Q, Q = quoteX s := ⟨_, rfl⟩
    rw [← hQ] at QUO RQUO ALQ
    have tq : (txt Q).toList = Q := txt_toList Q
    clear h9 hp hql hQ hs1
    go_enter Try.func4, Try.ntmps4
    go_wp2_with fail
    refine (HAW.out _).mono ?_
    rintro r w1 ⟨rfl, hB1⟩
    go_wp2_with fail
    refine (QUO _).out.mono ?_
    rintro r w2 ⟨rfl, hB2⟩
    go_wp2_with fail
    refine (ALQ _).out.mono ?_
    rintro r w3 ⟨v3, d3, rfl, ht3, hB3⟩
    obtain ⟨A3, c3, rfl⟩ := RowK.shape ht3
    have ht4 := ht3.below ((Below.refl _ w3).alloc (Nat.le_refl _) (.cells #[.int .i64 0, .int .i64 0] 26))
    have s1 := hB1.size
    have s2 := hB2.size
    have s3 := hB3.size
    have hB4 := (((hB1.trans (hB2.mono s1)).trans (hB3.mono (by omega))).alloc (by omega) (.cells #[.int .i64 0, .int .i64 0] 26))
    have s4 := hB4.size
    clear ht3 hB1 hB2 hB3
    go_wp2_with fail
    refine (PLA _).out.mono ?_
    rintro r w5 ⟨rfl, hB5⟩
    have ht5 := ht4.below hB5
    have hB6 := hB4.trans (hB5.mono s4)
    have s6 := hB6.size
    clear ht4 hB4 hB5
    go_wp2_with fail
    refine (RPLA _).out.mono ?_
    rintro r w5' ⟨rfl, rfl⟩
    cases hpl : plainX s with
    | false =>
      rw [hpl] at PLA
      go_wp2_with fail
      refine (RQUO _).out.mono ?_
      rintro r w7 ⟨rfl, hB7⟩
      have ht7 := ht5.below hB7
      have hB8 := hB6.trans (hB7.mono s6)
      have s8 := hB8.size
      clear ht5 hB6 hB7
      go_wp2_with fail
      refine (PLA _).out.mono ?_
      rintro r w9 ⟨rfl, hB9⟩
      have ht9 : Toks w9 d3 (.slice A3 2 c3) [⟨2, s, (1, 1)⟩, ⟨0, [], p⟩] := ht7.below hB9
      obtain ⟨-, -, o, rfl, -, k0, k1, k2, k3⟩ := ht9.at (i := 0) rfl
      obtain ⟨-, -, o', e, -, m0, -⟩ := ht9.at (i := 1) rfl
      injection e with e
      injection e with _ e _
      subst e
      simp only [Nat.zero_mul, Nat.add_zero, Nat.one_mul] at k0 k1 k2 k3 m0
      have HB := Lib.hid (hB8.trans (hB9.mono s8))
      clear ht7 ht9 hB8 hB9
      go_wp2
      all_goals go_ret
      all_goals exact ⟨rfl, HB.out⟩
    | true =>
      obtain ⟨p', hw⟩ := (ALW hpl).out
      have HW := fun W => Lib.hid (hw W)
      rw [hpl] at PLA
      clear ALW hw
      go_wp2_with fail
      refine (RQUO _).out.mono ?_
      rintro r w7 ⟨rfl, hB7⟩
      have ht7 := ht5.below hB7
      have hB8 := hB6.trans (hB7.mono s6)
      have s8 := hB8.size
      clear ht5 hB6 hB7
      go_wp2_with fail
      refine (PLA _).out.mono ?_
      rintro r w9 ⟨rfl, hB9⟩
      have ht9 : Toks w9 d3 (.slice A3 2 c3) [⟨2, s, (1, 1)⟩, ⟨0, [], p⟩] := ht7.below hB9
      have hB10 := hB8.trans (hB9.mono s8)
      have s10 := hB10.size
      clear ht7 hB8 hB9
      go_wp2_with fail
      refine (HW _).out.mono ?_
      rintro r w11 ⟨v11, d11, rfl, ht11, hB11⟩
      obtain ⟨A11, c11, rfl⟩ := RowK.shape ht11
      have hbA := (Below.refl _ w11).alloc (Nat.le_refl _) (.cells #[.int .i64 0, .int .i64 0] 26)
      have ht12 : Toks (w11.alloc (.cells #[.int .i64 0, .int .i64 0] 26)) d11 (.slice A11 2 c11) [⟨1, s, (1, 1)⟩, ⟨0, [], p'⟩] := ht11.below hbA
      have ht13 : Toks (w11.alloc (.cells #[.int .i64 0, .int .i64 0] 26)) d3 (.slice A3 2 c3) [⟨2, s, (1, 1)⟩, ⟨0, [], p⟩] := (ht9.below hB11).below hbA
      have HB := Lib.hid ((hB10.trans (hB11.mono s10)).alloc (by have := hB11.size; omega) (.cells #[.int .i64 0, .int .i64 0] 26))
      obtain ⟨-, -, q, rfl, -, n0, n1, -, -⟩ := ht12.at (i := 0) rfl
      simp only [Nat.zero_mul, Nat.add_zero] at n0 n1
      obtain ⟨-, -, o, rfl, -, k0, k1, k2, k3⟩ := ht13.at (i := 0) rfl
      obtain ⟨-, -, o', e, -, m0, -⟩ := ht13.at (i := 1) rfl
      injection e with e
      injection e with _ e _
      subst e
      simp only [Nat.zero_mul, Nat.add_zero, Nat.one_mul] at k0 k1 k2 k3 m0
      clear ht9 ht11 ht12 ht13 hB10 hB11 hbA
      go_wp2
      all_goals go_ret
      all_goals exact ⟨rfl, HB.out⟩

end Go.Proofs.Ytgpcbfjakgndlaa
