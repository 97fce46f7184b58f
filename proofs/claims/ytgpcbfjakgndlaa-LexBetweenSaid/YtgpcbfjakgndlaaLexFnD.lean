/-
  Package lex: skip and word of the reader. No condition but those of each theorem.
-/
import Derived.Test.YtgpcbfjakgndlaaLexFnC
import Derived.Test.YtgpcbfjakgndlaaLexOrd
namespace Go.Proofs.Ytgpcbfjakgndlaa
open Go.RowKit
set_option linter.unusedSimpArgs false

theorem consO_none (q : Ps) (r : List It) : consO none (lx q r) = lx q r := by
  unfold consO
  rcases lx_ends q r with ⟨h1, h2, _⟩ | ⟨h1, h2⟩
  · rw [if_pos h1]
    generalize lx q r = z at h1 h2
    obtain ⟨a, b, c⟩ := z
    simp only at h1 h2
    subst h1 h2
    rfl
  · rw [if_neg (by rw [h1]; decide), ← h2]
theorem lx_blank {p : Ps} {x : It} {r : List It} (h : blankB x.1 = true) : lx p (x :: r) = lx (adv p x) r := by
  have e : step p x r = .go none r (adv p x) := by unfold step; rw [if_pos h]
  rw [lx_go e, consO_none]
theorem lx_note {p : Ps} {x : It} {r : List It} (h : x.1 = [35]) : lx p (x :: r) = lx (cmX nnB p (x :: r)).1 (cmX nnB p (x :: r)).2 := by
  have e : step p x r = .go none (cmX nnB (adv p x) r).2 (cmX nnB (adv p x) r).1 := by
    unfold step
    rw [if_neg (by rw [h]; decide), if_pos h]
    rfl
  rw [lx_go e, consO_none, cmX_go (by unfold nnB; rw [h]; decide)]
theorem blankN_wc {x : It} (h : ItOk x) : blankN (wc x) = blankB x.1 := by
  unfold blankN blankB
  have e32 := wc_beq h 32 (by decide)
  have e9 := wc_beq h 9 (by decide)
  have e13 := wc_beq h 13 (by decide)
  have e10 := wc_beq h 10 (by decide)
  rw [← e32, ← e9, ← e13, ← e10]
  rfl
/-- No blank stands at the front, and no comment. -/
def Skd (l : List It) : Prop := ∀ x r, l = x :: r → blankB x.1 = false ∧ x.1 ≠ [35]
/-- What skip leaves. -/
def SkipP (B g : Nat) (p : Ps) (l : List It) (w : World) (r : Ending) (w' : World) : Prop :=
  r = .returned (.tuple #[]) ∧ w.grownBy w' (some g) ∧ ∃ p' l', Rdr w' B g p' l' ∧ lx p' l' = lx p l ∧ Skd l' ∧ l'.length ≤ l.length
set_option maxRecDepth 100000 in
set_option maxHeartbeats 2000000 in
theorem skip_any (B g : Nat) (p : Ps) (l : List It) (w : World) (h : Rdr w B g p l) :
    Calls Try.prog 28 #[.pointer (some ⟨g, 0, none⟩)] w (SkipP B g p l w) := by
  have hfd := field_what
  go_enter Try.func28, Try.ntmps28
  go_wp2
  go_loopw [] (fun wr => ∃ (p' : Ps) (l' : List It), Rdr wr B g p' l' ∧ w.grownBy wr (some g) ∧ Hid (lx p' l' = lx p l ∧ l'.length ≤ l.length)) (fun wr => rdN wr g)
  case atStart => exact ⟨p, l, h, gr_refl _ _, Lib.hid ⟨rfl, Nat.le_refl _⟩⟩
  case round =>
    obtain ⟨p', l', hR, hG, HC⟩ := hrel
    obtain ⟨n, hn⟩ : ∃ n, n = hdc l' := ⟨_, rfl⟩
    have PK := Lib.hid (peekW B g p' l' n hn wr hR)
    have hok := hR.ok
    have hlt := hR.lt
    cases l' with
    | nil =>
      have hn1 : n = -1 := hn
      subst hn1
      have BL : ∀ W, Hid (Calls Try.prog 35 #[.int .i32 (-1)] W fun r w' => r = .returned (.bool false) ∧ W = w') := fun W => Lib.hid (blank_any (-1) W)
      clear hn
      go_wp2_with fail
      refine PK.out.mono ?_
      rintro r w1 ⟨rfl, hB1⟩
      have HR1 := Lib.hid (hR.below hB1 hlt.2)
      have HG1 := Lib.hid (gr_below hG hB1 hG.size)
      clear hR hG hB1
      go_wp2_with fail
      refine (BL _).out.mono ?_
      rintro r w2 ⟨rfl, rfl⟩
      go_wp2
      all_goals (first | go_end0 | refine bodyPost_ret (results_none rfl _ _ _) rfl ?_)
      all_goals exact ⟨rfl, HG1.out, _, _, HR1.out, HC.out.1, fun _ _ h => (by cases h), HC.out.2⟩
    | cons x r =>
      have hx := hok x List.mem_cons_self
      have e35 := wc_ascii hx 35 (by decide)
      have eb := blankN_wc hx
      rw [show wc x = n from hn.symm] at e35 eb
      cases hbl : blankB x.1 with
      | true =>
        have BL : ∀ W, Hid (Calls Try.prog 35 #[.int .i32 n] W fun r w' => r = .returned (.bool true) ∧ W = w') := fun W => Lib.hid (by rw [← hbl, ← eb]; exact blank_any n W)
        have HF := Lib.hid (lx_blank (p := p') (r := r) hbl)
        have HN := Lib.hid hn
        clear hn e35 eb hx hok hbl
        go_wp2_with fail
        refine PK.out.mono ?_
        rintro r' w1 ⟨rfl, hB1⟩
        have hR1 := hR.below hB1 hlt.2
        have HG1 := Lib.hid (gr_below hG hB1 hG.size)
        have HM := Lib.hid hR.n
        have TK := Lib.hid (takeW B g p' (x :: r) n HN.out w1 hR1)
        clear hR hG hB1 hR1
        go_wp2_with fail
        refine (BL _).out.mono ?_
        rintro r' w2 ⟨rfl, rfl⟩
        go_wp2_with fail
        refine TK.out.mono ?_
        rintro r' w3 ⟨rfl, hR3, hg3⟩
        have HG3 := Lib.hid (gr_trans HG1.out hg3)
        have HR3 := Lib.hid hR3
        clear hR3 hg3
        go_wp2
        go_roundw
        case rel => exact ⟨_, _, HR3.out, HG3.out, Lib.hid ⟨HF.out.symm.trans HC.out.1, by have := HC.out.2; simp at this ⊢; omega⟩⟩
        case measure =>
          rw [HR3.out.n, HM.out]
          simp
      | false =>
        have BL : ∀ W, Hid (Calls Try.prog 35 #[.int .i32 n] W fun r w' => r = .returned (.bool false) ∧ W = w') := fun W => Lib.hid (by rw [← hbl, ← eb]; exact blank_any n W)
        by_cases d : x.1 = [35]
        · have HF := Lib.hid (lx_note (p := p') (r := r) d)
          have n35 : n = 35 := e35.2 d
          subst n35
          have HL : Hid ((cmX nnB p' (x :: r)).2.length ≤ r.length) := Lib.hid (by rw [cmX_go (by unfold nnB; rw [d]; decide)]; exact cmX_len _ _ _)
          clear hn e35 eb hx hok hbl d
          go_wp2_with fail
          refine PK.out.mono ?_
          rintro r' w1 ⟨rfl, hB1⟩
          have hR1 := hR.below hB1 hlt.2
          have HG1 := Lib.hid (gr_below hG hB1 hG.size)
          have HM := Lib.hid hR.n
          have CM := Lib.hid (comment_any B g p' (x :: r) w1 hR1)
          clear hR hG hB1 hR1
          go_wp2_with fail
          refine (BL _).out.mono ?_
          rintro r' w2 ⟨rfl, rfl⟩
          go_wp2_with fail
          refine CM.out.mono ?_
          rintro r' w3 ⟨rfl, hR3, hg3⟩
          have HG3 := Lib.hid (gr_trans HG1.out hg3)
          have HR3 := Lib.hid hR3
          clear hR3 hg3
          go_wp2
          go_roundw
          case rel => exact ⟨_, _, HR3.out, HG3.out, Lib.hid ⟨HF.out.symm.trans HC.out.1, by have := HC.out.2; have := HL.out; simp at *; omega⟩⟩
          case measure =>
            have := HL.out
            rw [HR3.out.n, HM.out]
            simp at *
            omega
        · have n35 : (n == 35) = false := beq_eq_false_iff_ne.2 (fun e => d (e35.1 e))
          have HS : Hid (Skd (x :: r)) := Lib.hid (fun y s e => by injection e with e1 e2; subst e1; exact ⟨hbl, d⟩)
          clear hn e35 eb hx hok hbl d
          go_wp2_with fail
          refine PK.out.mono ?_
          rintro r' w1 ⟨rfl, hB1⟩
          have HR1 := Lib.hid (hR.below hB1 hlt.2)
          have HG1 := Lib.hid (gr_below hG hB1 hG.size)
          clear hR hG hB1
          go_wp2_with fail
          refine (BL _).out.mono ?_
          rintro r' w2 ⟨rfl, rfl⟩
          go_wp2
          all_goals (first | go_end0 | refine bodyPost_ret (results_none rfl _ _ _) rfl ?_)
          all_goals exact ⟨rfl, HG1.out, _, _, HR1.out, HC.out.1, HS.out, HC.out.2⟩

/-! ### word -/
def ltB (y : It) : Bool := letterB y.1
/-- What word leaves. -/
def WordP (B g : Nat) (p : Ps) (l : List It) (w : World) (r : Ending) (w' : World) : Prop :=
  r = .returned (.string (txt ((l.takeWhile ltB).flatMap (·.1)))) ∧ Rdr w' B g (cmX ltB p l).1 (cmX ltB p l).2 ∧ w.grownBy w' (some g)
theorem letter_two {x : It} (h : ItOk x) (hl : letterB x.1 = true) : x.2 = true := by
  rcases wc_cases h with ⟨_, _, a, ha, hb⟩ | ⟨a, rfl, _⟩ | ⟨e, _⟩
  · rw [ha] at hl
    have := letter_asc hl
    omega
  · rfl
  · exact e
set_option maxRecDepth 100000 in
set_option maxHeartbeats 2000000 in
theorem word_any (B g : Nat) (p : Ps) (l : List It) (w : World) (h : Rdr w B g p l) (hl : l.length ≤ 100000) :
    Calls Try.prog 38 #[.pointer (some ⟨g, 0, none⟩)] w (WordP B g p l w) := by
  have hfd := field_what
  have hlt0 := h.lt
  go_enter Try.func38, Try.ntmps38
  go_wp2
  go_loopw [] (fun wr => ∃ (p' : Ps) (l' : List It) (t : List UInt8), Rdr wr B g p' l' ∧ w.grownBy wr (some g) ∧ w.heap.size ≤ wr.heap.size ∧ Bld wr w.heap.size w.heap.size t ∧ t.length + 4 * l'.length ≤ 400000 ∧ Hid (cmX ltB p' l' = cmX ltB p l ∧ t ++ (l'.takeWhile ltB).flatMap (·.1) = (l.takeWhile ltB).flatMap (·.1))) (fun wr => rdN wr g)
  case atStart => exact ⟨p, l, [], h.below ((Below.refl _ w).alloc (Nat.le_refl _) _) hlt0.2, gr_of ((Below.refl _ w).alloc (Nat.le_refl _) _) (Nat.le_refl _) _, by simp, Bld.fresh w, by simp; omega, Lib.hid ⟨rfl, rfl⟩⟩
  case round =>
    obtain ⟨p', l', t, hR, hG, hs, hbl, htl, HC⟩ := hrel
    obtain ⟨n, hn⟩ : ∃ n, n = hdc l' := ⟨_, rfl⟩
    have PK := Lib.hid (peekW B g p' l' n hn wr hR)
    have hok := hR.ok
    have hlt := hR.lt
    have hwb := wordB_hd l' hok
    rw [← hn] at hwb
    by_cases hgo : ∃ x r, l' = x :: r ∧ letterB x.1 = true
    · obtain ⟨x, r, rfl, hx1⟩ := hgo
      have hx := hok x List.mem_cons_self
      have IW : ∀ W, Hid (Calls Try.prog 26 #[.int .i32 n] W fun r w' => r = .returned (.bool true) ∧ W = w') := fun W => Lib.hid (by
        have e : wordB n = true := hwb.trans hx1
        rw [← e]; exact inWord_any n W)
      have HN := Lib.hid hn
      have hrg := wc_range hx
      have hrn := wc_rune hx (letter_two hx hx1)
      rw [show wc x = n from hn.symm] at hrg hrn
      have hr1 := hrg.1
      have hr2 := hrg.2.1
      have HRN := Lib.hid hrn
      have HX := Lib.hid hx1
      have HX4 := Lib.hid hx.2.1
      simp only [List.length_cons] at htl
      clear hn hwb hok hx hx1 hrg hrn
      go_wp2_with fail
      refine PK.out.mono ?_
      rintro r' w1 ⟨rfl, hB1⟩
      have hR1 := hR.below hB1 hlt.2
      have hbl1 := hbl.below hB1
      have HG1 := Lib.hid (gr_below hG hB1 hG.size)
      have HM := Lib.hid hR.n
      have hs1 := hB1.size
      clear hR hG hB1 hbl
      go_wp2_with fail
      refine (IW _).out.mono ?_
      rintro r' w2 ⟨rfl, rfl⟩
      have TK := Lib.hid (takeW B g p' (x :: r) n HN.out w1 hR1)
      clear hR1
      go_wp2_with fail
      refine TK.out.mono ?_
      rintro r' w3 ⟨rfl, hR3, hg3⟩
      have HG3 := Lib.hid (gr_trans HG1.out hg3)
      have hbl3 := hbl1.kept hg3 (by omega)
      have hs3 := hg3.size
      have BR := Lib.hid (brune_any w.heap.size w.heap.size t n (by omega) (by omega) w3 hbl3 (by omega) (by omega))
      clear hbl1 hbl3 hg3
      go_wp2_with fail
      refine BR.out.mono ?_
      rintro r' w4 ⟨⟨m, rfl⟩, hbl4, hB4, -⟩
      have HR4 := Lib.hid (hR3.below hB4 hlt0.2)
      have HG4 := Lib.hid (gr_below HG3.out hB4 (Nat.le_refl _))
      have hs4 := hB4.size
      have HBL := Lib.hid hbl4
      clear hR3 hB4 hbl4
      go_wp2
      go_roundw
      case rel =>
        refine ⟨_, _, _, HR4.out, HG4.out, by omega, HBL.out, ?_, Lib.hid ⟨?_, ?_⟩⟩
        · rw [HRN.out, List.length_append]
          have := HX4.out
          simp only [List.tail_cons]
          omega
        · rw [← HC.out.1, cmX_go (x := x) HX.out]; rfl
        · have hxb : ltB x = true := HX.out
          rw [← HC.out.2, HRN.out, List.takeWhile_cons, if_pos hxb, List.flatMap_cons, List.append_assoc]; rfl
      case measure =>
        rw [HR4.out.n, HM.out]
        simp
    · have hb : wordB n = false := by
        rw [hwb]
        cases l' with
        | nil => rfl
        | cons x r => simpa using fun h => hgo ⟨x, r, rfl, h⟩
      have IW : ∀ W, Hid (Calls Try.prog 26 #[.int .i32 n] W fun r w' => r = .returned (.bool false) ∧ W = w') := fun W => Lib.hid (by rw [← hb]; exact inWord_any n W)
      have HT : Hid (l'.takeWhile ltB = [] ∧ cmX ltB p' l' = (p', l')) := Lib.hid (by
        cases l' with
        | nil => exact ⟨rfl, rfl⟩
        | cons x r =>
          have hf : ltB x = false := by unfold ltB; simpa using fun h => hgo ⟨x, r, rfl, h⟩
          exact ⟨by rw [List.takeWhile_cons, if_neg (by rw [hf]; decide)], cmX_stop hf⟩)
      clear hn hwb hok hgo hb
      go_wp2_with fail
      refine PK.out.mono ?_
      rintro r' w1 ⟨rfl, hB1⟩
      have hR1 := hR.below hB1 hlt.2
      have hbl1 := hbl.below hB1
      have HG1 := Lib.hid (gr_below hG hB1 hG.size)
      have hs1 := hB1.size
      clear hR hG hB1 hbl
      go_wp2_with fail
      refine (IW _).out.mono ?_
      rintro r' w2 ⟨rfl, rfl⟩
      have BS := Lib.hid (bstring_any w.heap.size w.heap.size t w1 hbl1 (by omega))
      clear hbl1
      go_wp2_with fail
      refine BS.out.mono ?_
      rintro r' w3 ⟨rfl, -, hB3, -⟩
      have HR3 := Lib.hid (hR1.below hB3 hlt0.2)
      have HG3 := Lib.hid (gr_below HG1.out hB3 (Nat.le_refl _))
      clear hR1 hB3
      go_wp2
      go_ret
      refine ⟨?_, by rw [← HC.out.1, HT.out.2]; exact HR3.out, HG3.out⟩
      rw [← HC.out.2, HT.out.1, List.flatMap_nil, List.append_nil]
      rfl

end Go.Proofs.Ytgpcbfjakgndlaa
