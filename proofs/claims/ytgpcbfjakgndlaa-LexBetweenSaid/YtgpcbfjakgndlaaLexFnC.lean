/-
  Package lex: comment, skip and word of the reader. No condition but those of each theorem.
-/
import Derived.Test.YtgpcbfjakgndlaaLexFnB
import Derived.Test.YtgpcbfjakgndlaaBldB
namespace Go.Proofs.Ytgpcbfjakgndlaa
open Go.RowKit
set_option linter.unusedSimpArgs false

/-- How many characters the reader's slice has. -/
def rdN (w : World) (g : Nat) : Nat := match w.cell? ⟨g, 0, none⟩ with | some (.slice _ n _) => n | _ => 0
theorem Rdr.n {w : World} {B g : Nat} {p : Ps} {l : List It} (h : Rdr w B g p l) : rdN w g = l.length + 1 := by
  obtain ⟨d, off, c, _, _, _, c0, _⟩ := h.at
  unfold rdN
  rw [c0]
/-- What peek answers, in the walk's words. -/
def PeekW (g : Nat) (p : Ps) (n : Int) (W : World) : Prop :=
  Calls Try.prog 34 #[.pointer (some ⟨g, 0, none⟩)] W (fun r w' => r = .returned (.agg #[.int .i32 n, .int .i64 (p.1 : Int), .int .i64 (p.2 : Int)]) ∧ Below W.heap.size W w')
theorem peekW (B g : Nat) (p : Ps) (l : List It) (n : Int) (hn : n = hdc l) (W : World) (h : Rdr W B g p l) : PeekW g p n W := by
  subst hn
  exact peek_any B g p l W h
theorem field_what (n x y : Int) (w : World) : (Instr.field 75 (.agg #[.int .i32 n, .int .i64 x, .int .i64 y]) 0).run Try.prog w = .ok (.int .i32 n) w := by kernel_rfl
def nnB (y : It) : Bool := !(y.1 == [10])
/-- Behind what a test holds of. -/
def cmX (f : It → Bool) (p : Ps) (l : List It) : Ps × List It := (advs p (l.takeWhile f), l.drop (l.takeWhile f).length)
theorem cmX_go {f : It → Bool} {p : Ps} {x : It} {r : List It} (h : f x = true) : cmX f p (x :: r) = cmX f (adv p x) r := by
  unfold cmX
  rw [List.takeWhile_cons, if_pos h]
  rfl
theorem cmX_stop {f : It → Bool} {p : Ps} {x : It} {r : List It} (h : f x = false) : cmX f p (x :: r) = (p, x :: r) := by
  unfold cmX
  rw [List.takeWhile_cons, if_neg (by rw [h]; decide)]
  rfl
theorem cmX_len (f : It → Bool) (p : Ps) (l : List It) : (cmX f p l).2.length ≤ l.length := by
  unfold cmX
  simp only [List.length_drop]
  omega
/-- What comment leaves. -/
def ComP (f : It → Bool) (B g : Nat) (p : Ps) (l : List It) (w : World) (r : Ending) (w' : World) : Prop :=
  r = .returned (.tuple #[]) ∧ Rdr w' B g (cmX f p l).1 (cmX f p l).2 ∧ w.grownBy w' (some g)
set_option maxRecDepth 100000 in
set_option maxHeartbeats 2000000 in
theorem comment_any (B g : Nat) (p : Ps) (l : List It) (w : World) (h : Rdr w B g p l) :
    Calls Try.prog 37 #[.pointer (some ⟨g, 0, none⟩)] w (ComP nnB B g p l w) := by
  have hfd := field_what
  go_enter Try.func37, Try.ntmps37
  go_wp2
  go_loopw [] (fun wr => ∃ (p' : Ps) (l' : List It), Rdr wr B g p' l' ∧ w.grownBy wr (some g) ∧ Hid (cmX nnB p' l' = cmX nnB p l)) (fun wr => rdN wr g)
  case atStart => exact ⟨p, l, h, gr_refl _ _, Lib.hid rfl⟩
  case round =>
    obtain ⟨p', l', hR, hG, HC⟩ := hrel
    obtain ⟨n, hn⟩ : ∃ n, n = hdc l' := ⟨_, rfl⟩
    have PK := Lib.hid (peekW B g p' l' n hn wr hR)
    have hok := hR.ok
    have hlt := hR.lt
    cases l' with
    | nil =>
      have hn1 : n = -1 := hn
      subst hn1
      clear hn
      go_wp2_with fail
      refine PK.out.mono ?_
      rintro r w1 ⟨rfl, hB1⟩
      have hR1 := hR.below hB1 hlt.2
      have PK1 := Lib.hid (peekW B g p' [] (-1) rfl w1 hR1)
      have HG1 := Lib.hid (gr_below hG hB1 hG.size)
      clear hR hG hB1
      go_wp2_with fail
      refine PK1.out.mono ?_
      rintro r w2 ⟨rfl, hB2⟩
      have HR2 := Lib.hid (hR1.below hB2 hR1.lt.2)
      have HG2 := Lib.hid (gr_below HG1.out hB2 HG1.out.size)
      clear hR1 hB2
      go_wp2
      go_end0
      exact ⟨rfl, by rw [← HC.out]; exact HR2.out, HG2.out⟩
    | cons x r =>
      have hx := hok x List.mem_cons_self
      have e10 := wc_ascii hx 10 (by decide)
      have e1 := (wc_range hx).2.2
      rw [show wc x = n from hn.symm] at e10 e1
      by_cases d : x.1 = [10]
      · obtain rfl : n = 10 := e10.2 d
        have HF : Hid (nnB x = false) := Lib.hid (by unfold nnB; rw [d]; rfl)
        clear hn e10 e1 d hx hok
        go_wp2_with fail
        refine PK.out.mono ?_
        rintro r w1 ⟨rfl, hB1⟩
        have HR2 := Lib.hid (hR.below hB1 hlt.2)
        have HG2 := Lib.hid (gr_below hG hB1 hG.size)
        clear hR hG hB1
        go_wp2
        go_end0
        exact ⟨rfl, by rw [← HC.out, cmX_stop HF.out]; exact HR2.out, HG2.out⟩
      · have n10 : (n != 10) = true := by simpa using fun e => d (e10.1 e)
        have n1 : (n != -1) = true := by simpa using e1
        have HF : Hid (nnB x = true) := Lib.hid (by unfold nnB; simpa using d)
        have HN := Lib.hid hn
        clear hn e10 e1 d hx hok
        go_wp2_with fail
        refine PK.out.mono ?_
        rintro r' w1 ⟨rfl, hB1⟩
        have hR1 := hR.below hB1 hlt.2
        have PK1 := Lib.hid (peekW B g p' (x :: r) n HN.out w1 hR1)
        have HG1 := Lib.hid (gr_below hG hB1 hG.size)
        have HM := Lib.hid hR.n
        clear hR hG hB1
        go_wp2_with fail
        refine PK1.out.mono ?_
        rintro r' w2 ⟨rfl, hB2⟩
        have hR2 := hR1.below hB2 hR1.lt.2
        have HG2 := Lib.hid (gr_below HG1.out hB2 HG1.out.size)
        have TK := Lib.hid (takeW B g p' (x :: r) n HN.out w2 hR2)
        clear hR1 hB2 hR2
        go_wp2_with fail
        refine TK.out.mono ?_
        rintro r' w3 ⟨rfl, hR3, hg3⟩
        have HG3 := Lib.hid (gr_trans HG2.out hg3)
        have HR3 := Lib.hid hR3
        clear hR3 hg3
        go_wp2
        go_roundw
        case rel => exact ⟨_, _, HR3.out, HG3.out, Lib.hid (by rw [← HC.out, cmX_go HF.out]; rfl)⟩
        case measure =>
          rw [HR3.out.n, HM.out]
          simp

end Go.Proofs.Ytgpcbfjakgndlaa
