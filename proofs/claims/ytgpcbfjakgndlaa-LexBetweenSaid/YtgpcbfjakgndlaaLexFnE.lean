/-
  Package lex: parts of the reader (a string behind its first quote). No condition but those of each theorem.
-/
import Derived.Test.YtgpcbfjakgndlaaLexFnD
namespace Go.Proofs.Ytgpcbfjakgndlaa
open Go.RowKit
set_option linter.unusedSimpArgs false

/-- What parts leaves. -/
def PartsP (B g : Nat) (p : Ps) (l : List It) (w : World) (r : Ending) (w' : World) : Prop :=
  w.grownBy w' (some g) ∧ match str p l with
    | .inl q => r = .panicked (prb q)
    | .inr (t, r', q) => r = .returned (.string (txt t)) ∧ Rdr w' B g q r'
/-- What is told of a string so far: t, and the rest from p', l' on. -/
def SoS (p : Ps) (l : List It) (p' : Ps) (l' : List It) (t : List UInt8) : Prop := str p l = match str p' l' with
  | .inl q => .inl q
  | .inr (u, r', q) => .inr (t ++ u, r', q)
theorem sos0 (p : Ps) (l : List It) : SoS p l p l [] := by
  unfold SoS
  cases str p l with
  | inl q => rfl
  | inr v => rfl
theorem sos_bad {p p' q : Ps} {l l' : List It} {t : List UInt8} (h : SoS p l p' l' t) (hs : str p' l' = .inl q) : str p l = .inl q := by
  unfold SoS at h
  rw [hs] at h
  exact h
theorem sos_end {p p' : Ps} {l r : List It} {x : It} {t : List UInt8} (h : SoS p l p' (x :: r) t) (hx : x.1 = [34]) : str p l = .inr (t, r, adv p' x) := by
  unfold SoS at h
  rw [str_quote hx] at h
  simpa using h
theorem sos_part {p p' : Ps} {l r : List It} {x : It} {t u : List UInt8} {n : Nat} (h : SoS p l p' (x :: r) t) (hx : x.1 ≠ [34]) (hp : partOf p' (x :: r) = .part u n) : SoS p l (advs p' ((x :: r).take n)) ((x :: r).drop n) (t ++ u) := by
  unfold SoS at *
  rw [h, str_part hx hp]
  cases str (advs p' ((x :: r).take n)) ((x :: r).drop n) with
  | inl q => rfl
  | inr v => simp only [List.append_assoc]
set_option maxRecDepth 100000 in
set_option maxHeartbeats 4000000 in
theorem parts_any (B g : Nat) (p : Ps) (l : List It) (w : World) (h : Rdr w B g p l) (hl : l.length ≤ 100000) :
    Calls Try.prog 39 #[.pointer (some ⟨g, 0, none⟩)] w (PartsP B g p l w) := by
  have hlt0 := h.lt
  go_enter Try.func39, Try.ntmps39
  go_wp2
  go_loopw [] (fun wr => ∃ (p' : Ps) (l' : List It) (t : List UInt8), Rdr wr B g p' l' ∧ w.grownBy wr (some g) ∧ w.heap.size ≤ wr.heap.size ∧ Bld wr w.heap.size w.heap.size t ∧ t.length + 4 * l'.length ≤ 400000 ∧ Hid (SoS p l p' l' t)) (fun wr => rdN wr g)
  case atStart => exact ⟨p, l, [], h.below ((Below.refl _ w).alloc (Nat.le_refl _) _) hlt0.2, gr_of ((Below.refl _ w).alloc (Nat.le_refl _) _) (Nat.le_refl _) _, by simp, Bld.fresh w, by simp; omega, Lib.hid (sos0 _ _)⟩
  case round =>
    obtain ⟨p', l', t, hR, hG, hs, hbl, htl, HC⟩ := hrel
    obtain ⟨n, hn⟩ : ∃ n, n = hdc l' := ⟨_, rfl⟩
    have TK := Lib.hid (takeW B g p' l' n hn wr hR)
    have HM := Lib.hid hR.n
    have hok := hR.ok
    have hlt := hR.lt
    clear hR
    cases l' with
    | nil =>
      have hn1 : n = -1 := hn
      subst hn1
      have HE := Lib.hid (sos_bad HC.out (str_nil p'))
      clear hn hok htl
      go_wp2_with fail
      refine TK.out.mono ?_
      rintro r w1 ⟨rfl, hR1, hg1⟩
      have HG1 := Lib.hid (gr_below (gr_trans hG hg1) ((Below.refl w1.heap.size w1).alloc (Nat.le_refl _) (.cells #[.int .i32 (-1), .int .i64 (p'.1 : Int), .int .i64 (p'.2 : Int)] 75)) (by have := hg1.size; omega))
      clear hR1 hg1 hG hbl
      go_wp2
      exact ⟨rfl, HG1.out, by rw [HE.out]; rfl⟩
    | cons x r =>
      have hx := hok x List.mem_cons_self
      have hokr : ∀ y ∈ r, ItOk y := fun y hy => hok y (List.mem_cons_of_mem _ hy)
      have e34 := wc_ascii hx 34 (by decide)
      have e92 := wc_ascii hx 92 (by decide)
      have e10 := wc_ascii hx 10 (by decide)
      have e2 := wc_neg hx
      have hrg := wc_range hx
      rw [show wc x = n from hn.symm] at e34 e92 e10 e2 hrg
      simp only [List.length_cons] at htl
      by_cases d1 : x.1 = [34]
      · have HE := Lib.hid (sos_end HC.out d1)
        have n34 : n = 34 := e34.2 d1
        subst n34
        clear hn hok hokr e34 e92 e10 e2 hrg d1 hx HC
        go_wp2_with fail
        refine TK.out.mono ?_
        rintro r' w1 ⟨rfl, hR1, hg1⟩
        have hbA := (Below.refl w1.heap.size w1).alloc (Nat.le_refl _) (.cells #[.int .i32 34, .int .i64 (p'.1 : Int), .int .i64 (p'.2 : Int)] 75)
        have hR2 : Rdr (w1.alloc (.cells #[.int .i32 34, .int .i64 (p'.1 : Int), .int .i64 (p'.2 : Int)] 75)) B g (adv p' x) r := hR1.below hbA hR1.lt.2
        have hg2 := gr_below (gr_trans hG hg1) hbA (by have := hg1.size; omega)
        have hbl2 := (hbl.kept hg1 (by omega)).below hbA
        have hs2 : w.heap.size < (w1.alloc (.cells #[.int .i32 34, .int .i64 (p'.1 : Int), .int .i64 (p'.2 : Int)] 75)).heap.size := by have := hg1.size; simp; omega
        clear hR1 hg1 hG hbl hbA
        have BS := Lib.hid (bstring_any w.heap.size w.heap.size t _ hbl2 (by omega))
        have HG2 := Lib.hid hg2
        clear hbl2 hg2
        go_wp2_with fail
        refine BS.out.mono ?_
        rintro r' w3 ⟨rfl, -, hB3, -⟩
        have HR3 := Lib.hid (hR2.below hB3 hlt0.2)
        have HG3 := Lib.hid (gr_below HG2.out hB3 (Nat.le_refl _))
        clear hR2 hB3
        go_wp2
        go_ret
        exact ⟨HG3.out, by rw [HE.out]; exact ⟨rfl, HR3.out⟩⟩
      have n1 : (n == 34) = false := beq_eq_false_iff_ne.2 (fun e => d1 (e34.1 e))
      by_cases d2 : x.1 = [92]
      · have n92 : n = 92 := e92.2 d2
        subst n92
        have hx2 : x.2 = true := by
          cases h2 : x.2 with
          | true => rfl
          | false => have := e2.2 h2; omega
        have hpe := part_esc (p := p') d2 hx2 hokr
        have HX := Lib.hid hx2
        clear hn hok hokr e34 e92 e10 e2 hrg hx hx2
        go_wp2_with fail
        refine TK.out.mono ?_
        rintro r' w1 ⟨rfl, hR1, hg1⟩
        have hbA := (Below.refl w1.heap.size w1).alloc (Nat.le_refl _) (.cells #[.int .i32 92, .int .i64 (p'.1 : Int), .int .i64 (p'.2 : Int)] 75)
        have hR2 : Rdr (w1.alloc (.cells #[.int .i32 92, .int .i64 (p'.1 : Int), .int .i64 (p'.2 : Int)] 75)) B g (adv p' x) r := hR1.below hbA hR1.lt.2
        have hg2 := gr_below (gr_trans hG hg1) hbA (by have := hg1.size; omega)
        have hbl2 := (hbl.kept hg1 (by omega)).below hbA
        have hs2 : w.heap.size < (w1.alloc (.cells #[.int .i32 92, .int .i64 (p'.1 : Int), .int .i64 (p'.2 : Int)] 75)).heap.size := by have := hg1.size; simp; omega
        clear hR1 hg1 hG hbl hbA
        have ES := Lib.hid (escaped_any B g (adv p' x) r _ hR2)
        have HG2 := Lib.hid hg2
        have HBL2 := Lib.hid hbl2
        clear hR2 hg2 hbl2
        cases he : escX (adv p' x) r with
        | inl q =>
          rw [he] at hpe
          have HE := Lib.hid (sos_bad HC.out (str_bad d1 hpe))
          have ES2 : Hid (Calls Try.prog 43 #[.pointer (some ⟨g, 0, none⟩)] (w1.alloc (.cells #[.int .i32 92, .int .i64 (p'.1 : Int), .int .i64 (p'.2 : Int)] 75)) (fun r w' => r = .panicked (prb q) ∧ (w1.alloc (.cells #[.int .i32 92, .int .i64 (p'.1 : Int), .int .i64 (p'.2 : Int)] 75)).grownBy w' (some g))) := Lib.hid (ES.out.mono fun _ _ ⟨h1, h2⟩ => by
            rw [he] at h2; exact ⟨h2, h1⟩)
          clear he hpe ES d1 d2 HC
          go_wp2_with fail
          refine ES2.out.mono ?_
          rintro r' w3 ⟨rfl, hg3⟩
          have HG3 := Lib.hid (gr_trans HG2.out hg3)
          clear hg3
          go_wp2
          exact ⟨rfl, HG3.out, by rw [HE.out]⟩
        | inr v =>
          obtain ⟨c, m⟩ := v
          rw [he] at hpe
          have HS := Lib.hid (sos_part HC.out d1 hpe)
          have ES2 : Hid (Calls Try.prog 43 #[.pointer (some ⟨g, 0, none⟩)] (w1.alloc (.cells #[.int .i32 92, .int .i64 (p'.1 : Int), .int .i64 (p'.2 : Int)] 75)) (fun r_ w' => r_ = .returned (.int .u8 (c.toNat : Int)) ∧ Rdr w' B g (advs (adv p' x) (r.take m)) (r.drop m) ∧ (w1.alloc (.cells #[.int .i32 92, .int .i64 (p'.1 : Int), .int .i64 (p'.2 : Int)] 75)).grownBy w' (some g))) := Lib.hid (ES.out.mono fun _ _ ⟨h1, h2⟩ => by
            rw [he] at h2; exact ⟨h2.1, h2.2, h1⟩)
          clear he hpe ES d1 d2 HC
          go_wp2_with fail
          refine ES2.out.mono ?_
          rintro r' w3 ⟨rfl, hR3, hg3⟩
          have HG3 := Lib.hid (gr_trans HG2.out hg3)
          have hbl3 := HBL2.out.kept hg3 (by omega)
          have hs3 := hg3.size
          have BB := Lib.hid (bbyte_any w.heap.size w.heap.size t c w3 hbl3 (by omega) (by omega))
          clear hg3 hbl3
          go_wp2_with fail
          refine BB.out.mono ?_
          rintro r' w4 ⟨rfl, hbl4, hB4, -⟩
          have HR4 := Lib.hid (hR3.below hB4 hlt0.2)
          have HG4 := Lib.hid (gr_below HG3.out hB4 (Nat.le_refl _))
          have hs4 := hB4.size
          have HBL := Lib.hid hbl4
          clear hR3 hB4 hbl4
          go_wp2
          go_roundw
          case rel => exact ⟨_, _, _, HR4.out, HG4.out, by omega, HBL.out, by rw [List.length_append, List.length_drop]; simp only [List.length_cons, List.length_nil]; omega, HS⟩
          case measure =>
            rw [HR4.out.n, HM.out]
            simp only [List.length_drop, List.length_cons]
            omega
      have n2 : (n == 92) = false := beq_eq_false_iff_ne.2 (fun e => d2 (e92.1 e))
      by_cases d3 : x.1 = [10] ∨ x.2 = false
      · have HE := Lib.hid (sos_bad HC.out (str_bad (q := p') d1 (by simp only [partOf, if_pos d3])))
        have n3 : n = 10 ∨ n = -2 := d3.elim (fun h => .inl (e10.2 h)) (fun h => .inr (e2.2 h))
        clear hok hokr e34 e92 e10 e2 hrg hx HC d1 d2 d3 hn
        rcases n3 with rfl | rfl
        · go_wp2_with fail
          refine TK.out.mono ?_
          rintro r' w1 ⟨rfl, hR1, hg1⟩
          have hbA := (Below.refl w1.heap.size w1).alloc (Nat.le_refl _) (.cells #[.int .i32 10, .int .i64 (p'.1 : Int), .int .i64 (p'.2 : Int)] 75)
          have hR2 : Rdr (w1.alloc (.cells #[.int .i32 10, .int .i64 (p'.1 : Int), .int .i64 (p'.2 : Int)] 75)) B g (adv p' x) r := hR1.below hbA hR1.lt.2
          have hg2 := gr_below (gr_trans hG hg1) hbA (by have := hg1.size; omega)
          have hbl2 := (hbl.kept hg1 (by omega)).below hbA
          have hs2 : w.heap.size < (w1.alloc (.cells #[.int .i32 10, .int .i64 (p'.1 : Int), .int .i64 (p'.2 : Int)] 75)).heap.size := by have := hg1.size; simp; omega
          clear hR1 hg1 hG hbl hbA
          have HG2 := Lib.hid hg2
          clear hg2 hbl2 hR2
          go_wp2
          exact ⟨rfl, HG2.out, by rw [HE.out]; rfl⟩
        · go_wp2_with fail
          refine TK.out.mono ?_
          rintro r' w1 ⟨rfl, hR1, hg1⟩
          have hbA := (Below.refl w1.heap.size w1).alloc (Nat.le_refl _) (.cells #[.int .i32 (-2), .int .i64 (p'.1 : Int), .int .i64 (p'.2 : Int)] 75)
          have hR2 : Rdr (w1.alloc (.cells #[.int .i32 (-2), .int .i64 (p'.1 : Int), .int .i64 (p'.2 : Int)] 75)) B g (adv p' x) r := hR1.below hbA hR1.lt.2
          have hg2 := gr_below (gr_trans hG hg1) hbA (by have := hg1.size; omega)
          have hbl2 := (hbl.kept hg1 (by omega)).below hbA
          have hs2 : w.heap.size < (w1.alloc (.cells #[.int .i32 (-2), .int .i64 (p'.1 : Int), .int .i64 (p'.2 : Int)] 75)).heap.size := by have := hg1.size; simp; omega
          clear hR1 hg1 hG hbl hbA
          have HG2 := Lib.hid hg2
          clear hg2 hbl2 hR2
          go_wp2
          exact ⟨rfl, HG2.out, by rw [HE.out]; rfl⟩
      have n3 : (n == 10) = false := beq_eq_false_iff_ne.2 (fun e => d3 (.inl (e10.1 e)))
      have n4 : (n == -2) = false := beq_eq_false_iff_ne.2 (fun e => d3 (.inr (e2.1 e)))
      have n5 : (n == -1) = false := beq_eq_false_iff_ne.2 hrg.2.2
      have HS := Lib.hid (sos_part (u := x.1) (n := 1) HC.out d1 (by simp only [partOf, if_neg d3, if_pos d2, ne_eq, not_false_eq_true, if_true]))
      have HRN : Hid (Lib.encodeRune n = x.1) := Lib.hid (by
        rw [hn]
        refine wc_rune hx ?_
        cases h2 : x.2 with
        | true => rfl
        | false => exact absurd (.inr h2) d3)
      have HX4 := Lib.hid hx.2.1
      have hr1 := hrg.1
      have hr2 := hrg.2.1
      clear hok hokr e34 e92 e10 e2 hrg hx HC d1 d2 d3 hn
      go_wp2_with fail
      refine TK.out.mono ?_
      rintro r' w1 ⟨rfl, hR1, hg1⟩
      have hbA := (Below.refl w1.heap.size w1).alloc (Nat.le_refl _) (.cells #[.int .i32 n, .int .i64 (p'.1 : Int), .int .i64 (p'.2 : Int)] 75)
      have hR2 : Rdr (w1.alloc (.cells #[.int .i32 n, .int .i64 (p'.1 : Int), .int .i64 (p'.2 : Int)] 75)) B g (adv p' x) r := hR1.below hbA hR1.lt.2
      have hg2 := gr_below (gr_trans hG hg1) hbA (by have := hg1.size; omega)
      have hbl2 := (hbl.kept hg1 (by omega)).below hbA
      have hs2 : w.heap.size < (w1.alloc (.cells #[.int .i32 n, .int .i64 (p'.1 : Int), .int .i64 (p'.2 : Int)] 75)).heap.size := by have := hg1.size; simp; omega
      clear hR1 hg1 hG hbl hbA
      have BR := Lib.hid (brune_any w.heap.size w.heap.size t n (by omega) (by omega) _ hbl2 (by omega) (by omega))
      have HG2 := Lib.hid hg2
      clear hg2 hbl2
      go_wp2_with fail
      refine BR.out.mono ?_
      rintro r' w4 ⟨⟨m, rfl⟩, hbl4, hB4, -⟩
      have HR4 := Lib.hid (hR2.below hB4 hlt0.2)
      have HG4 := Lib.hid (gr_below HG2.out hB4 (Nat.le_refl _))
      have hs4 := hB4.size
      have HBL := Lib.hid hbl4
      clear hR2 hB4 hbl4
      go_wp2
      go_roundw
      case rel =>
        refine ⟨_, _, _, HR4.out, HG4.out, by omega, HBL.out, ?_, ?_⟩
        · rw [HRN.out, List.length_append]
          have := HX4.out
          omega
        · rw [HRN.out]; exact HS
      case measure =>
        rw [HR4.out.n, HM.out]
        simp only [List.length_cons]
        omega

end Go.Proofs.Ytgpcbfjakgndlaa
