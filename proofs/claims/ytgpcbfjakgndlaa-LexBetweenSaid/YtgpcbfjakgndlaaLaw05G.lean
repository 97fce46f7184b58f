/-
  LexBetween, where package lex answers as it is to and the law is awake.
-/
import Derived.Test.YtgpcbfjakgndlaaLexBet
import Derived.Test.YtgpcbfjakgndlaaLaw05F
namespace Go.Proofs.Ytgpcbfjakgndlaa
open Go.RowKit
set_option linter.unusedSimpArgs false

/-- Tokens that came in: kind and text of each. -/
def TksIn (w : World) (A : Option Addr) (n : Nat) (l : List TkI) : Prop := l.length = n ∧ (0 < n → ∃ d off, A = some ⟨d, off, none⟩ ∧ d < w.heap.size ∧
  ∀ i x, l[i]? = some x → w.cell? ⟨d, off + i * 4, none⟩ = some (.int .i64 x.1) ∧ w.cell? ⟨d, off + i * 4 + 1, none⟩ = some (.string (txt x.2)))
/-- Texts that came in. -/
def StrsIn (w : World) (A : Option Addr) (n : Nat) (l : List (List UInt8)) : Prop := l.length = n ∧ (0 < n → ∃ d off, A = some ⟨d, off, none⟩ ∧ d < w.heap.size ∧
  ∀ i x, l[i]? = some x → w.cell? ⟨d, off + i, none⟩ = some (.string (txt x)) ∧ x.length ≤ 9223372036854775807)
theorem TksIn.below {w w' : World} {A : Option Addr} {n : Nat} {l : List TkI} (h : TksIn w A n l) (hb : Below w.heap.size w w') : TksIn w' A n l := by
  refine ⟨h.1, fun h0 => ?_⟩
  obtain ⟨d, off, e, hd, hc⟩ := h.2 h0
  exact ⟨d, off, e, Nat.lt_of_lt_of_le hd hb.size, fun i x hx => ⟨(hb.cell (p := ⟨d, _, none⟩) hd).trans (hc i x hx).1, (hb.cell (p := ⟨d, _, none⟩) hd).trans (hc i x hx).2⟩⟩
theorem StrsIn.below {w w' : World} {A : Option Addr} {n : Nat} {l : List (List UInt8)} (h : StrsIn w A n l) (hb : Below w.heap.size w w') : StrsIn w' A n l := by
  refine ⟨h.1, fun h0 => ?_⟩
  obtain ⟨d, off, e, hd, hc⟩ := h.2 h0
  exact ⟨d, off, e, Nat.lt_of_lt_of_le hd hb.size, fun i x hx => ⟨(hb.cell (p := ⟨d, _, none⟩) hd).trans (hc i x hx).1, (hc i x hx).2⟩⟩

set_option maxRecDepth 100000 in
set_option maxHeartbeats 2000000 in
theorem between_big (A0 A1 : Option Addr) (L B c0 c1 : Nat) (w : World) (HA : Awake5) (h : 40 < L ∨ (L ≤ 40 ∧ B < L)) :
    Calls Try.prog 5 #[.slice A0 L c0, .slice A1 B c1] w fun e w' => e = .returned (.bool true) ∧ Below w.heap.size w w' := by
  have HAW := Lib.hid HA
  clear HA
  rcases h with h | ⟨h1, h2⟩
  · have i0 : (40 : Int) < (L : Int) := by omega
    go_enter Try.func5, Try.ntmps5
    go_wp2_with fail
    refine (HAW.out _).mono ?_
    rintro r w1 ⟨rfl, hB1⟩
    go_wp2
    go_ret
    exact ⟨rfl, hB1⟩
  · have i0 : ¬ (40 : Int) < (L : Int) := by omega
    go_enter Try.func5, Try.ntmps5
    go_wp2_with fail
    refine (HAW.out _).mono ?_
    rintro r w1 ⟨rfl, hB1⟩
    go_wp2
    go_ret
    exact ⟨rfl, hB1⟩

set_option maxRecDepth 100000 in
set_option maxHeartbeats 4000000 in
theorem between_main (l : List TkI) (bs : List (List UInt8)) (A0 A1 : Option Addr) (L B c0 c1 : Nat) (w : World) (C : LexC) (HA : Awake5) (h0 : TksIn w A0 L l) (h1 : StrsIn w A1 B bs) (hL : L ≤ 40) (hLB : L ≤ B) :
    Calls Try.prog 5 #[.slice A0 L c0, .slice A1 B c1] w fun e w' => e = .returned (.bool true) ∧ Below w.heap.size w w' := by
  have HAW := Lib.hid HA
  have HC := Lib.hid C
  have HLL : Hid (l.length = L) := Lib.hid h0.1
  have HBB : Hid (bs.length = B) := Lib.hid h1.1
  have H0 : Hid (∀ V, Below w.heap.size w V → TksIn V A0 L l) := Lib.hid (fun V hb => h0.below hb)
  have H1 : Hid (∀ V, Below w.heap.size w V → StrsIn V A1 B bs) := Lib.hid (fun V hb => h1.below hb)
  have i0 : ¬ (40 : Int) < (L : Int) := by omega
  have i1 : ¬ B < L := by omega
  clear C HA h0 h1
  go_enter Try.func5, Try.ntmps5
  go_wp2_with fail
  refine (HAW.out _).mono ?_
  rintro r w1 ⟨rfl, hB1⟩
  go_wp2
  go_loopw [6, 7] (fun s i wr => ∃ (k : Nat) (T : List UInt8), k ≤ L ∧ i = .int .i64 (k : Int) ∧ s = .string (txt T) ∧ T.length ≤ 320 * k ∧ Hid (BetI l k T) ∧ Below w.heap.size w wr) (fun _ i _ => L - (intOf i).toNat)
  case atStart => exact ⟨0, [], Nat.zero_le _, rfl, rfl, by simp, Lib.hid (bet0 l), hB1⟩
  case round =>
    obtain ⟨wo, hwo⟩ : ∃ wo, wo = wr := ⟨_, rfl⟩
    subst hwo
    obtain ⟨k, T, hk, rfl, rfl, hTl, HI, hbel⟩ := hrel
    have hTz := txt_size T
    by_cases hlt : k < L
    · obtain ⟨x, hx⟩ : ∃ x, l[k]? = some x := ⟨_, List.getElem?_eq_getElem (by rw [HLL.out]; exact hlt)⟩
      obtain ⟨b, hb⟩ : ∃ b, bs[k]? = some b := ⟨_, List.getElem?_eq_getElem (by rw [HBB.out]; omega)⟩
      obtain ⟨d0, o0, rfl, hd0, hc0⟩ := (H0.out wo hbel).2 (by omega)
      obtain ⟨d1, o1, rfl, hd1, hc1⟩ := (H1.out wo hbel).2 (by omega)
      obtain ⟨x0, x1⟩ := hc0 k x hx
      obtain ⟨b0, hb47⟩ := hc1 k b hb
      obtain ⟨K, t⟩ := x
      simp only at x0 x1
      have hbz := txt_size b
      have htz := txt_size t
      have HX := Lib.hid hx
      have HBE := Lib.hid hbel
      have hkB : k < B := by omega
      clear hx hb hc0 hc1 hbel
      have hTk : T.length ≤ 12800 := by omega
      go_wp2
      go_loop [8] (fun i => ∃ m : Nat, m ≤ b.length ∧ i = .int .i64 (m : Int) ∧ Hid (∀ j a, j < m → b[j]? = some a → a ≠ 10)) (fun i => b.length - (intOf i).toNat)
      case atStart => exact ⟨0, by omega, rfl, Lib.hid (fun j a g => by omega)⟩
      case round =>
        obtain ⟨m, hm, rfl, HM⟩ := hrel
        by_cases hlm : m < b.length
        · have hin : m < (txt b).size := by rw [hbz]; exact hlm
          obtain ⟨a, ha⟩ : ∃ a, b[m]? = some a := ⟨_, List.getElem?_eq_getElem hlm⟩
          have hix : (((txt b)[m]'hin).toNat : Int) = (a.toNat : Int) := by rw [txt_get b m hlm hin]; rw [List.getElem?_eq_getElem hlm] at ha; injection ha with ha; rw [ha]
          by_cases h10 : a = 10
          · subst h10
            replace hix : (((txt b)[m]'hin).toNat : Int) = 10 := hix
            clear ha
            go_wp2
            go_ret
            exact ⟨rfl, HBE.out⟩
          · have n10 : ((a.toNat : Int) == 10) = false := beq_eq_false_iff_ne.2 (fun e => h10 (UInt8.toNat_inj.1 (by have : (10 : UInt8).toNat = 10 := rfl; omega)))
            have HM2 : Hid (∀ j a, j < m + 1 → b[j]? = some a → a ≠ 10) := Lib.hid (fun j a' g1 g2 => by
              rcases Nat.lt_or_ge j m with g | g
              · exact HM.out j a' g g2
              · obtain rfl : j = m := by omega
                rw [ha] at g2; injection g2 with g2; rw [← g2]; exact h10)
            clear ha h10 HM
            go_wp2
            go_round
            case rel => exact ⟨m + 1, by omega, by go_num, HM2⟩
            case measure => simp [intOf]; omega
        · obtain rfl : m = b.length := by omega
          have HN : Hid (∀ a ∈ b, a ≠ 10) := Lib.hid (fun a ha => by
            obtain ⟨j, hj, rfl⟩ := List.getElem_of_mem ha
            exact HM.out j _ hj (List.getElem?_eq_getElem hj))
          clear HM hm hlm
          by_cases ht6 : 60 < t.length
          · have g1 : (60 : Int) < (t.length : Int) := by omega
            go_wp2
            go_ret
            exact ⟨rfl, HBE.out⟩
          have g1 : ¬ (60 : Int) < (t.length : Int) := by omega
          by_cases hb6 : 60 < b.length
          · have g2 : (60 : Int) < (b.length : Int) := by omega
            go_wp2
            go_ret
            exact ⟨rfl, HBE.out⟩
          have g2 : ¬ (60 : Int) < (b.length : Int) := by omega
          obtain ⟨D, hD⟩ : ∃ D, D = [9, 32, 35] ++ b := ⟨_, rfl⟩
          obtain ⟨E, hE⟩ : ∃ E, E = D ++ [10, 32] := ⟨_, rfl⟩
          obtain ⟨G, hG⟩ : ∃ G, G = T ++ E := ⟨_, rfl⟩
          have e1 : (ByteArray.mk #[9, 32, 35]) ++ txt b = txt D := by rw [hD]; exact txt_cat [9, 32, 35] b
          have e2 : txt D ++ (ByteArray.mk #[10, 32]) = txt E := by rw [hE]; exact txt_cat D [10, 32]
          have e3 : txt T ++ txt E = txt G := by rw [hG]; exact txt_cat T E
          have z1 : (txt D).size = b.length + 3 := by rw [txt_size, hD]; simp
          have z2 : (txt E).size = b.length + 5 := by rw [txt_size, hE, hD]; simp
          have z3 : (txt G).size = T.length + b.length + 5 := by rw [txt_size, hG, hE, hD]; simp; omega
          have hGl : G.length = T.length + b.length + 5 := by rw [← txt_size]; exact z3
          have HB : Hid (TokOk (K, t) → BetI l (k + 1) (G ++ tokTx (K, t))) := Lib.hid (fun ho => by
            rw [hG, hE, hD]; exact bet_step HX.out HI.out HN.out (by omega) (by simp only; omega) ho)
          have HGL := Lib.hid hGl
          clear hD hE hG hGl
          by_cases k1 : K = 1
          · subst k1
            have PLA : ∀ W, Hid (Calls Try.prog 14 #[.string (txt t)] W (fun r w' => r = .returned (.bool (plainX t)) ∧ Below W.heap.size W w')) := fun W => Lib.hid (HC.out.plain t W (by omega))
            cases hpl : plainX t with
            | false =>
              rw [hpl] at PLA
              clear hpl
              go_wp2_with fail
              refine (PLA _).out.mono ?_
              rintro r w3 ⟨rfl, hB3⟩
              have HB3 := Lib.hid (HBE.out.trans (hB3.mono HBE.out.size))
              clear hB3
              go_wp2
              go_ret
              exact ⟨rfl, HB3.out⟩
            | true =>
              rw [hpl] at PLA
              have e4 : txt G ++ txt t = txt (G ++ t) := txt_cat G t
              have hfin : Hid (BetI l (k + 1) (G ++ t) ∧ (G ++ t).length ≤ 320 * (k + 1)) := Lib.hid ⟨HB.out (.inl ⟨rfl, hpl⟩), by have := HGL.out; simp; omega⟩
              clear hpl
              go_wp2_with fail
              refine (PLA _).out.mono ?_
              rintro r w3 ⟨rfl, hB3⟩
              have x1' := (hB3.cell (p := ⟨d0, o0 + k * 4 + 1, none⟩) hd0).trans x1
              have HB3 := Lib.hid (HBE.out.trans (hB3.mono HBE.out.size))
              clear hB3
              go_wp2
              go_roundw
              case rel => exact ⟨k + 1, G ++ t, by omega, by go_num, rfl, hfin.out.2, Lib.hid hfin.out.1, HB3.out⟩
              case measure => simp [intOf]; omega
          by_cases k2 : K = 2
          · subst k2
            obtain ⟨Q, hQ⟩ : ∃ Q, Q = quoteX t := ⟨_, rfl⟩
            have QUO : ∀ W, Hid (Calls Try.prog 13 #[.string (txt t)] W (fun r w' => r = .returned (.string (txt Q)) ∧ Below W.heap.size W w')) := fun W => Lib.hid (by rw [hQ]; exact HC.out.quote t W (by omega))
            have hql : Q.length ≤ 250 := by rw [hQ]; have := quoteX_len t; omega
            have zq := txt_size Q
            have e4 : txt G ++ txt Q = txt (G ++ Q) := txt_cat G Q
            have hfin : Hid (BetI l (k + 1) (G ++ Q) ∧ (G ++ Q).length ≤ 320 * (k + 1)) := Lib.hid ⟨by rw [hQ]; exact HB.out (.inr (.inl rfl)), by have := HGL.out; simp; omega⟩
            clear hQ
            go_wp2_with fail
            refine (QUO _).out.mono ?_
            rintro r w3 ⟨rfl, hB3⟩
            have HB3 := Lib.hid (HBE.out.trans (hB3.mono HBE.out.size))
            clear hB3
            go_wp2
            go_roundw
            case rel => exact ⟨k + 1, G ++ Q, by omega, by go_num, rfl, hfin.out.2, Lib.hid hfin.out.1, HB3.out⟩
            case measure => simp [intOf]; omega
          by_cases k3 : K = 3
          · subst k3
            have e4 : txt G ++ (ByteArray.mk #[123]) = txt (G ++ [123]) := txt_cat G [123]
            have hfin : Hid (BetI l (k + 1) (G ++ [123]) ∧ (G ++ [123]).length ≤ 320 * (k + 1)) := Lib.hid ⟨HB.out (.inr (.inr (.inl rfl))), by have := HGL.out; simp; omega⟩
            go_wp2
            go_roundw
            case rel => exact ⟨k + 1, G ++ [123], by omega, by go_num, rfl, hfin.out.2, Lib.hid hfin.out.1, HBE.out⟩
            case measure => simp [intOf]; omega
          by_cases k4 : K = 4
          · subst k4
            have e4 : txt G ++ (ByteArray.mk #[125]) = txt (G ++ [125]) := txt_cat G [125]
            have hfin : Hid (BetI l (k + 1) (G ++ [125]) ∧ (G ++ [125]).length ≤ 320 * (k + 1)) := Lib.hid ⟨HB.out (.inr (.inr (.inr (.inl rfl)))), by have := HGL.out; simp; omega⟩
            go_wp2
            go_roundw
            case rel => exact ⟨k + 1, G ++ [125], by omega, by go_num, rfl, hfin.out.2, Lib.hid hfin.out.1, HBE.out⟩
            case measure => simp [intOf]; omega
          by_cases k5 : K = 5
          · subst k5
            have e4 : txt G ++ (ByteArray.mk #[59]) = txt (G ++ [59]) := txt_cat G [59]
            have hfin : Hid (BetI l (k + 1) (G ++ [59]) ∧ (G ++ [59]).length ≤ 320 * (k + 1)) := Lib.hid ⟨HB.out (.inr (.inr (.inr (.inr rfl)))), by have := HGL.out; simp; omega⟩
            go_wp2
            go_roundw
            case rel => exact ⟨k + 1, G ++ [59], by omega, by go_num, rfl, hfin.out.2, Lib.hid hfin.out.1, HBE.out⟩
            case measure => simp [intOf]; omega
          have q1 : (K == 1) = false := beq_eq_false_iff_ne.2 k1
          have q2 : (K == 2) = false := beq_eq_false_iff_ne.2 k2
          have q3 : (K == 3) = false := beq_eq_false_iff_ne.2 k3
          have q4 : (K == 4) = false := beq_eq_false_iff_ne.2 k4
          have q5 : (K == 5) = false := beq_eq_false_iff_ne.2 k5
          go_wp2
          go_ret
          exact ⟨rfl, HBE.out⟩
    · obtain rfl : k = L := by omega
      by_cases h8 : 8000 < T.length
      · have g1 : (8000 : Int) < (T.length : Int) := by omega
        go_wp2
        go_ret
        exact ⟨rfl, hbel⟩
      have g1 : ¬ (8000 : Int) < (T.length : Int) := by omega
      obtain ⟨q, hq⟩ := bet_end (T := T) (l := l) (by rw [HLL.out]; exact HI.out) (by omega)
      obtain ⟨LL, hLL⟩ : ∃ LL, LL = outs 2 l ++ [(⟨0, [], q⟩ : Tok)] := ⟨_, rfl⟩
      have AL : ∀ W, Hid (AllW T LL 0 0 0 W) := fun W => allW HC.out (by omega) (by rw [hq, hLL]) W
      have HLN : Hid (LL.length = k + 1) := Lib.hid (by rw [hLL, List.length_append, outs_len, HLL.out]; rfl)
      have HEND : Hid (LL[k]? = some ⟨0, [], q⟩) := Lib.hid (by rw [hLL, List.getElem?_append_right (by rw [outs_len, HLL.out]; exact Nat.le_refl _), outs_len, HLL.out, Nat.sub_self]; rfl)
      have HAT : Hid (∀ j x, l[j]? = some x → LL[j]? = some (tokOf x (j + 2)) ∧ TokOk x) := Lib.hid (fun j x hx => by
        have hj := (List.getElem?_eq_some_iff.1 hx).1
        refine ⟨?_, HI.out.2.2.1 j x (by rw [← HLL.out]; exact hj) hx⟩
        rw [hLL, List.getElem?_append_left (by rw [outs_len]; exact hj)]
        exact outs_at hx 2)
      have hT8 : T.length ≤ 8000 := by omega
      have HBE := Lib.hid hbel
      clear hq hLL HI hlt hbel h8
      go_wp2_with fail
      refine (AL _).out.mono ?_
      rintro r w2 ⟨v2, d2, rfl, ht2, hB2⟩
      obtain ⟨A, c, rfl⟩ := RowK.shape ht2
      rw [HLN.out] at ht2 ⊢
      have hbA := (Below.refl _ w2).alloc (Nat.le_refl _) (.cells #[.int .i64 0, .int .i64 0] 26)
      have HTW : Hid (Toks (w2.alloc (.cells #[.int .i64 0, .int .i64 0] 26)) d2 (.slice A (k + 1) c) LL) := Lib.hid (RowK.below ht2 hbA)
      have HBW : Hid (Below w.heap.size w (w2.alloc (.cells #[.int .i64 0, .int .i64 0] 26))) := Lib.hid ((HBE.out.trans (hB2.mono HBE.out.size)).trans (hbA.mono (by have := HBE.out.size; have := hB2.size; omega)))
      clear ht2 hbA hB2 AL
      go_wp2
      go_loopw [12] (fun i wr => ∃ m : Nat, m ≤ k ∧ i = .int .i64 (m : Int) ∧ Below (w2.alloc (.cells #[.int .i64 0, .int .i64 0] 26)).heap.size (w2.alloc (.cells #[.int .i64 0, .int .i64 0] 26)) wr) (fun i _ => k - (intOf i).toNat)
      case atStart => exact ⟨0, Nat.zero_le _, rfl, Below.refl _ _⟩
      case round =>
        obtain ⟨m, hm, rfl, hbel⟩ := hrel
        have hT : Toks wr d2 (.slice A (k + 1) c) LL := RowK.below HTW.out hbel
        have hBel : Below w.heap.size w wr := HBW.out.trans (hbel.mono HBW.out.size)
        by_cases hlt : m < k
        · obtain ⟨x, hx⟩ : ∃ x, l[m]? = some x := ⟨_, List.getElem?_eq_getElem (by rw [HLL.out]; exact hlt)⟩
          obtain ⟨d0, o0, rfl, hd0, hc0⟩ := (H0.out wr hBel).2 (by omega)
          obtain ⟨x0, x1⟩ := hc0 m x hx
          obtain ⟨hat, hok⟩ := HAT.out m x hx
          obtain ⟨-, -, o, rfl, hd, y0, y1, y2, y3⟩ := hT.at hat
          rw [tokOf_k _ hok] at y0
          obtain ⟨K, t⟩ := x
          simp only at x0 x1 y0
          replace y1 : wr.cell? ⟨d2, o + m * 4 + 1, none⟩ = some (.string (txt (if 2 < K then [] else t))) := y1
          replace y2 : wr.cell? ⟨d2, o + m * 4 + 2, none⟩ = some (.int .i64 ((m : Int) + 2)) := y2
          replace y3 : wr.cell? ⟨d2, o + m * 4 + 2 + 1, none⟩ = some (.int .i64 2) := y3
          have hmk : m < k + 1 := by omega
          have HBE := Lib.hid hbel
          clear hx hc0 hat hok hT hBel hbel
          by_cases hK : 2 < K
          · rw [if_pos hK] at y1
            replace y1 : wr.cell? ⟨d2, o + m * 4 + 1, none⟩ = some (.string ⟨#[]⟩) := y1
            go_wp2
            go_quiet (fail)
            go_wp2
            all_goals go_roundw
            case rel => exact ⟨m + 1, by omega, by go_num, below_drewN HBE.out _⟩
            case measure => simp [intOf]; omega
          · rw [if_neg hK] at y1
            have tt : (txt t).toList = t := txt_toList t
            go_wp2
            go_quiet (fail)
            go_wp2
            all_goals go_roundw
            case rel => exact ⟨m + 1, by omega, by go_num, below_drewN HBE.out _⟩
            case measure => simp [intOf]; omega
        · obtain rfl : m = k := by omega
          obtain ⟨-, -, o, rfl, hd, y0, -⟩ := hT.at HEND.out
          have HBE := Lib.hid hBel
          clear hT hbel hBel
          go_wp2
          all_goals go_ret
          all_goals exact ⟨rfl, HBE.out⟩

theorem lexBetween_walk (l : List TkI) (bs : List (List UInt8)) (A0 A1 : Option Addr) (L B c0 c1 : Nat) (w : World) (C : LexC) (HA : Awake5) (h0 : TksIn w A0 L l) (h1 : StrsIn w A1 B bs) :
    Calls Try.prog 5 #[.slice A0 L c0, .slice A1 B c1] w fun e w' => e = .returned (.bool true) ∧ Below w.heap.size w w' := by
  by_cases h : 40 < L
  · exact between_big A0 A1 L B c0 c1 w HA (.inl h)
  by_cases h' : B < L
  · exact between_big A0 A1 L B c0 c1 w HA (.inr ⟨by omega, h'⟩)
  · exact between_main l bs A0 A1 L B c0 c1 w C HA h0 h1 (by omega) (by omega)

end Go.Proofs.Ytgpcbfjakgndlaa
