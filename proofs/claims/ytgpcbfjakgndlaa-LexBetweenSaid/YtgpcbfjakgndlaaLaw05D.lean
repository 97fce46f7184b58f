/-
  LexFronts, where package lex answers as it is to and the law is awake.
-/
import Derived.Test.YtgpcbfjakgndlaaLaw05B
import Derived.Test.YtgpcbfjakgndlaaLexOrd
import Derived.Test.YtgpcbfjakgndlaaLexRefD
namespace Go.Proofs.Ytgpcbfjakgndlaa
open Go.RowKit
set_option linter.unusedSimpArgs false

/-- What All answers, in the walk's words. -/
def AllW (s : List UInt8) (L : List Tok) (e : Int) (p1 p2 : Nat) (W : World) : Prop :=
  Calls Try.prog 9 #[.string (txt s)] W (fun r w' => ∃ v d, r = .returned (.tuple #[v, .int .i64 e, .agg #[.int .i64 (p1 : Int), .int .i64 (p2 : Int)]]) ∧ Toks w' d v L ∧ Below W.heap.size W w')
theorem allW (C : LexC) {s : List UInt8} {L : List Tok} {e : Int} {p1 p2 : Nat} (hs : s.length ≤ 20000) (h : allX s = (L, e, (p1, p2))) (W : World) : Hid (AllW s L e p1 p2 W) := Lib.hid (by
  have hh := C.all s W hs
  unfold LexAllP at hh
  rw [h] at hh
  exact hh)
/-- Either tokens, with an End behind them, or an error within the text. -/
theorem allX_which {s : List UInt8} (hs : s.length ≤ 8192) : (∃ m q, allX s = (m ++ [⟨0, [], q⟩], 0, (0, 0)) ∧ q = advs (1, 1) (cut s) ∧ (m ++ [(⟨0, [], q⟩ : Tok)]).Pairwise (fun a b => ltP a.p b.p)) ∨
    (∃ q : Ps, allX s = ([], 20, q) ∧ 1 ≤ q.1 ∧ 1 ≤ q.2 ∧ q.1 ≤ (advs (1, 1) (cut s)).1) := by
  rw [allX_ok hs]
  rcases lx_ends (1, 1) (cut s) with ⟨h1, h2, m, h3⟩ | ⟨h1, h2⟩
  · left
    have ho := (lx_order (1, 1) (cut s)).2
    refine ⟨m, advs (1, 1) (cut s), ?_, rfl, ?_⟩
    · rw [← h3]
      generalize lx (1, 1) (cut s) = z at h1 h2
      obtain ⟨a, b, c⟩ := z
      simp only at h1 h2
      rw [h1, h2]
    · rw [← h3]; exact ho
  · right
    obtain ⟨m, n, h3, h4⟩ := lx_at (1, 1) (cut s) (by rw [h1]; decide)
    have b1 := advs_line (1, 1) m
    have b2 := advs_line (advs (1, 1) m) n
    refine ⟨advs (1, 1) m, ?_, b1.1, b1.2 (Nat.le_refl _), by rw [h3, advs_app]; exact b2.1⟩
    rw [← h4]
    generalize lx (1, 1) (cut s) = z at h1 h2
    obtain ⟨a, b, c⟩ := z
    simp only at h1 h2
    rw [h1, h2]
set_option maxRecDepth 100000 in
set_option maxHeartbeats 2000000 in
theorem lexFronts_ok (s t : List UInt8) (w : World) (C : LexC) (HA : Awake5) (hs : s.length ≤ 1000) (ht : t.length ≤ 1000) (m : List Tok) (q : Ps) (hX : allX s = (m ++ [⟨0, [], q⟩], 0, (0, 0))) (hP : (m ++ [(⟨0, [], q⟩ : Tok)]).Pairwise (fun a b => ltP a.p b.p)) :
    Calls Try.prog 6 #[.string (txt s), .string (txt t)] w fun e w' => e = .returned (.bool true) ∧ Below w.heap.size w w' := by
  have hsz := txt_size s
  have htz := txt_size t
  have HAW := Lib.hid HA
  have AL := fun W => allW C (by omega) hX W
  have i0 : ¬ (1000 : Int) < (s.length : Int) := by omega
  have i1 : ¬ (1000 : Int) < (t.length : Int) := by omega
  have hlen : m.length ≤ 1000 := by
    have h1 := allX_len s
    rw [hX] at h1
    simp only [List.length_append, List.length_cons, List.length_nil] at h1
    omega
  obtain ⟨M, hM⟩ : ∃ M, M = m.length := ⟨_, rfl⟩
  have hL : (m ++ [(⟨0, [], q⟩ : Tok)]).length = M + 1 := by rw [List.length_append, hM]; rfl
  have hend : (m ++ [(⟨0, [], q⟩ : Tok)])[M]? = some ⟨0, [], q⟩ := by rw [hM, List.getElem?_append_right (Nat.le_refl _), Nat.sub_self]; rfl
  obtain ⟨L, hLe⟩ : ∃ L, L = m ++ [(⟨0, [], q⟩ : Tok)] := ⟨_, rfl⟩
  rw [← hLe] at hP hL hend AL
  have HP := Lib.hid hP
  have HL := Lib.hid hL
  have HEND := Lib.hid hend
  have hM9 : M ≤ 1000 := by omega
  clear C HA hX hP hL hend hLe hM hs ht hlen
  go_enter Try.func6, Try.ntmps6
  go_wp2_with fail
  refine (HAW.out _).mono ?_
  rintro r w1 ⟨rfl, hB1⟩
  go_wp2_with fail
  refine (AL _).out.mono ?_
  rintro r w2 ⟨v2, d2, rfl, ht2, hB2⟩
  obtain ⟨A, c, rfl⟩ := RowK.shape ht2
  have hbA := (Below.refl _ w2).alloc (Nat.le_refl _) (.cells #[.int .i64 0, .int .i64 0] 26)
  obtain ⟨W, hW⟩ : ∃ W, W = w2.alloc (.cells #[.int .i64 0, .int .i64 0] 26) := ⟨_, rfl⟩
  have hat : Blk W w2.heap.size 26 #[.int .i64 0, .int .i64 0] := by rw [hW]; exact Blk.new w2 _ _
  have htW : Toks W d2 (.slice A L.length c) L := by rw [hW]; exact ht2.below hbA
  have hBW : Below w.heap.size w W := by rw [hW]; exact (hB1.trans (hB2.mono hB1.size)).trans (hbA.mono (by have := hB1.size; have := hB2.size; omega))
  have hsW : w2.heap.size < W.heap.size := hat.lt
  have HAT := Lib.hid hat
  have HTW := Lib.hid htW
  have HBW := Lib.hid hBW
  clear ht2 hbA hB1 hB2 hat htW hBW
  rw [HL.out] at HTW
  rw [HL.out]
  subst hW
  go_wp2
  go_loopw [9] (fun i wr => ∃ k : Nat, k ≤ M ∧ i = .int .i64 ((k : Int) + 1) ∧ Below (w2.alloc (.cells #[.int .i64 0, .int .i64 0] 26)).heap.size (w2.alloc (.cells #[.int .i64 0, .int .i64 0] 26)) wr) (fun i _ => M + 1 - (intOf i).toNat)
  case atStart => exact ⟨0, Nat.zero_le _, rfl, Below.refl _ _⟩
  case round =>
    obtain ⟨k, hk, rfl, hbel⟩ := hrel
    have hT : Toks wr d2 (.slice A (M + 1) c) L := RowK.below HTW.out hbel
    have hsr := hbel.size
    by_cases hlt : k < M
    · obtain ⟨a, ha⟩ : ∃ a, L[k]? = some a := ⟨_, List.getElem?_eq_getElem (by rw [HL.out]; omega)⟩
      obtain ⟨b, hb⟩ : ∃ b, L[k + 1]? = some b := ⟨_, List.getElem?_eq_getElem (by rw [HL.out]; omega)⟩
      have hab : ltP a.p b.p := by
        have hh := List.pairwise_iff_getElem.1 HP.out k (k + 1) (by rw [HL.out]; omega) (by rw [HL.out]; omega) (by omega)
        rw [List.getElem?_eq_getElem (by rw [HL.out]; omega)] at ha hb
        injection ha with ha
        injection hb with hb
        rw [ha, hb] at hh
        exact hh
      obtain ⟨-, -, o, rfl, hd, -, -, a2, a3⟩ := hT.at ha
      obtain ⟨-, -, o', e, -, -, -, b2, b3⟩ := hT.at hb
      injection e with e
      injection e with _ e _
      subst e
      have hk1 : (k : Int) + 1 < (M : Int) + 1 := by omega
      have a3' : wr.cell? ⟨d2, o + k * 4 + 2 + 1, none⟩ = some (.int .i64 (a.p.2 : Int)) := a3
      have hbx := (Below.refl wr.heap.size wr).alloc (Nat.le_refl _) (.cells #[.int .i64 (a.p.1 : Int), .int .i64 (a.p.2 : Int)] 26)
      have b2' := (hbx.cell (p := ⟨d2, o + (k + 1) * 4 + 2, none⟩) hd).trans b2
      have b3' := (hbx.cell (p := ⟨d2, o + (k + 1) * 4 + 2 + 1, none⟩) hd).trans b3
      clear ha hb hT a3 b2 b3 hbx
      have hbel2 := hbel.trans ((((Below.refl wr.heap.size wr).alloc (Nat.le_refl _) (.cells #[.int .i64 (a.p.1 : Int), .int .i64 (a.p.2 : Int)] 26)).alloc (by simp) (.cells #[.int .i64 (b.p.1 : Int), .int .i64 (b.p.2 : Int)] 26)).mono hsr)
      have HBE := Lib.hid hbel2
      clear hbel hbel2
      unfold ltP at hab
      generalize a.p.1 = x1 at *
      generalize a.p.2 = x2 at *
      generalize b.p.1 = y1 at *
      generalize b.p.2 = y2 at *
      rcases hab with h | ⟨h1, h2⟩
      · have n1 : ¬ y1 < x1 := by omega
        have n2 : ((y1 : Int) == (x1 : Int)) = false := beq_eq_false_iff_ne.2 (by omega)
        clear h
        go_wp2
        all_goals go_roundw
        case rel => exact ⟨k + 1, by omega, by go_num, HBE.out⟩
        case measure => simp [intOf]; omega
      · subst h1
        have n1 : ¬ y2 ≤ x2 := by omega
        clear h2
        go_wp2
        all_goals go_roundw
        case rel => exact ⟨k + 1, by omega, by go_num, HBE.out⟩
        case measure => simp [intOf]; omega
    · obtain rfl : k = M := by omega
      obtain ⟨-, -, o, rfl, hd, e0, -⟩ := hT.at HEND.out
      have hat : Blk wr w2.heap.size 26 #[.int .i64 0, .int .i64 0] := HAT.out.below hbel HAT.out.lt
      have p0 : wr.cell? ⟨w2.heap.size, 0, none⟩ = some (.int .i64 0) := hat.cell 0
      have p1 : wr.cell? ⟨w2.heap.size, 1, none⟩ = some (.int .i64 0) := hat.cell 1
      have HBE := Lib.hid (HBW.out.trans (hbel.mono HBW.out.size))
      have hk1 : ¬ (k : Int) + 1 < (k : Int) + 1 := by omega
      clear hT hat hbel
      go_wp2
      all_goals go_ret
      all_goals exact ⟨rfl, HBE.out⟩

end Go.Proofs.Ytgpcbfjakgndlaa
