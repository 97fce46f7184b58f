/-
  The walk of the law FrameTurns: it answers true, for all bytes, places and turns, and writes nothing that was there, where package frame answers as it is to (FrmC).
-/
import Derived.Test.YtepcaaejadeklaaDoorLaw04A
import Derived.Test.YtepcaaejadeklaaDoorFrmWrt
import Derived.Test.YtepcaaejadeklaaDoorOctI
namespace Go.Proofs.YtepcaaejadeklaaDoor
open Go.RowKit
set_option linter.unusedSimpArgs false

theorem recs_turned {T' : List UInt8} {G : List UInt8} (h : getF (T' ++ G) = ([], 0, 12)) : recs (T' ++ G) = ([], 0, 12) := by
  have h0 : T' ++ G ≠ [] := by
    intro e
    rw [e] at h
    exact absurd h (by decide)
  exact recs_err h0 h (by decide)

set_option maxRecDepth 100000 in
set_option maxHeartbeats 1000000 in
theorem frameTurns_walk (a0 : Option Addr) (len0 cap0 : Nat) (z0 : List Int) (a1 a2 : Int) (w : World) (C : FrmC w) (w0 : IsRow .u8 w a0 len0 cap0 z0) (w1 : (Lit.int .u16 a1).wf = true) (w2 : (Lit.int .u32 a2).wf = true) :
    Calls Tryd.prog 6 #[.slice a0 len0 cap0, .int .u16 a1, .int .u32 a2] w fun e w' => e = .returned (.bool true) ∧ Below w.heap.size w w' := by
  have HC := Lib.hid C
  clear C
  obtain ⟨b0, b1⟩ := bounds_u16 w1
  obtain ⟨b2, b3⟩ := bounds_u32 w2
  obtain ⟨at_, rfl⟩ := Int.eq_ofNat_of_zero_le b0
  obtain ⟨turn, rfl⟩ := Int.eq_ofNat_of_zero_le b2
  have hturn : turn < 4294967296 := by omega
  have hat : at_ < 65536 := by omega
  clear w1 w2 b0 b1 b2 b3
  by_cases h1 : 100 < len0
  · have d0 : decide ((100 : Int) < (len0 : Int)) = true := decide_eq_true (by omega)
    clear h1
    go_enter Tryd.func6, Tryd.ntmps6
    go_wp2_with fail
    refine (awake4_any HC.out _ (Below.refl _ _)).mono ?_
    rintro r w1 ⟨rfl, hB1⟩
    go_wp2
    go_ret
    exact ⟨rfl, hB1⟩
  · have d0 : decide ((100 : Int) < (len0 : Int)) = false := decide_eq_false (by omega)
    by_cases h2 : turn = 0
    · subst h2
      clear h1
      go_enter Tryd.func6, Tryd.ntmps6
      go_wp2_with fail
      refine (awake4_any HC.out _ (Below.refl _ _)).mono ?_
      rintro r w1 ⟨rfl, hB1⟩
      go_wp2
      go_ret
      exact ⟨rfl, hB1⟩
    · have t0 : ((turn : Int) == 0) = false := beq_eq_false_iff_ne.2 (by omega)
      obtain ⟨d, b, rfl, -, hr0⟩ := w0.rd (by omega)
      have lb : b.length ≤ 100 := by omega
      clear h1 h2 w0
      obtain ⟨T, hT⟩ : ∃ T, T = encV 9 b.length ++ b := ⟨_, rfl⟩
      obtain ⟨G, hG⟩ : ∃ G, G = bigB (crc T) 4 := ⟨_, rfl⟩
      have hP : encV 9 b.length = [UInt8.ofNat b.length] := encV_small 9 _ (by omega)
      have lT : T.length = 1 + b.length := by rw [hT, hP, List.length_append]; rfl
      have lG : G.length = 4 := by rw [hG]; exact bigB_length _ _
      have hf : frm b = T ++ G := by unfold frm; rw [hG, hT]
      obtain ⟨q, hq⟩ : ∃ q, q = at_ % (8 * b.length + 1) := ⟨_, rfl⟩
      have hq8 : q ≤ 8 * b.length := by
        have := Nat.mod_lt at_ (show 0 < 8 * b.length + 1 by omega)
        omega
      have hqI : (at_ : Int) % (8 * (b.length : Int) + 1) = (q : Int) := by rw [hq]; push_cast; rfl
      obtain ⟨bit, hbit⟩ : ∃ bit, bit = 8 + q := ⟨_, rfl⟩
      obtain ⟨M, hM⟩ : ∃ M, M = 8 + 8 * b.length - bit := ⟨_, rfl⟩
      have TURNED : Hid (∀ T' E, Turned T T' E bit → E < 4294967296 → E ≠ 0 → getF (T' ++ G) = ([], 0, 12)) := Lib.hid fun T' E h1 h2 h3 => by
        rw [hT] at h1
        rw [hG, hT]
        exact getF_turned b T' E bit (by omega) h1 (by omega) h2 h3 (by omega)
      have PUT : ∀ W v, Hid (Below w.heap.size w W → Rd W d v b → Calls Tryd.prog 10 #[v] W (fun r w' => ∃ v', r = .returned (.tuple #[v', .int .i64 0]) ∧ Own w' W.heap.size v' (T ++ G) ∧ Below W.heap.size W w')) := fun W v => Lib.hid fun hB h => by
        have h1 := HC.out.put b W d v hB h
        unfold PutFP at h1
        rw [(putF_small (l := b) (by omega)).1, (putF_small (l := b) (by omega)).2, hf] at h1
        exact h1
      have QP := Lib.hid PUT
      have HBIT : Hid (bit = 8 + q) := Lib.hid hbit
      have HT1 := Lib.hid lT
      have HG1 := Lib.hid lG
      have HM := Lib.hid hM
      clear PUT hT hG hP hf hq hM lT lG hbit
      go_enter Tryd.func6, Tryd.ntmps6
      go_wp2_with fail
      refine (awake4_any HC.out _ (Below.refl _ _)).mono ?_
      rintro r w1 ⟨rfl, hB1⟩
      have hr1 := hr0.below' hB1
      clear hr0
      go_wp2_with fail
      refine ((QP.out _ _).out hB1 hr1).mono ?_
      rintro r w2 ⟨v2, rfl, hown2, hb2⟩
      have lTG : (T ++ G).length = 1 + b.length + 4 := by rw [List.length_append, HT1.out, HG1.out]
      obtain ⟨g, cap, rfl, hg1, hg2, hW⟩ := hown2.wrt (by omega) (by omega)
      rw [lTG]
      obtain ⟨L, hL⟩ : ∃ L, L = 1 + b.length + 4 := ⟨_, rfl⟩
      rw [← hL]
      have HL := Lib.hid hL
      have hL5 : 5 ≤ L := by omega
      have hL105 : L ≤ 105 := by omega
      clear hL
      have hB2 := hB1.trans (hb2.mono hB1.size)
      have hgw : w.heap.size ≤ g := Nat.le_trans hB1.size hg1
      clear hr1 hown2 hb2 lTG hB1
      go_wp2
      clear d0 t0 hqI
      go_loopw [2, 11, 12] (fun t u i wr => ∃ (j tt : Nat) (T' : List UInt8), j ≤ 32 ∧ i = .int .i64 (j : Int) ∧ t = .int .u32 (tt : Int) ∧ tt < 4294967296 ∧ u = .bool (decide (trn turn M j ≠ 0)) ∧ Hid (tt = turn / 2 ^ j) ∧ Turned T T' (trn turn M j) bit ∧ Wrt wr g cap (T' ++ G) ∧ Below w.heap.size w wr) (fun _ _ i _ => 32 - (intOf i).toNat)
      case atStart => exact ⟨0, turn, T, by omega, rfl, rfl, hturn, by rw [trn_zero]; rfl, Lib.hid (by simp), by rw [trn_zero]; exact Turned.zero _ _, hW, hB2⟩
      case round =>
        obtain ⟨j, tt, T', hj, rfl, rfl, htt, rfl, HTT, hTu, hWr, hBr⟩ := hrel
        clear hW hB2
        by_cases hlt : j < 32
        · have HTN : Hid (tt / 2 = turn / 2 ^ (j + 1)) := Lib.hid (by rw [HTT.out, Nat.div_div_eq_div_mul, Nat.pow_succ])
          obtain ⟨tn, htn⟩ : ∃ tn, tn = tt / 2 := ⟨_, rfl⟩
          have htnI : (tt : Int) / 2 = (tn : Int) := by omega
          have htn32 : tn < 4294967296 := by omega
          rw [← htn] at HTN
          by_cases c1 : tt % 2 = 1
          · have e1 : ((tt : Int) % 2 == 1) = true := by
              have h : (tt : Int) % 2 = 1 := by omega
              rw [h]; rfl
            have c1' := c1
            rw [HTT.out] at c1'
            by_cases c2 : j < M
            · have dd : decide ((8 : Int) + (q : Int) + (j : Int) < 8 * (L : Int) - 32) = true := decide_eq_true (by have := HL.out; have := HM.out; have := HBIT.out; omega)
              have dd' : decide ((8 : Int) + ((q : Int) + (j : Int)) < 8 * (L : Int) - 32) = true := decide_eq_true (by have := HL.out; have := HM.out; have := HBIT.out; omega)
              obtain ⟨hon, hne⟩ := trn_on turn M j c2 c1'
              have hk8 : (bit + j) / 8 < T.length := by have := HL.out; have := HM.out; have := HBIT.out; have := HT1.out; omega
              have hst := hTu.step (i := j) hk8
              rw [← hon] at hst
              obtain ⟨kq, hkq⟩ : ∃ kq, kq = (bit + j) / 8 := ⟨_, rfl⟩
              obtain ⟨kr, hkr⟩ : ∃ kr, kr = (bit + j) % 8 := ⟨_, rfl⟩
              have hkqI : ((8 : Int) + (q : Int) + (j : Int)) / 8 = (kq : Int) := by have := HBIT.out; omega
              have hkrI : ((8 : Int) + (q : Int) + (j : Int)) % 8 = (kr : Int) := by have := HBIT.out; omega
              have hkr7 : kr ≤ 7 := by omega
              have hkqL : kq < L := by have := HL.out; have := HT1.out; omega
              rw [← hkq, ← hkr] at hst
              have hTl := hTu.length
              rw [← hkq] at hk8
              obtain ⟨b0, hb0⟩ : ∃ b0, T'[kq]? = some b0 := ⟨_, List.getElem?_eq_getElem (by omega)⟩
              have hgd : T'.getD kq 0 = b0 := by simp [List.getD, hb0]
              rw [hgd] at hst
              obtain ⟨y, hy⟩ : ∃ y, y = b0 ^^^ UInt8.ofNat (2 ^ kr) := ⟨_, rfl⟩
              rw [← hy] at hst
              have hcell : wr.cell? ⟨g, kq, none⟩ = some (.int .u8 (b0.toNat : Int)) := hWr.at (by rw [List.getElem?_append_left (by omega)]; exact hb0)
              have f0 := hWr.frozen kq
              have hnewW : Wrt (wr.setCell ⟨g, kq, none⟩ (.int .u8 (y.toNat : Int))) g cap (T'.set kq y ++ G) := by
                have h := hWr.set kq y
                rw [List.set_append_left _ _ (by omega)] at h
                exact h
              have hnewB : Below w.heap.size w (wr.setCell ⟨g, kq, none⟩ (.int .u8 (y.toNat : Int))) := hBr.setCell (p := ⟨g, kq, none⟩) hgw _
              have X1 : ∀ O : Nat, O < 256 → Hid (O = 2 ^ kr) → Hid (bits .xor .u8 (b0.toNat : Int) (O : Int) = (y.toNat : Int)) := fun O hO HO => Lib.hid (by
                rw [u8_xor_nat _ _ b0.toNat_lt hO, hy, UInt8.toNat_xor, ofNat_toNat, ← HO.out, Nat.mod_eq_of_lt hO])
              have HX1 := Lib.hid X1
              have HST := Lib.hid hst
              have HNW := Lib.hid hnewW
              have HNB := Lib.hid hnewB
              have HNE := Lib.hid hne
              have i1 : (0 : Int) ≤ (kq : Int) := by omega
              have i2 : (kq : Int) < (L : Int) := by omega
              clear hst hnewW hnewB hne X1 hon hb0 hgd hTl hk8 hkq hkr hy c1 c1' htn hTu hWr hBr
              go_wp2
              go_loop [14, 15] (fun o x => ∃ (m O : Nat), m ≤ kr ∧ x = .int .i64 (m : Int) ∧ o = .int .u8 (O : Int) ∧ O < 256 ∧ Hid (O = 2 ^ m)) (fun _ x => kr - (intOf x).toNat)
              case atStart => exact ⟨0, 1, Nat.zero_le _, rfl, rfl, by decide, Lib.hid rfl⟩
              case round =>
                obtain ⟨m, O, hm, rfl, rfl, hO, HO⟩ := hrel
                by_cases hmk : m < kr
                · have hO64 : O ≤ 64 := by
                    have h1 : (2 : Nat) ^ m ≤ 2 ^ 6 := Nat.pow_le_pow_right (by decide) (by omega)
                    have h2 : (2 : Nat) ^ 6 = 64 := by decide
                    rw [HO.out]; omega
                  have HON : Hid (O * 2 = 2 ^ (m + 1)) := Lib.hid (by rw [HO.out, Nat.pow_succ])
                  go_wp2
                  go_round
                  case rel => exact ⟨m + 1, O * 2, by omega, by go_num, by go_num, by omega, HON⟩
                  case measure => simp [intOf]; omega
                · obtain rfl : m = kr := by omega
                  have hx := (HX1.out O hO HO).out
                  clear hmk
                  go_wp2
                  go_roundw
                  case rel => exact ⟨j + 1, tn, T'.set kq y, by omega, by go_num, by go_num, htn32, by rw [decide_eq_true HNE.out], HTN, HST.out, HNW.out, HNB.out⟩
                  case measure => simp [intOf]; omega
            · have dd : decide ((8 : Int) + (q : Int) + (j : Int) < 8 * (L : Int) - 32) = false := decide_eq_false (by have := HL.out; have := HM.out; have := HBIT.out; omega)
              have HTE := Lib.hid (trn_out turn M j c2)
              have HTu := Lib.hid hTu
              clear c1 c1' c2 htn hTu
              go_wp2
              go_roundw
              case rel => exact ⟨j + 1, tn, T', by omega, by go_num, by go_num, htn32, by rw [HTE.out], HTN, by rw [HTE.out]; exact HTu.out, hWr, hBr⟩
              case measure => simp [intOf]; omega
          · have e1 : ((tt : Int) % 2 == 1) = false := beq_eq_false_iff_ne.2 (by omega)
            have c1' := c1
            rw [HTT.out] at c1'
            have HTE := Lib.hid (trn_off turn M j c1')
            have HTu := Lib.hid hTu
            clear c1 c1' htn hTu
            go_wp2
            go_roundw
            case rel => exact ⟨j + 1, tn, T', by omega, by go_num, by go_num, htn32, by rw [HTE.out], HTN, by rw [HTE.out]; exact HTu.out, hWr, hBr⟩
            case measure => simp [intOf]; omega
        · obtain rfl : j = 32 := by omega
          by_cases hE : trn turn M 32 = 0
          · have hu : decide (trn turn M 32 ≠ 0) = false := decide_eq_false (fun h => h hE)
            rw [hu]
            have HB := Lib.hid hBr
            clear hE hu hTu hWr hBr hlt
            go_wp2
            go_ret
            exact ⟨rfl, HB.out⟩
          · have hu : decide (trn turn M 32 ≠ 0) = true := decide_eq_true hE
            rw [hu]
            have hgot := TURNED.out T' _ hTu (trn_lt turn M 32 (by omega)) hE
            have hrec := recs_turned hgot
            have hlen : (T' ++ G).length = L := by rw [List.length_append, hTu.length, HT1.out, HG1.out]; exact HL.out.symm
            have hrd := hWr.rd
            rw [hlen] at hrd
            have GET : ∀ W v, Hid (Below w.heap.size w W → Rd W g v (T' ++ G) → Calls Tryd.prog 12 #[v] W (fun r w' => ∃ v' d', r = .returned (.tuple #[v', .int .i64 0, .int .i64 12]) ∧ Rd w' d' v' [] ∧ Below W.heap.size W w')) := fun W v => Lib.hid fun hB h => by
              have h1 := HC.out.get (T' ++ G) W g v hB h (by omega)
              unfold GetFP at h1
              rw [hgot] at h1
              exact h1
            have ALL : ∀ W v, Hid (Below w.heap.size w W → Rd W g v (T' ++ G) → Calls Tryd.prog 16 #[v] W (fun r w' => ∃ v' d', r = .returned (.tuple #[v', .int .i64 0, .int .i64 12]) ∧ RowB w' d' v' [] ∧ Below W.heap.size W w')) := fun W v => Lib.hid fun hB h => by
              have h1 := HC.out.all (T' ++ G) W g v hB h (by omega)
              unfold AllFP at h1
              rw [hrec] at h1
              exact h1
            have QG := Lib.hid GET
            have QL := Lib.hid ALL
            clear GET ALL hE hu hTu hWr hlt hgot hrec hlen
            go_wp2_with fail
            refine ((QG.out _ _).out hBr hrd).mono ?_
            rintro r w3 ⟨v3, d3, rfl, hr3, hb3⟩
            obtain ⟨A3, c3, rfl⟩ := hr3.shape4
            have hrd3 := hrd.below' hb3
            have hB3 := hBr.trans (hb3.mono hBr.size)
            clear hrd hb3 hr3 hBr
            go_wp2_with fail
            refine ((QL.out _ _).out hB3 hrd3).mono ?_
            rintro r w4 ⟨v4, d4, rfl, hr4, hb4⟩
            obtain ⟨A4, c4, rfl⟩ := hr4.shape
            have hB4 := hB3.trans (hb4.mono hB3.size)
            clear hrd3 hb4 hr4 hB3
            go_wp2
            go_ret
            exact ⟨rfl, hB4⟩

end Go.Proofs.YtepcaaejadeklaaDoor
