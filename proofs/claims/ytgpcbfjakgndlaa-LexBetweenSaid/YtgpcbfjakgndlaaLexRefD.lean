/-
  What the document's Plain and Quote answer (package tollbarref05). No condition but those of each theorem.
-/
import Derived.Test.YtgpcbfjakgndlaaLexRefC
namespace Go.Proofs.Ytgpcbfjakgndlaa
open Go.RowKit
set_option linter.unusedSimpArgs false

theorem txt_cat (a b : List UInt8) : txt a ++ txt b = txt (a ++ b) := by
  apply txt_ext
  rw [ByteArray.data_append, Array.toList_append, txt_data, txt_data, txt_data]
theorem all_step {s : List UInt8} {k : Nat} {c : UInt8} (hc : s[k]? = some c) (p : UInt8 → Bool) : (s.take (k + 1)).all p = ((s.take k).all p && p c) := by
  rw [List.take_add_one, hc]
  simp
set_option maxRecDepth 100000 in
theorem rplain_any (s : List UInt8) (w : World) (hl : s.length ≤ 100000) : Calls Try.prog 15 #[.string (txt s)] w fun r w' => r = .returned (.bool (plainX s)) ∧ w = w' := by
  have hsz := txt_size s
  have ht : (txt s).toList = s := txt_toList s
  go_enter Try.func15, Try.ntmps15
  go_wp2
  go_loop [3] (fun i => ∃ k : Nat, k ≤ s.length ∧ i = .int .i64 (k : Int) ∧ Hid ((s.take k).all (fun c => letterB [c]) = true)) (fun i => s.length - (intOf i).toNat)
  case atStart => exact ⟨0, by omega, rfl, Lib.hid rfl⟩
  case round =>
    obtain ⟨k, hk, rfl, HK⟩ := hrel
    by_cases h1 : k < s.length
    · have d1 : (k : Int) < (s.length : Int) := by omega
      obtain ⟨c, hc⟩ : ∃ c, s[k]? = some c := ⟨_, List.getElem?_eq_getElem h1⟩
      have hx : (txt s).extract k (k + 1) = txt [c] := by
        rw [txt_extract, List.take_add_one, hc, List.drop_append_of_le_length (by rw [List.length_take]; omega)]
        simp
      have i1 : (k : Int) + 1 ≤ (s.length : Int) := by omega
      have HL := Lib.hid (rletter_any [c] w (by simp))
      have hs := all_step hc (fun c => letterB [c])
      rw [HK.out, Bool.true_and] at hs
      have HS := Lib.hid hs
      have HC := Lib.hid hc
      clear hs hc h1
      cases hb : letterB [c] with
      | true =>
        rw [hb] at HL
        have HS2 : Hid ((s.take (k + 1)).all (fun c => letterB [c]) = true) := Lib.hid (by rw [HS.out, hb])
        clear HS
        go_wp2_with fail
        refine HL.out.mono ?_
        rintro r w' ⟨rfl, rfl⟩
        go_wp2
        go_round
        case rel => exact ⟨k + 1, by omega, by go_num, HS2⟩
        case measure => simp [intOf]; omega
      | false =>
        rw [hb] at HL
        have HP : Hid (plainX s = false) := Lib.hid (by
          unfold plainX
          have : s.all (fun c => letterB [c]) = false := by
            rw [List.all_eq_false]
            exact ⟨c, List.mem_of_getElem? HC.out, by simp [hb]⟩
          rw [this, Bool.and_false])
        clear HS
        go_wp2_with fail
        refine HL.out.mono ?_
        rintro r w' ⟨rfl, rfl⟩
        go_wp2
        go_ret
        exact ⟨by rw [HP.out]; rfl, rfl⟩
    · obtain rfl : k = s.length := by omega
      have HP : Hid (plainX s = !s.isEmpty) := Lib.hid (by
        have h := HK.out
        rw [List.take_length] at h
        unfold plainX
        rw [h, Bool.and_true])
      clear h1
      go_wp2
      go_ret
      exact ⟨by rw [HP.out]; rfl, rfl⟩

/-! ### Quote -/
theorem hex_ext {k : Nat} (h : k < 16) : (ByteArray.mk #[48, 49, 50, 51, 52, 53, 54, 55, 56, 57, 97, 98, 99, 100, 101, 102]).extract k (k + 1) = txt [hexes.getD k 0] := by
  have e0 : ∀ k, k < 16 → (hexes.take (k + 1)).drop k = [hexes.getD k 0] := by decide
  have e1 : (ByteArray.mk #[48, 49, 50, 51, 52, 53, 54, 55, 56, 57, 97, 98, 99, 100, 101, 102]) = txt hexes := rfl
  rw [e1, txt_extract, e0 k h]
theorem quo_step {l : List It} {j : Nat} {x : It} (h : l[j]? = some x) (T : List UInt8) (hT : T = 34 :: (l.take j).flatMap quoI) : T ++ quoI x = 34 :: (l.take (j + 1)).flatMap quoI := by
  rw [List.take_add_one, h, hT]
  simp
/-- What a character in a quoted text needs: the four ways. -/
theorem quo_a {x : It} (h : x.1 = [34] ∨ x.1 = [92]) : quoI x = 92 :: x.1 := by unfold quoI; rw [if_pos h]
theorem quo_n {x : It} (h : x.1 = [10]) : quoI x = [92, 110] := by unfold quoI; rw [if_neg (by rw [h]; decide), if_pos h]
theorem quo_t {x : It} (h : x.1 = [9]) : quoI x = [92, 116] := by unfold quoI; rw [if_neg (by rw [h]; decide), if_neg (by rw [h]; decide), if_pos h]
theorem quo_x {x : It} {a : UInt8} (hx : x.1 = [a]) (h1 : a ≠ 34) (h2 : a ≠ 92) (h3 : a ≠ 10) (h4 : a ≠ 9) (h : x.2 = false ∨ a.toNat < 32 ∨ a.toNat = 127) :
    quoI x = [92, 120, hexes.getD (a.toNat / 16) 0, hexes.getD (a.toNat % 16) 0] := by
  unfold quoI
  rw [hx]
  have h' : x.2 = false ∨ a < 32 ∨ a = 127 := by
    rcases h with h | h | h
    · exact .inl h
    · exact .inr (.inl (by rw [UInt8.lt_iff_toNat_lt]; exact h))
    · exact .inr (.inr (UInt8.toNat_inj.1 h))
  simp [h1, h2, h3, h4, h']
theorem quo_o {x : It} {a : UInt8} {r : List UInt8} (hx : x.1 = a :: r) (h1 : x.1 ≠ [34]) (h2 : x.1 ≠ [92]) (h3 : x.1 ≠ [10]) (h4 : x.1 ≠ [9]) (h : x.2 = true) (h5 : ¬ a.toNat < 32) (h6 : a.toNat ≠ 127) : quoI x = x.1 := by
  unfold quoI
  have g5 : ¬ a < 32 := by rw [UInt8.lt_iff_toNat_lt]; exact h5
  have g6 : a ≠ 127 := fun e => h6 (by rw [e]; rfl)
  rw [if_neg (by simp [h1, h2]), if_neg h3, if_neg h4, hx, h]
  simp [g5, g6]
theorem quo_len {x : It} (h : ItOk x) : (quoI x).length ≤ 4 := by
  obtain ⟨_, h4, _, _⟩ := h
  unfold quoI
  split
  · rename_i h; rcases h with h | h <;> rw [h] <;> decide
  · split
    · decide
    · split
      · decide
      · split
        · simp
        · exact h4
def RQuoP (s : List UInt8) (w : World) (r : Ending) (w' : World) : Prop := r = .returned (.string (txt (quoteX s))) ∧ Below w.heap.size w w'
set_option maxRecDepth 100000 in
set_option maxHeartbeats 4000000 in
theorem rquote_any (s : List UInt8) (w : World) (hl : s.length ≤ 100000) : Calls Try.prog 16 #[.string (txt s)] w (RQuoP s w) := by
  have hsz := txt_size s
  obtain ⟨l, hcut⟩ : ∃ l, l = cut s := ⟨_, rfl⟩
  have hll : l.length ≤ 100000 := by rw [hcut]; exact Nat.le_trans (cut_len s) hl
  have hok : ∀ x ∈ l, ItOk x := by rw [hcut]; exact cut_item s
  have HSG := Lib.hid (rsigns_any s w hl)
  have HQX : Hid (∀ T, T = 34 :: l.flatMap quoI → quoteX s = T ++ [34]) := Lib.hid (fun T h => by rw [h, hcut]; rfl)
  unfold SgnP at HSG
  rw [← hcut] at HSG
  clear hcut
  go_enter Try.func16, Try.ntmps16
  go_wp2_with fail
  refine HSG.out.mono ?_
  rintro r W ⟨v, rfl, hown, hbel⟩
  obtain ⟨d, hrow, -⟩ := hown.row
  obtain ⟨A, c, rfl⟩ := hrow.shape
  have hv : Sgs W d (.slice A (l.length + 1) c) (1, 1) l := hrow
  clear hown hrow
  go_wp2
  go_loopw [3, 5] (fun y i wr => ∃ (k : Nat) (T : List UInt8), k ≤ l.length ∧ y = .string (txt T) ∧ i = .int .i64 (k : Int) ∧ T.length ≤ 1 + 4 * k ∧ Hid (T = 34 :: (l.take k).flatMap quoI) ∧ Below W.heap.size W wr) (fun _ i _ => l.length - (intOf i).toNat)
  case atStart => exact ⟨0, [34], by omega, rfl, rfl, by simp, Lib.hid rfl, Below.refl _ _⟩
  case round =>
    obtain ⟨k, T, hk, rfl, rfl, hTl, HT, hbw⟩ := hrel
    have hTs := txt_size T
    obtain ⟨x, hat, hx1, hx2⟩ := sgs_get (1, 1) l hk
    have hvr : Sgs wr d (.slice A (l.length + 1) c) (1, 1) l := RowK.below hv hbw
    obtain ⟨_, him, off, rfl, hdw, c0, c1, -, -⟩ := hvr.at hat
    have i1 : (0 : Int) ≤ (k : Int) := by omega
    have i2 : (k : Int) < (l.length : Int) + 1 := by omega
    have ht : (txt x.1).toList = x.1 := txt_toList x.1
    by_cases h1 : k < l.length
    · have hg := hx1 h1
      have hio := hok x (List.mem_of_getElem? hg)
      obtain ⟨hne, hlen, hfa, htr⟩ := hio
      have hE' : x.1.isEmpty = false := by cases h : x.1 with | nil => exact absurd h hne | cons _ _ => rfl
      have hTn : (T ++ quoI x).length ≤ 1 + 4 * (k + 1) := by
        have := quo_len (hok x (List.mem_of_getElem? hg))
        rw [List.length_append]
        omega
      have hxs := txt_size x.1
      have HST := Lib.hid (quo_step hg T HT.out)
      obtain ⟨a, r, har⟩ : ∃ a r, x.1 = a :: r := by
        cases h : x.1 with
        | nil => exact absurd h hne
        | cons a r => exact ⟨a, r, rfl⟩
      clear hx1 hx2 hat hg hvr
      by_cases h34 : x.1 = [34] ∨ x.1 = [92]
      · have HV : Hid (txt T ++ (txt [92] ++ txt x.1) = txt (T ++ quoI x)) := Lib.hid (by rw [quo_a h34, txt_cat, txt_cat]; rfl)
        have e34 : (x.1 == [34] || x.1 == [92]) = true := by simpa using h34
        rcases h34 with h | h
        all_goals rw [h] at c0 ht hE' HV hxs hlen
        all_goals clear e34 h hfa htr har hne
        all_goals go_wp2
        all_goals go_roundw
        all_goals first
          | exact ⟨k + 1, _, by omega, by rw [← HV.out]; rfl, by go_num, hTn, HST, hbw⟩
          | (simp [intOf]; omega)
      have g34 : x.1 ≠ [34] := fun h => h34 (.inl h)
      have g92 : x.1 ≠ [92] := fun h => h34 (.inr h)
      have b34 : (x.1 == [34]) = false := beq_eq_false_iff_ne.2 g34
      have b92 : (x.1 == [92]) = false := beq_eq_false_iff_ne.2 g92
      clear h34
      by_cases h10 : x.1 = [10]
      · have HV : Hid (txt T ++ txt [92, 110] = txt (T ++ quoI x)) := Lib.hid (by rw [quo_n h10, txt_cat])
        rw [h10] at c0 ht hE' b34 b92 hxs hlen
        clear h10 hfa htr har hne g34 g92
        go_wp2
        go_roundw
        case rel => exact ⟨k + 1, _, by omega, by rw [← HV.out]; rfl, by go_num, hTn, HST, hbw⟩
        case measure => simp [intOf]; omega
      have b10 : (x.1 == [10]) = false := beq_eq_false_iff_ne.2 h10
      by_cases h9 : x.1 = [9]
      · have HV : Hid (txt T ++ txt [92, 116] = txt (T ++ quoI x)) := Lib.hid (by rw [quo_t h9, txt_cat])
        rw [h9] at c0 ht hE' b34 b92 b10 hxs hlen
        clear h9 hfa htr har hne g34 g92 h10
        go_wp2
        go_roundw
        case rel => exact ⟨k + 1, _, by omega, by rw [← HV.out]; rfl, by go_num, hTn, HST, hbw⟩
        case measure => simp [intOf]; omega
      have b9 : (x.1 == [9]) = false := beq_eq_false_iff_ne.2 h9
      have hin : 0 < (txt x.1).size := by rw [txt_size, har]; simp
      have hix : (((txt x.1)[0]'hin).toNat : Int) = (a.toNat : Int) := by
        rw [txt_get x.1 0 (by rw [har]; simp) hin]
        simp [har]
      have d0 : ((txt x.1).size : Int) = (x.1.length : Int) := by rw [txt_size]
      have d1 : (0 : Int) < (x.1.length : Int) := by rw [har]; simp
      have ha8 := UInt8.toNat_lt a
      by_cases hx : x.2 = false ∨ a.toNat < 32 ∨ a.toNat = 127
      · have h1 : x.1 = [a] := by
          rcases hb : x.2 with _ | _
          · obtain ⟨a', e, _⟩ := hfa hb
            rw [har] at e
            injection e with e e2
            rw [har, e2]
          · rw [hb] at hx
            rcases htr hb with ⟨a', e, _⟩ | ⟨_, ⟨a', r', e, h128⟩, _⟩
            · rw [har] at e
              injection e with e e2
              rw [har, e2]
            · rw [har] at e
              injection e with e _
              subst e
              rcases hx with h | h | h
              · cases h
              · omega
              · omega
        have HV : Hid (txt T ++ ((txt [92, 120] ++ txt [hexes.getD (a.toNat / 16) 0]) ++ txt [hexes.getD (a.toNat % 16) 0]) = txt (T ++ quoI x)) := Lib.hid (by
          rw [quo_x h1 (fun e => g34 (by rw [h1, e])) (fun e => g92 (by rw [h1, e])) (fun e => h10 (by rw [h1, e])) (fun e => h9 (by rw [h1, e])) hx, txt_cat, txt_cat, txt_cat]
          rfl)
        have x1 := Lib.hid (hex_ext (k := a.toNat / 16) (by omega))
        have x2 := Lib.hid (hex_ext (k := a.toNat % 16) (by omega))
        rw [h1] at c0 ht hE' b34 b92 b10 b9 hxs hlen
        clear hix hin d0 d1 hfa htr har hne g34 g92 h10 h9 h1
        have hin : 0 < (txt [a]).size := by rw [txt_size]; simp
        have hix : (((txt [a])[0]'hin).toNat : Int) = (a.toNat : Int) := by rw [txt_get [a] 0 (by simp) hin]; rfl
        have d0 : ((txt [a]).size : Int) = 1 := by rw [txt_size]; rfl
        have t1 : (a.toNat : Int).tdiv 16 = ((a.toNat / 16 : Nat) : Int) := by rw [Int.tdiv_eq_ediv_of_nonneg (by omega)]; omega
        have t2 : (a.toNat : Int).tmod 16 = ((a.toNat % 16 : Nat) : Int) := by rw [Int.tmod_eq_emod_of_nonneg (by omega)]; omega
        by_cases hx2 : x.2 = false
        · rw [hx2] at c1
          clear hx
          go_wp2_with fail
          go_region
          all_goals go_wp2
          all_goals exact ⟨⟨k + 1, _, by omega, by rw [x1.out, x2.out, ← HV.out]; rfl, by go_num, hTn, HST, hbw.drew⟩, by simp [intOf]; omega⟩
        · have e2 : x.2 = true := by rcases h : x.2 with _ | _; exact absurd h hx2; rfl
          rw [e2] at c1
          by_cases hx3 : a.toNat < 32
          · have e3 : (a.toNat : Int) < 32 := by omega
            clear hx hx3 hx2
            go_wp2_with fail
            go_region
            all_goals go_wp2
            all_goals exact ⟨⟨k + 1, _, by omega, by rw [x1.out, x2.out, ← HV.out]; rfl, by go_num, hTn, HST, hbw.drew⟩, by simp [intOf]; omega⟩
          · have e3 : ¬ (a.toNat : Int) < 32 := by omega
            have e4 : ((a.toNat : Int) == 127) = true := by rw [beq_iff_eq]; rcases hx with h | h | h; exact absurd h hx2; exact absurd h hx3; omega
            clear hx hx3 hx2
            go_wp2_with fail
            go_region
            all_goals go_wp2
            all_goals exact ⟨⟨k + 1, _, by omega, by rw [x1.out, x2.out, ← HV.out]; rfl, by go_num, hTn, HST, hbw.drew⟩, by simp [intOf]; omega⟩
      · have HV : Hid (txt T ++ txt x.1 = txt (T ++ quoI x)) := Lib.hid (by
          rw [quo_o har g34 g92 h10 h9 (by rcases h : x.2 with _ | _; exact absurd (.inl h) hx; rfl) (fun h => hx (.inr (.inl h))) (fun h => hx (.inr (.inr h))), txt_cat])
        have e2 : x.2 = true := by rcases h : x.2 with _ | _; exact absurd (.inl h) hx; rfl
        have e3 : ¬ (a.toNat : Int) < 32 := by omega
        have e4 : ((a.toNat : Int) == 127) = false := beq_eq_false_iff_ne.2 (by omega)
        rw [e2] at c1
        clear hx hfa htr har hne g34 g92 h10 h9
        go_wp2
        go_roundw
        case rel => exact ⟨k + 1, _, by omega, by rw [← HV.out], by go_num, hTn, HST, hbw⟩
        case measure => simp [intOf]; omega
    · obtain rfl : k = l.length := by omega
      have hxn := hx2 rfl
      subst hxn
      have HF : Hid (txt T ++ txt [34] = txt (quoteX s)) := Lib.hid (by
        have h := HT.out
        rw [List.take_length] at h
        rw [HQX.out T h, txt_cat])
      clear hx1 hx2 h1 hat hvr
      go_wp2
      go_ret
      exact ⟨by rw [← HF.out]; rfl, hbel.trans (hbw.mono hbel.size)⟩

end Go.Proofs.Ytgpcbfjakgndlaa
