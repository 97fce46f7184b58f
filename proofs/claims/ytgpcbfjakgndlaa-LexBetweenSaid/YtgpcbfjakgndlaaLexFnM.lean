/-
  Package lex: Quote; package lex answers as it is to (LexC). No condition but those of each theorem.
-/
import Derived.Test.YtgpcbfjakgndlaaLexFnL
namespace Go.Proofs.Ytgpcbfjakgndlaa
open Go.RowKit
set_option linter.unusedSimpArgs false

theorem quoI_len {x : It} (h : ItOk x) : (quoI x).length ≤ 5 := by
  have h4 := h.2.1
  unfold quoI
  repeat' split
  all_goals simp
  all_goals omega
set_option maxRecDepth 100000 in
set_option maxHeartbeats 2000000 in
theorem lexQuote_any (s : List UInt8) (w : World) (hs : s.length ≤ 20000) :
    Calls Try.prog 13 #[.string (txt s)] w (fun r w' => r = .returned (.string (txt (quoteX s))) ∧ Below w.heap.size w w') := by
  have hsz := txt_size s
  have hb0 := (Below.refl w.heap.size w).alloc (Nat.le_refl _) (.cells #[.pointer none, .slice none 0 0] 55)
  have hs0 : w.heap.size < (w.alloc (.cells #[.pointer none, .slice none 0 0] 55)).heap.size := by simp
  have WB := Lib.hid (bbyte_any w.heap.size w.heap.size [] 34 _ (Bld.fresh w) (by simp) (Nat.le_of_lt hs0))
  have WB2 : Hid (Calls Try.prog 22 #[.pointer (some ⟨w.heap.size, 0, none⟩), .int .u8 34] (w.alloc (.cells #[.pointer none, .slice none 0 0] 55)) (fun e w' => e = .returned .nilIface ∧ BldP (w.alloc (.cells #[.pointer none, .slice none 0 0] 55)) w.heap.size w.heap.size [34] w')) := WB
  clear WB
  go_enter Try.func13, Try.ntmps13
  go_wp2_with fail
  refine WB2.out.mono ?_
  rintro r w1 ⟨rfl, hbl1, hB1, -⟩
  have hs1 : w.heap.size < w1.heap.size := Nat.lt_of_lt_of_le hs0 hB1.size
  have hB2 := hb0.trans hB1
  have hit0 := World.iter_heap w1 (txt s) 0
  have hbi : Below w1.heap.size w1 (w1.iter (txt s) 0) := (Below.refl _ w1).alloc (Nat.le_refl _) _
  have hbl2 := hbl1.below hbi
  have hB3 := hB2.trans (hbi.mono (Nat.le_of_lt hs1))
  clear hb0 hs0 hbl1 hB1 hB2 hbi
  go_wp2
  obtain ⟨K, hK⟩ : ∃ K, K = w1.heap.size := ⟨_, rfl⟩
  obtain ⟨B, hB⟩ : ∃ B, B = w.heap.size := ⟨_, rfl⟩
  rw [← hK, ← hB] at hs1
  rw [← hK] at hit0 ⊢
  rw [← hB] at hbl2 hB3 ⊢
  have HK := Lib.hid hK
  have HB := Lib.hid hB
  clear hK hB
  go_loopw [] (fun wr => ∃ (t : List UInt8) (pos : Nat), pos ≤ s.length ∧ wr.heap[K]? = some (.stringIter (txt s) pos) ∧ Bld wr B B t ∧ Below B w wr ∧ t.length + 5 * (s.length - pos) ≤ 200000 ∧ Hid (t ++ (cut (s.drop pos)).flatMap quoI = 34 :: (cut s).flatMap quoI)) (fun wr => s.length - wr.iterPos K)
  case atStart => exact ⟨[34], 0, Nat.zero_le _, hit0, hbl2, hB3, by simp; omega, Lib.hid rfl⟩
  case round =>
    obtain ⟨t, pos, hpos, hit, hbl, hbel, htl, HC⟩ := hrel
    have hKs : K < wr.heap.size := (Array.getElem?_eq_some_iff.1 hit).1
    by_cases hlt : pos < s.length
    · have h0 : s.drop pos ≠ [] := by intro e; have := congrArg List.length e; rw [List.length_drop] at this; simp at this; omega
      have hnx : ∀ ty, (Instr.next (.pointer (some ⟨K, 0, none⟩)) true ty).run Try.prog wr = _ := fun ty => Lib.run_next_any_at wr K (txt s) pos ty hit (by rw [txt_size]; exact hlt)
      rw [dec_at s pos (by omega)] at hnx
      have hk := dc_know h0
      have hcc := cut_cons h0
      have hext : (txt s).extract pos s.length = txt (s.drop pos) := by rw [txt_extract, List.take_length]
      have PQ : ∀ W, Hid (Calls Try.prog 24 #[.string (txt (s.drop pos)), .int .i32 ((dc (s.drop pos)).1 : Int)] W (fun r w' => r = .returned (.string (txt (quoI (frC (s.drop pos))))) ∧ Below W.heap.size W w')) := fun W => Lib.hid (partQ_any (s.drop pos) h0 W)
      have hq4 := quoI_len (frC_ok h0).1
      obtain ⟨R, hR⟩ : ∃ R, R = s.drop pos := ⟨_, rfl⟩
      rw [← hR] at hnx hk hcc h0 hext PQ hq4
      obtain ⟨Q, hQ⟩ : ∃ Q, Q = quoI (frC R) := ⟨_, rfl⟩
      rw [← hQ] at PQ hq4
      obtain ⟨c, k, hdc⟩ : ∃ c k, dc R = (c, k) := ⟨_, _, rfl⟩
      have HC2 : Hid ((t ++ Q) ++ (cut (s.drop (pos + k))).flatMap quoI = 34 :: (cut s).flatMap quoI) := Lib.hid (by
        rw [← HC.out, ← hR, hcc, List.flatMap_cons, hQ, hdc, hR, List.drop_drop, List.append_assoc]
        unfold frC
        rw [← hR, hdc])
      rw [hdc] at hnx hk PQ
      simp only at hnx hk PQ
      obtain ⟨hk1, hk2, -⟩ := hk
      have hpk : pos + k ≤ s.length := by rw [hR, List.length_drop] at hk2; omega
      have hit2 := Lib.iterAt_heap wr K (txt s) pos (pos + k) hit
      have hbel2 := Lib.below_iterAt hbel (k := K) (by omega) (txt s) (pos + k)
      have hbl2' : Bld (wr.iterAt K (txt s) (pos + k)) B B t := Lib.IsBuilderF.iterAt hbl hit (pos + k)
      obtain ⟨W, hW⟩ : ∃ W, wr.iterAt K (txt s) (pos + k) = W := ⟨_, rfl⟩
      rw [hW] at hnx hit2 hbel2 hbl2'
      have PQW := PQ W
      have hHIT := Lib.hid hit
      have i1 : (0 : Int) ≤ (pos : Int) := by omega
      have i2 : (pos : Int) ≤ (s.length : Int) := by omega
      have hKW : K < W.heap.size := (Array.getElem?_eq_some_iff.1 hit2).1
      clear hW hdc hbel hbl hit hit0 hbl2 hB3 hR hcc h0 PQ hQ hk2
      go_wp2_with fail
      refine PQW.out.mono ?_
      rintro r w3 ⟨rfl, hB4⟩
      have hbl3 := hbl2'.below hB4
      have hit3 := (hB4.block K hKW).trans hit2
      have hbel3 := hbel2.trans (hB4.mono (by omega))
      have hs3 := hB4.size
      have WS := Lib.hid (bstr_any B B t Q w3 hbl3 (by omega) (by omega))
      clear hB4 hbl2' hit2 hbel2 hbl3
      go_wp2_with fail
      refine WS.out.mono ?_
      rintro r w4 ⟨rfl, hbl4, hB5, hk4⟩
      have HIT4 := Lib.hid (hk4.iter hit3 (by omega))
      have HBL4 := Lib.hid hbl4
      have HBE4 := Lib.hid (hbel3.trans hB5)
      clear hbl4 hB5 hk4 hit3 hbel3
      go_wp2
      go_roundw
      case rel => exact ⟨t ++ Q, pos + k, hpk, HIT4.out, HBL4.out, HBE4.out, by rw [List.length_append]; omega, HC2⟩
      case measure => rw [iterPos_of HIT4.out, iterPos_of hHIT.out]; omega
    · have hpe : pos = s.length := by omega
      have hnx : ∀ ty, (Instr.next (.pointer (some ⟨K, 0, none⟩)) true ty).run Try.prog wr = _ := fun ty => Lib.run_next_end_at wr K (txt s) pos ty hit (by rw [txt_size]; omega)
      have HQ : Hid (t ++ [34] = quoteX s) := Lib.hid (by
        have := HC.out
        rw [hpe, List.drop_length, cut_nil, List.flatMap_nil, List.append_nil] at this
        rw [this]; rfl)
      have WB3 : Hid (Calls Try.prog 22 #[.pointer (some ⟨B, 0, none⟩), .int .u8 34] wr (fun e w' => e = .returned .nilIface ∧ BldP wr B B (t ++ [34]) w')) := Lib.hid (bbyte_any B B t 34 wr hbl (by omega) (by omega))
      have HBEL := Lib.hid hbel
      have hws : w.heap.size ≤ wr.heap.size := hbel.size
      clear hpe hlt hit hbl hbel hit0 hbl2 hB3
      go_wp2_with fail
      refine WB3.out.mono ?_
      rintro r w3 ⟨rfl, hbl3, hB4, -⟩
      have hs3 := hB4.size
      have BS := Lib.hid (bstring_any B B (t ++ [34]) w3 hbl3 (by omega))
      have HB3 := Lib.hid (HBEL.out.trans hB4)
      clear hbl3 hB4
      go_wp2_with fail
      refine BS.out.mono ?_
      rintro r w4 ⟨rfl, -, hB5, -⟩
      have HB4 := Lib.hid (HB3.out.trans hB5)
      clear hB5
      go_wp2
      go_ret
      exact ⟨by rw [← HQ.out]; rfl, by rw [← HB.out]; exact HB4.out⟩

/-- PACKAGE LEX ANSWERS AS IT IS TO. -/
theorem lexC : LexC := ⟨lexAll_any, lexPlain_any, lexQuote_any⟩
end Go.Proofs.Ytgpcbfjakgndlaa
