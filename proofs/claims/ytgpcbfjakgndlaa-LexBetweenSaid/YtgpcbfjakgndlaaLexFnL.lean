/-
  Package lex: part and Quote; package lex answers as it is to. No condition but those of each theorem.
-/
import Derived.Test.YtgpcbfjakgndlaaLexFnK
namespace Go.Proofs.Ytgpcbfjakgndlaa
open Go.RowKit
set_option linter.unusedSimpArgs false

set_option maxRecDepth 100000 in
/-- What is known of the first character, as package lex asks it. -/
theorem frC_ok {s : List UInt8} (h0 : s ≠ []) : ItOk (frC s) ∧ (frC s).1.getD 0 0 = s.getD 0 0 ∧ (okc s = true → Utf8.encode ((dc s).1 : Int) = txt (frC s).1 ∧ wc (frC s) = ((dc s).1 : Int)) := by
  have hk := dc_know h0
  refine ⟨cut_item s _ (by rw [cut_cons h0]; exact List.mem_cons_self), ?_, fun ho => ⟨?_, ?_⟩⟩
  · obtain ⟨a, r, rfl⟩ := List.exists_cons_of_ne_nil h0
    obtain ⟨k, hk2⟩ : ∃ k, (dc (a :: r)).2 = k + 1 := ⟨(dc (a :: r)).2 - 1, by omega⟩
    unfold frC
    simp only [hk2, List.take_succ_cons, List.getD_cons_zero]
  · have h1 := hk.2.2.2.1 ho
    unfold frC
    simp only
    rw [h1]
    unfold encU txt
    simp
  · rw [wc_fr h0, if_pos ho]
/-- A character within a string, by its number. -/
theorem quo_by {x : It} (h : ItOk x) : (wc x = 34 → quoI x = [92, 34]) ∧ (wc x = 92 → quoI x = [92, 92]) ∧ (wc x = 10 → quoI x = [92, 110]) ∧ (wc x = 9 → quoI x = [92, 116]) ∧
    (wc x ≠ 34 → wc x ≠ 92 → wc x ≠ 10 → wc x ≠ 9 → ((wc x < 32 ∨ wc x = 127) → quoI x = [92, 120, hexes.getD ((x.1.getD 0 0).toNat / 16) 0, hexes.getD ((x.1.getD 0 0).toNat % 16) 0]) ∧ (¬ (wc x < 32 ∨ wc x = 127) → quoI x = x.1)) := by
  have e34 := wc_ascii h 34 (by decide)
  have e92 := wc_ascii h 92 (by decide)
  have e10 := wc_ascii h 10 (by decide)
  have e9 := wc_ascii h 9 (by decide)
  have t34 : ((34 : UInt8).toNat : Int) = 34 := rfl
  have t92 : ((92 : UInt8).toNat : Int) = 92 := rfl
  have t10 : ((10 : UInt8).toNat : Int) = 10 := rfl
  have t9 : ((9 : UInt8).toNat : Int) = 9 := rfl
  rw [t34] at e34
  rw [t92] at e92
  rw [t10] at e10
  rw [t9] at e9
  refine ⟨fun k => ?_, fun k => ?_, fun k => ?_, fun k => ?_, fun k1 k2 k3 k4 => ?_⟩
  · unfold quoI; rw [e34.1 k]; rfl
  · unfold quoI; rw [e92.1 k]; rfl
  · unfold quoI; rw [e10.1 k]; rfl
  · unfold quoI; rw [e9.1 k]; rfl
  · have d1 : ¬ (x.1 = [34] ∨ x.1 = [92]) := fun k => k.elim (fun k => k1 (e34.2 k)) (fun k => k2 (e92.2 k))
    have d2 : ¬ x.1 = [10] := fun k => k3 (e10.2 k)
    have d3 : ¬ x.1 = [9] := fun k => k4 (e9.2 k)
    have d4 : (x.2 = false ∨ x.1.getD 0 0 < 32 ∨ x.1.getD 0 0 = 127) ↔ (wc x < 32 ∨ wc x = 127) := by
      rcases wc_cases h with ⟨g1, g2, _⟩ | ⟨a, rfl, ha, g, _⟩ | ⟨g1, g2, g3, _, _⟩
      · exact ⟨fun _ => .inl (by omega), fun _ => .inl g1⟩
      · rw [g]
        simp only [List.getD_cons_zero]
        have l1 : a < 32 ↔ a.toNat < 32 := UInt8.lt_iff_toNat_lt
        have l2 : a = 127 ↔ a.toNat = 127 := by rw [← UInt8.toNat_inj]; rfl
        rw [l1, l2]
        constructor
        · rintro (k | k | k)
          · cases k
          · left; omega
          · right; omega
        · rintro (k | k)
          · right; left; omega
          · right; right; omega
      · refine ⟨fun k => ?_, fun k => by omega⟩
        exfalso
        obtain ⟨a, r, ha, hb⟩ : ∃ a r, x.1 = a :: r ∧ 128 ≤ a.toNat := by
          rcases h.2.2.2 g1 with ⟨a, ha, hl⟩ | ⟨_, ⟨a, r, ha, hb⟩, _⟩
          · rw [ha] at g2; simp at g2
          · exact ⟨a, r, ha, hb⟩
        rw [ha] at k
        simp only [List.getD_cons_zero] at k
        rcases k with k | k | k
        · rw [g1] at k; cases k
        · have := UInt8.lt_iff_toNat_lt.1 k
          have e : (32 : UInt8).toNat = 32 := rfl
          omega
        · rw [k] at hb; exact absurd hb (by decide)
    refine ⟨fun k => ?_, fun k => ?_⟩
    · unfold quoI; rw [if_neg d1, if_neg d2, if_neg d3, if_pos (d4.2 k)]
    · unfold quoI; rw [if_neg d1, if_neg d2, if_neg d3, if_neg (fun h => k (d4.1 h))]
theorem hex_index (i : Nat) (hi : i < 16) (w : World) : (Instr.index 9 (.string ⟨#[48, 49, 50, 51, 52, 53, 54, 55, 56, 57, 97, 98, 99, 100, 101, 102]⟩) (.int .u8 (i : Int))).run Try.prog w = .ok (.int .u8 ((hexes.getD i 0).toNat : Int)) w := by
  have h : i = 0 ∨ i = 1 ∨ i = 2 ∨ i = 3 ∨ i = 4 ∨ i = 5 ∨ i = 6 ∨ i = 7 ∨ i = 8 ∨ i = 9 ∨ i = 10 ∨ i = 11 ∨ i = 12 ∨ i = 13 ∨ i = 14 ∨ i = 15 := by omega
  rcases h with rfl | rfl | rfl | rfl | rfl | rfl | rfl | rfl | rfl | rfl | rfl | rfl | rfl | rfl | rfl | rfl
  all_goals show _ = _
  all_goals kernel_rfl
def PartQP (s : List UInt8) (w : World) (r : Ending) (w' : World) : Prop := r = .returned (.string (txt (quoI (frC s)))) ∧ Below w.heap.size w w'
set_option maxRecDepth 100000 in
set_option maxHeartbeats 2000000 in
theorem partQ_any (s : List UInt8) (h0 : s ≠ []) (w : World) :
    Calls Try.prog 24 #[.string (txt s), .int .i32 ((dc s).1 : Int)] w (PartQP s w) := by
  have hsz := txt_size s
  have DC := Lib.hid (decoded_any s h0 w)
  obtain ⟨hx, hx0, hxe⟩ := frC_ok h0
  obtain ⟨q34, q92, q10, q9, qr⟩ := quo_by hx
  have hstray := wc_neg hx
  obtain ⟨n, hn⟩ : ∃ n, n = wc (frC s) := ⟨_, rfl⟩
  have hok : okc s = (frC s).2 := rfl
  rw [← hn] at DC q34 q92 q10 q9 qr hstray hxe
  obtain ⟨c, hc⟩ : ∃ c, c = (dc s).1 := ⟨_, rfl⟩
  rw [← hc] at DC hxe ⊢
  have hncs : n = -2 ∨ n = (c : Int) := by
    cases ho : okc s with
    | true => exact .inr (hxe ho).2
    | false => exact .inl (hstray.2 (by rw [← hok]; exact ho))
  by_cases d1 : n = 34
  · have HQ := Lib.hid (q34 d1)
    subst d1
    clear hx hx0 hxe q34 q92 q10 q9 qr hstray hok hncs hn hc h0
    go_enter Try.func24, Try.ntmps24
    go_wp2_with fail
    refine DC.out.mono ?_
    rintro r w' ⟨rfl, rfl⟩
    go_wp2
    go_ret
    exact ⟨by rw [HQ.out]; rfl, Below.refl _ _⟩
  by_cases d2 : n = 92
  · have HQ := Lib.hid (q92 d2)
    subst d2
    clear hx hx0 hxe q34 q92 q10 q9 qr hstray hok hncs hn hc h0
    go_enter Try.func24, Try.ntmps24
    go_wp2_with fail
    refine DC.out.mono ?_
    rintro r w' ⟨rfl, rfl⟩
    go_wp2
    go_ret
    exact ⟨by rw [HQ.out]; rfl, Below.refl _ _⟩
  by_cases d3 : n = 10
  · have HQ := Lib.hid (q10 d3)
    subst d3
    clear hx hx0 hxe q34 q92 q10 q9 qr hstray hok hncs hn hc h0
    go_enter Try.func24, Try.ntmps24
    go_wp2_with fail
    refine DC.out.mono ?_
    rintro r w' ⟨rfl, rfl⟩
    go_wp2
    go_ret
    exact ⟨by rw [HQ.out]; rfl, Below.refl _ _⟩
  by_cases d4 : n = 9
  · have HQ := Lib.hid (q9 d4)
    subst d4
    clear hx hx0 hxe q34 q92 q10 q9 qr hstray hok hncs hn hc h0
    go_enter Try.func24, Try.ntmps24
    go_wp2_with fail
    refine DC.out.mono ?_
    rintro r w' ⟨rfl, rfl⟩
    go_wp2
    go_ret
    exact ⟨by rw [HQ.out]; rfl, Below.refl _ _⟩
  obtain ⟨qx, qs⟩ := qr d1 d2 d3 d4
  have m1 : (n == 34) = false := beq_eq_false_iff_ne.2 d1
  have m2 : (n == 92) = false := beq_eq_false_iff_ne.2 d2
  have m3 : (n == 10) = false := beq_eq_false_iff_ne.2 d3
  have m4 : (n == 9) = false := beq_eq_false_iff_ne.2 d4
  by_cases d5 : n < 32 ∨ n = 127
  · have HQ := Lib.hid (qx d5)
    obtain ⟨a, r, har⟩ := List.exists_cons_of_ne_nil h0
    have hx0' : (frC s).1.getD 0 0 = a := by rw [hx0, har]; rfl
    rw [hx0'] at HQ
    have hin : 0 < (txt s).size := by rw [txt_size, har]; simp
    have hix : (((txt s)[0]'hin).toNat : Int) = (a.toNat : Int) := by
      rw [txt_get s 0 (by rw [har]; simp) hin]
      simp only [har, List.getElem_cons_zero]
    have ha := UInt8.toNat_lt a
    obtain ⟨i, hi⟩ : ∃ i, i = a.toNat / 16 := ⟨_, rfl⟩
    obtain ⟨j, hj⟩ : ∃ j, j = a.toNat % 16 := ⟨_, rfl⟩
    rw [← hi, ← hj] at HQ
    have hi16 : i < 16 := by omega
    have hj16 : j < 16 := by omega
    have x1 := hex_index i hi16
    have x2 := hex_index j hj16
    have y1 : (a.toNat : Int) / 16 = (i : Int) := by omega
    have y2 : (a.toNat : Int) % 16 = (j : Int) := by omega
    have y3 : (a.toNat : Int).tmod 16 = (j : Int) := by rw [Int.tmod_eq_emod_of_nonneg (by omega)]; exact y2
    generalize a.toNat = m at hix y1 y2 y3 ha
    have m6 : n = -2 ∨ ((n == -2) = false ∧ (c : Int) < 32) ∨ ((n == -2) = false ∧ ¬ (c : Int) < 32 ∧ ((c : Int) == 127) = true) := by
      by_cases e : n = -2
      · exact .inl e
      · right
        have e2 := beq_eq_false_iff_ne.2 e
        by_cases e3 : (c : Int) < 32
        · exact .inl ⟨e2, e3⟩
        · exact .inr ⟨e2, e3, by rw [beq_iff_eq]; omega⟩
    have hs0 : 0 < s.length := by rw [har]; simp
    clear hx hx0 hx0' hxe q34 q92 q10 q9 qx qs qr hstray hok hncs hn hc h0 d1 d2 d3 d4 d5 har hi hj
    have hnew : Blk (w.drew.alloc (.cells #[.int .u8 92, .int .u8 120, .int .u8 ((hexes.getD i 0).toNat : Int), .int .u8 ((hexes.getD j 0).toNat : Int)] 5)) w.heap.size 5 #[.int .u8 92, .int .u8 120, .int .u8 ((hexes.getD i 0).toNat : Int), .int .u8 ((hexes.getD j 0).toNat : Int)] := Blk.new w.drew _ _
    have hconv : ∀ w', Blk w' w.heap.size 5 #[.int .u8 92, .int .u8 120, .int .u8 ((hexes.getD i 0).toNat : Int), .int .u8 ((hexes.getD j 0).toNat : Int)] → (convert 53 9 (.slice (some ⟨w.heap.size, 0, none⟩) 4 4)).run Try.prog w' = .ok (.string (txt (quoI (frC s)))) w' := fun w' hb => by
      rw [HQ.out]
      exact str_of (Rd.of_blk (l := [92, 120, hexes.getD i 0, hexes.getD j 0]) hb (by simp))
    rcases m6 with rfl | ⟨m5, m6⟩ | ⟨m5, m6, m7⟩
    · skip
      go_enter Try.func24, Try.ntmps24
      go_wp2_with fail
      refine DC.out.mono ?_
      rintro r' w' ⟨rfl, rfl⟩
      go_wp2_with fail
      refine wp_region_noPanic ?_
      refine wp_region_held_drew (S := fun _ => True) (by kernel_rfl) trivial (fun hS => ?_)
      refine wpAnyH_take (i := 0) (oi := ?o1_0_1) (v := ?v1_0_1) ?i1_0_1 (by kernel_rfl) (by kernel_rfl) (by kernel_rfl) (fun _ _ _ h => h) (Or.inl ⟨?g1_0_1, ?y1_0_1⟩) hS ?_
      case i1_0_1 => simp only [List.getElem?_toArray, List.getElem?_cons_succ, List.getElem?_cons_zero]; rfl
      case g1_0_1 => rfl
      case y1_0_1 => (intro w hSw; (go_simp <;> with_reducible rfl))
      (try simp only [Act.put, List.setIfInBounds_toArray, List.set_cons_zero, List.set_cons_succ])
      refine wpAnyH_take (i := 1) (oi := ?o1_1_2) (v := ?v1_1_2) ?i1_1_2 (by kernel_rfl) (by kernel_rfl) (by kernel_rfl) (fun _ _ _ h => h) (Or.inl ⟨?g1_1_2, ?y1_1_2⟩) hS ?_
      case i1_1_2 => simp only [List.getElem?_toArray, List.getElem?_cons_succ, List.getElem?_cons_zero]; rfl
      case g1_1_2 => rfl
      case y1_1_2 => (intro w hSw; (go_simp <;> with_reducible rfl))
      (try simp only [Act.put, List.setIfInBounds_toArray, List.set_cons_zero, List.set_cons_succ])
      refine wpAnyH_take (i := 2) (oi := ?o1_2_3) (v := ?v1_2_3) ?i1_2_3 (by kernel_rfl) (by kernel_rfl) (by kernel_rfl) (fun _ _ _ h => h) (Or.inl ⟨?g1_2_3, ?y1_2_3⟩) hS ?_
      case i1_2_3 => simp only [List.getElem?_toArray, List.getElem?_cons_succ, List.getElem?_cons_zero]; rfl
      case g1_2_3 => rfl
      case y1_2_3 => (intro w hSw; (go_simp <;> with_reducible rfl))
      (try simp only [Act.put, List.setIfInBounds_toArray, List.set_cons_zero, List.set_cons_succ])
      refine wpAnyH_take (i := 3) (oi := ?o1_3_4) (v := ?v1_3_4) ?i1_3_4 (by kernel_rfl) (by kernel_rfl) (by kernel_rfl) (fun _ _ _ h => h) (Or.inl ⟨?g1_3_4, ?y1_3_4⟩) hS ?_
      case i1_3_4 => simp only [List.getElem?_toArray, List.getElem?_cons_succ, List.getElem?_cons_zero]; rfl
      case g1_3_4 => rfl
      case y1_3_4 => (intro w hSw; (go_simp <;> with_reducible rfl))
      (try simp only [Act.put, List.setIfInBounds_toArray, List.set_cons_zero, List.set_cons_succ])
      refine wpAnyH_take (i := 4) (oi := ?o1_4_5) (v := ?v1_4_5) ?i1_4_5 (by kernel_rfl) (by kernel_rfl) (by kernel_rfl) (fun _ _ _ h => h) (Or.inl ⟨?g1_4_5, ?y1_4_5⟩) hS ?_
      case i1_4_5 => simp only [List.getElem?_toArray, List.getElem?_cons_succ, List.getElem?_cons_zero]; rfl
      case g1_4_5 => rfl
      case y1_4_5 => (intro w hSw; (go_simp <;> with_reducible rfl))
      (try simp only [Act.put, List.setIfInBounds_toArray, List.set_cons_zero, List.set_cons_succ])
      refine wpAnyH_take (i := 5) (oi := ?o1_5_6) (v := ?v1_5_6) ?i1_5_6 (by kernel_rfl) (by kernel_rfl) (by kernel_rfl) (fun _ _ _ h => h) (Or.inl ⟨?g1_5_6, ?y1_5_6⟩) hS ?_
      case i1_5_6 => simp only [List.getElem?_toArray, List.getElem?_cons_succ, List.getElem?_cons_zero]; rfl
      case g1_5_6 => rfl
      case y1_5_6 => (intro w hSw; (go_simp <;> with_reducible rfl))
      (try simp only [Act.put, List.setIfInBounds_toArray, List.set_cons_zero, List.set_cons_succ])
      refine wpAnyH_take (i := 6) (oi := ?o1_6_7) (v := ?v1_6_7) ?i1_6_7 (by kernel_rfl) (by kernel_rfl) (by kernel_rfl) (fun _ _ _ h => h) (Or.inl ⟨?g1_6_7, ?y1_6_7⟩) hS ?_
      case i1_6_7 => simp only [List.getElem?_toArray, List.getElem?_cons_succ, List.getElem?_cons_zero]; rfl
      case g1_6_7 => rfl
      case y1_6_7 => (intro w hSw; (go_simp <;> with_reducible rfl))
      (try simp only [Act.put, List.setIfInBounds_toArray, List.set_cons_zero, List.set_cons_succ])
      refine wpAnyH_take (i := 7) (oi := ?o1_7_8) (v := ?v1_7_8) ?i1_7_8 (by kernel_rfl) (by kernel_rfl) (by kernel_rfl) (fun _ _ _ h => h) (Or.inl ⟨?g1_7_8, ?y1_7_8⟩) hS ?_
      case i1_7_8 => simp only [List.getElem?_toArray, List.getElem?_cons_succ, List.getElem?_cons_zero]; rfl
      case g1_7_8 => rfl
      case y1_7_8 => (intro w hSw; (go_simp <;> with_reducible rfl))
      (try simp only [Act.put, List.setIfInBounds_toArray, List.set_cons_zero, List.set_cons_succ])
      refine wpAnyH_ready (rs := [8]) (by kernel_rfl) (by simp) ?_
      refine (AllReadyH.cons (o := ?o1_9_8) ?i1_9_8 (fun K hK => ?st1_9_8) AllReadyH.nil)
      case i1_9_8 => simp only [List.getElem?_toArray, List.getElem?_cons_succ, List.getElem?_cons_zero]; rfl
      rw [if_pos (by rfl)]
      go_simp
      refine hK.out _ _ ?s1_9_8 (fun hS => ?_)
      case s1_9_8 => (exact hS)
      clear hK K
      (try simp only [Act.put, List.setIfInBounds_toArray, List.set_cons_zero, List.set_cons_succ])
      refine held_more (S' := fun w' => Blk w' w.heap.size 5 #[.int .u8 92, .int .u8 120, .int .u8 ((hexes.getD i 0).toNat : Int), .int .u8 ((hexes.getD j 0).toNat : Int)]) (fun _ _ => trivial) _ _ _ _ ?_
      replace hS := hnew
      refine wpAnyH_take (i := 9) (oi := ?o1_9_10) (v := ?v1_9_10) ?i1_9_10 (by kernel_rfl) (by kernel_rfl) (by kernel_rfl) (fun _ _ _ h => h) (Or.inl ⟨?g1_9_10, ?y1_9_10⟩) hS ?_
      case i1_9_10 => simp only [List.getElem?_toArray, List.getElem?_cons_succ, List.getElem?_cons_zero]; rfl
      case g1_9_10 => rfl
      case y1_9_10 => (intro w hSw; have hcv := hconv w hSw; (go_simp <;> with_reducible rfl))
      (try simp only [Act.put, List.setIfInBounds_toArray, List.set_cons_zero, List.set_cons_succ])
      refine wpAnyH_take (i := 10) (oi := ?o1_10_11) (v := ?v1_10_11) ?i1_10_11 (by kernel_rfl) (by kernel_rfl) (by kernel_rfl) (fun _ _ _ h => h) (Or.inl ⟨?g1_10_11, ?y1_10_11⟩) hS ?_
      case i1_10_11 => simp only [List.getElem?_toArray, List.getElem?_cons_succ, List.getElem?_cons_zero]; rfl
      case g1_10_11 => rfl
      case y1_10_11 => (intro w hSw; (go_simp <;> with_reducible rfl))
      (try simp only [Act.put, List.setIfInBounds_toArray, List.set_cons_zero, List.set_cons_succ])
      refine wpAnyH_done (by kernel_rfl) ?_ _
      refine NoPanic.normal ?_
      go_wp2
      go_ret
      exact ⟨rfl, ((Below.refl _ w).alloc (Nat.le_refl _) _).drew⟩
    · skip
      go_enter Try.func24, Try.ntmps24
      go_wp2_with fail
      refine DC.out.mono ?_
      rintro r' w' ⟨rfl, rfl⟩
      go_wp2_with fail
      refine wp_region_noPanic ?_
      refine wp_region_held_drew (S := fun _ => True) (by kernel_rfl) trivial (fun hS => ?_)
      refine wpAnyH_take (i := 0) (oi := ?o2_0_1) (v := ?v2_0_1) ?i2_0_1 (by kernel_rfl) (by kernel_rfl) (by kernel_rfl) (fun _ _ _ h => h) (Or.inl ⟨?g2_0_1, ?y2_0_1⟩) hS ?_
      case i2_0_1 => simp only [List.getElem?_toArray, List.getElem?_cons_succ, List.getElem?_cons_zero]; rfl
      case g2_0_1 => rfl
      case y2_0_1 => (intro w hSw; (go_simp <;> with_reducible rfl))
      (try simp only [Act.put, List.setIfInBounds_toArray, List.set_cons_zero, List.set_cons_succ])
      refine wpAnyH_take (i := 1) (oi := ?o2_1_2) (v := ?v2_1_2) ?i2_1_2 (by kernel_rfl) (by kernel_rfl) (by kernel_rfl) (fun _ _ _ h => h) (Or.inl ⟨?g2_1_2, ?y2_1_2⟩) hS ?_
      case i2_1_2 => simp only [List.getElem?_toArray, List.getElem?_cons_succ, List.getElem?_cons_zero]; rfl
      case g2_1_2 => rfl
      case y2_1_2 => (intro w hSw; (go_simp <;> with_reducible rfl))
      (try simp only [Act.put, List.setIfInBounds_toArray, List.set_cons_zero, List.set_cons_succ])
      refine wpAnyH_take (i := 2) (oi := ?o2_2_3) (v := ?v2_2_3) ?i2_2_3 (by kernel_rfl) (by kernel_rfl) (by kernel_rfl) (fun _ _ _ h => h) (Or.inl ⟨?g2_2_3, ?y2_2_3⟩) hS ?_
      case i2_2_3 => simp only [List.getElem?_toArray, List.getElem?_cons_succ, List.getElem?_cons_zero]; rfl
      case g2_2_3 => rfl
      case y2_2_3 => (intro w hSw; (go_simp <;> with_reducible rfl))
      (try simp only [Act.put, List.setIfInBounds_toArray, List.set_cons_zero, List.set_cons_succ])
      refine wpAnyH_take (i := 3) (oi := ?o2_3_4) (v := ?v2_3_4) ?i2_3_4 (by kernel_rfl) (by kernel_rfl) (by kernel_rfl) (fun _ _ _ h => h) (Or.inl ⟨?g2_3_4, ?y2_3_4⟩) hS ?_
      case i2_3_4 => simp only [List.getElem?_toArray, List.getElem?_cons_succ, List.getElem?_cons_zero]; rfl
      case g2_3_4 => rfl
      case y2_3_4 => (intro w hSw; (go_simp <;> with_reducible rfl))
      (try simp only [Act.put, List.setIfInBounds_toArray, List.set_cons_zero, List.set_cons_succ])
      refine wpAnyH_take (i := 4) (oi := ?o2_4_5) (v := ?v2_4_5) ?i2_4_5 (by kernel_rfl) (by kernel_rfl) (by kernel_rfl) (fun _ _ _ h => h) (Or.inl ⟨?g2_4_5, ?y2_4_5⟩) hS ?_
      case i2_4_5 => simp only [List.getElem?_toArray, List.getElem?_cons_succ, List.getElem?_cons_zero]; rfl
      case g2_4_5 => rfl
      case y2_4_5 => (intro w hSw; (go_simp <;> with_reducible rfl))
      (try simp only [Act.put, List.setIfInBounds_toArray, List.set_cons_zero, List.set_cons_succ])
      refine wpAnyH_take (i := 5) (oi := ?o2_5_6) (v := ?v2_5_6) ?i2_5_6 (by kernel_rfl) (by kernel_rfl) (by kernel_rfl) (fun _ _ _ h => h) (Or.inl ⟨?g2_5_6, ?y2_5_6⟩) hS ?_
      case i2_5_6 => simp only [List.getElem?_toArray, List.getElem?_cons_succ, List.getElem?_cons_zero]; rfl
      case g2_5_6 => rfl
      case y2_5_6 => (intro w hSw; (go_simp <;> with_reducible rfl))
      (try simp only [Act.put, List.setIfInBounds_toArray, List.set_cons_zero, List.set_cons_succ])
      refine wpAnyH_take (i := 6) (oi := ?o2_6_7) (v := ?v2_6_7) ?i2_6_7 (by kernel_rfl) (by kernel_rfl) (by kernel_rfl) (fun _ _ _ h => h) (Or.inl ⟨?g2_6_7, ?y2_6_7⟩) hS ?_
      case i2_6_7 => simp only [List.getElem?_toArray, List.getElem?_cons_succ, List.getElem?_cons_zero]; rfl
      case g2_6_7 => rfl
      case y2_6_7 => (intro w hSw; (go_simp <;> with_reducible rfl))
      (try simp only [Act.put, List.setIfInBounds_toArray, List.set_cons_zero, List.set_cons_succ])
      refine wpAnyH_take (i := 7) (oi := ?o2_7_8) (v := ?v2_7_8) ?i2_7_8 (by kernel_rfl) (by kernel_rfl) (by kernel_rfl) (fun _ _ _ h => h) (Or.inl ⟨?g2_7_8, ?y2_7_8⟩) hS ?_
      case i2_7_8 => simp only [List.getElem?_toArray, List.getElem?_cons_succ, List.getElem?_cons_zero]; rfl
      case g2_7_8 => rfl
      case y2_7_8 => (intro w hSw; (go_simp <;> with_reducible rfl))
      (try simp only [Act.put, List.setIfInBounds_toArray, List.set_cons_zero, List.set_cons_succ])
      refine wpAnyH_ready (rs := [8]) (by kernel_rfl) (by simp) ?_
      refine (AllReadyH.cons (o := ?o2_9_8) ?i2_9_8 (fun K hK => ?st2_9_8) AllReadyH.nil)
      case i2_9_8 => simp only [List.getElem?_toArray, List.getElem?_cons_succ, List.getElem?_cons_zero]; rfl
      rw [if_pos (by rfl)]
      go_simp
      refine hK.out _ _ ?s2_9_8 (fun hS => ?_)
      case s2_9_8 => (exact hS)
      clear hK K
      (try simp only [Act.put, List.setIfInBounds_toArray, List.set_cons_zero, List.set_cons_succ])
      refine held_more (S' := fun w' => Blk w' w.heap.size 5 #[.int .u8 92, .int .u8 120, .int .u8 ((hexes.getD i 0).toNat : Int), .int .u8 ((hexes.getD j 0).toNat : Int)]) (fun _ _ => trivial) _ _ _ _ ?_
      replace hS := hnew
      refine wpAnyH_take (i := 9) (oi := ?o2_9_10) (v := ?v2_9_10) ?i2_9_10 (by kernel_rfl) (by kernel_rfl) (by kernel_rfl) (fun _ _ _ h => h) (Or.inl ⟨?g2_9_10, ?y2_9_10⟩) hS ?_
      case i2_9_10 => simp only [List.getElem?_toArray, List.getElem?_cons_succ, List.getElem?_cons_zero]; rfl
      case g2_9_10 => rfl
      case y2_9_10 => (intro w hSw; have hcv := hconv w hSw; (go_simp <;> with_reducible rfl))
      (try simp only [Act.put, List.setIfInBounds_toArray, List.set_cons_zero, List.set_cons_succ])
      refine wpAnyH_take (i := 10) (oi := ?o2_10_11) (v := ?v2_10_11) ?i2_10_11 (by kernel_rfl) (by kernel_rfl) (by kernel_rfl) (fun _ _ _ h => h) (Or.inl ⟨?g2_10_11, ?y2_10_11⟩) hS ?_
      case i2_10_11 => simp only [List.getElem?_toArray, List.getElem?_cons_succ, List.getElem?_cons_zero]; rfl
      case g2_10_11 => rfl
      case y2_10_11 => (intro w hSw; (go_simp <;> with_reducible rfl))
      (try simp only [Act.put, List.setIfInBounds_toArray, List.set_cons_zero, List.set_cons_succ])
      refine wpAnyH_done (by kernel_rfl) ?_ _
      refine NoPanic.normal ?_
      go_wp2
      go_ret
      exact ⟨rfl, ((Below.refl _ w).alloc (Nat.le_refl _) _).drew⟩
    · obtain rfl : c = 127 := by have := beq_iff_eq.1 m7; omega
      go_enter Try.func24, Try.ntmps24
      go_wp2_with fail
      refine DC.out.mono ?_
      rintro r' w' ⟨rfl, rfl⟩
      go_wp2_with fail
      refine wp_region_noPanic ?_
      refine wp_region_held_drew (S := fun _ => True) (by kernel_rfl) trivial (fun hS => ?_)
      refine wpAnyH_take (i := 0) (oi := ?o3_0_1) (v := ?v3_0_1) ?i3_0_1 (by kernel_rfl) (by kernel_rfl) (by kernel_rfl) (fun _ _ _ h => h) (Or.inl ⟨?g3_0_1, ?y3_0_1⟩) hS ?_
      case i3_0_1 => simp only [List.getElem?_toArray, List.getElem?_cons_succ, List.getElem?_cons_zero]; rfl
      case g3_0_1 => rfl
      case y3_0_1 => (intro w hSw; (go_simp <;> with_reducible rfl))
      (try simp only [Act.put, List.setIfInBounds_toArray, List.set_cons_zero, List.set_cons_succ])
      refine wpAnyH_take (i := 1) (oi := ?o3_1_2) (v := ?v3_1_2) ?i3_1_2 (by kernel_rfl) (by kernel_rfl) (by kernel_rfl) (fun _ _ _ h => h) (Or.inl ⟨?g3_1_2, ?y3_1_2⟩) hS ?_
      case i3_1_2 => simp only [List.getElem?_toArray, List.getElem?_cons_succ, List.getElem?_cons_zero]; rfl
      case g3_1_2 => rfl
      case y3_1_2 => (intro w hSw; (go_simp <;> with_reducible rfl))
      (try simp only [Act.put, List.setIfInBounds_toArray, List.set_cons_zero, List.set_cons_succ])
      refine wpAnyH_take (i := 2) (oi := ?o3_2_3) (v := ?v3_2_3) ?i3_2_3 (by kernel_rfl) (by kernel_rfl) (by kernel_rfl) (fun _ _ _ h => h) (Or.inl ⟨?g3_2_3, ?y3_2_3⟩) hS ?_
      case i3_2_3 => simp only [List.getElem?_toArray, List.getElem?_cons_succ, List.getElem?_cons_zero]; rfl
      case g3_2_3 => rfl
      case y3_2_3 => (intro w hSw; (go_simp <;> with_reducible rfl))
      (try simp only [Act.put, List.setIfInBounds_toArray, List.set_cons_zero, List.set_cons_succ])
      refine wpAnyH_take (i := 3) (oi := ?o3_3_4) (v := ?v3_3_4) ?i3_3_4 (by kernel_rfl) (by kernel_rfl) (by kernel_rfl) (fun _ _ _ h => h) (Or.inl ⟨?g3_3_4, ?y3_3_4⟩) hS ?_
      case i3_3_4 => simp only [List.getElem?_toArray, List.getElem?_cons_succ, List.getElem?_cons_zero]; rfl
      case g3_3_4 => rfl
      case y3_3_4 => (intro w hSw; (go_simp <;> with_reducible rfl))
      (try simp only [Act.put, List.setIfInBounds_toArray, List.set_cons_zero, List.set_cons_succ])
      refine wpAnyH_take (i := 4) (oi := ?o3_4_5) (v := ?v3_4_5) ?i3_4_5 (by kernel_rfl) (by kernel_rfl) (by kernel_rfl) (fun _ _ _ h => h) (Or.inl ⟨?g3_4_5, ?y3_4_5⟩) hS ?_
      case i3_4_5 => simp only [List.getElem?_toArray, List.getElem?_cons_succ, List.getElem?_cons_zero]; rfl
      case g3_4_5 => rfl
      case y3_4_5 => (intro w hSw; (go_simp <;> with_reducible rfl))
      (try simp only [Act.put, List.setIfInBounds_toArray, List.set_cons_zero, List.set_cons_succ])
      refine wpAnyH_take (i := 5) (oi := ?o3_5_6) (v := ?v3_5_6) ?i3_5_6 (by kernel_rfl) (by kernel_rfl) (by kernel_rfl) (fun _ _ _ h => h) (Or.inl ⟨?g3_5_6, ?y3_5_6⟩) hS ?_
      case i3_5_6 => simp only [List.getElem?_toArray, List.getElem?_cons_succ, List.getElem?_cons_zero]; rfl
      case g3_5_6 => rfl
      case y3_5_6 => (intro w hSw; (go_simp <;> with_reducible rfl))
      (try simp only [Act.put, List.setIfInBounds_toArray, List.set_cons_zero, List.set_cons_succ])
      refine wpAnyH_take (i := 6) (oi := ?o3_6_7) (v := ?v3_6_7) ?i3_6_7 (by kernel_rfl) (by kernel_rfl) (by kernel_rfl) (fun _ _ _ h => h) (Or.inl ⟨?g3_6_7, ?y3_6_7⟩) hS ?_
      case i3_6_7 => simp only [List.getElem?_toArray, List.getElem?_cons_succ, List.getElem?_cons_zero]; rfl
      case g3_6_7 => rfl
      case y3_6_7 => (intro w hSw; (go_simp <;> with_reducible rfl))
      (try simp only [Act.put, List.setIfInBounds_toArray, List.set_cons_zero, List.set_cons_succ])
      refine wpAnyH_take (i := 7) (oi := ?o3_7_8) (v := ?v3_7_8) ?i3_7_8 (by kernel_rfl) (by kernel_rfl) (by kernel_rfl) (fun _ _ _ h => h) (Or.inl ⟨?g3_7_8, ?y3_7_8⟩) hS ?_
      case i3_7_8 => simp only [List.getElem?_toArray, List.getElem?_cons_succ, List.getElem?_cons_zero]; rfl
      case g3_7_8 => rfl
      case y3_7_8 => (intro w hSw; (go_simp <;> with_reducible rfl))
      (try simp only [Act.put, List.setIfInBounds_toArray, List.set_cons_zero, List.set_cons_succ])
      refine wpAnyH_ready (rs := [8]) (by kernel_rfl) (by simp) ?_
      refine (AllReadyH.cons (o := ?o3_9_8) ?i3_9_8 (fun K hK => ?st3_9_8) AllReadyH.nil)
      case i3_9_8 => simp only [List.getElem?_toArray, List.getElem?_cons_succ, List.getElem?_cons_zero]; rfl
      rw [if_pos (by rfl)]
      go_simp
      refine hK.out _ _ ?s3_9_8 (fun hS => ?_)
      case s3_9_8 => (exact hS)
      clear hK K
      (try simp only [Act.put, List.setIfInBounds_toArray, List.set_cons_zero, List.set_cons_succ])
      refine held_more (S' := fun w' => Blk w' w.heap.size 5 #[.int .u8 92, .int .u8 120, .int .u8 ((hexes.getD i 0).toNat : Int), .int .u8 ((hexes.getD j 0).toNat : Int)]) (fun _ _ => trivial) _ _ _ _ ?_
      replace hS := hnew
      refine wpAnyH_take (i := 9) (oi := ?o3_9_10) (v := ?v3_9_10) ?i3_9_10 (by kernel_rfl) (by kernel_rfl) (by kernel_rfl) (fun _ _ _ h => h) (Or.inl ⟨?g3_9_10, ?y3_9_10⟩) hS ?_
      case i3_9_10 => simp only [List.getElem?_toArray, List.getElem?_cons_succ, List.getElem?_cons_zero]; rfl
      case g3_9_10 => rfl
      case y3_9_10 => (intro w hSw; have hcv := hconv w hSw; (go_simp <;> with_reducible rfl))
      (try simp only [Act.put, List.setIfInBounds_toArray, List.set_cons_zero, List.set_cons_succ])
      refine wpAnyH_take (i := 10) (oi := ?o3_10_11) (v := ?v3_10_11) ?i3_10_11 (by kernel_rfl) (by kernel_rfl) (by kernel_rfl) (fun _ _ _ h => h) (Or.inl ⟨?g3_10_11, ?y3_10_11⟩) hS ?_
      case i3_10_11 => simp only [List.getElem?_toArray, List.getElem?_cons_succ, List.getElem?_cons_zero]; rfl
      case g3_10_11 => rfl
      case y3_10_11 => (intro w hSw; (go_simp <;> with_reducible rfl))
      (try simp only [Act.put, List.setIfInBounds_toArray, List.set_cons_zero, List.set_cons_succ])
      refine wpAnyH_done (by kernel_rfl) ?_ _
      refine NoPanic.normal ?_
      go_wp2
      go_ret
      exact ⟨rfl, ((Below.refl _ w).alloc (Nat.le_refl _) _).drew⟩
  · have HQ := Lib.hid (qs d5)
    have hnc : n = (c : Int) := by omega
    have m5 : (n == -2) = false := beq_eq_false_iff_ne.2 (by omega)
    have m6 : ¬ (c : Int) < 32 := by omega
    have m7 : ((c : Int) == 127) = false := beq_eq_false_iff_ne.2 (by omega)
    have ho : okc s = true := by
      cases ho : okc s with
      | true => rfl
      | false => have := hstray.2 (by rw [← hok]; exact ho); omega
    have H0 := Lib.hid h0
    have HCc := Lib.hid hc
    have HO := Lib.hid ho
    clear hx hx0 hxe q34 q92 q10 q9 qx qs hstray hok hncs hn hc h0 d1 d2 d3 d4 d5 ho hnc qr
    go_enter Try.func24, Try.ntmps24
    go_wp2_with fail
    refine DC.out.mono ?_
    rintro r w' ⟨rfl, rfl⟩
    go_wp2_with fail
    go_ret
    have hen := ((frC_ok H0.out).2.2 HO.out).1
    rw [← HCc.out, ← HQ.out] at hen
    exact ⟨congrArg (fun x => Ending.returned (Value.string x)) hen, Below.refl _ _⟩

end Go.Proofs.Ytgpcbfjakgndlaa
