/-
  The walk of the law FrameBack: it answers true, for all rows of bytes and all cuts, and writes nothing that was there, where package frame answers as it is to (FrmC).
-/
import Derived.Test.YtepcaaejadeklaaDoorFrmBack
namespace Go.Proofs.YtepcaaejadeklaaDoor
open Go.RowKit
set_option linter.unusedSimpArgs false

set_option maxRecDepth 100000 in
set_option maxHeartbeats 2000000 in
theorem frameBack_walk (v0 : Value) (da : Nat) (ls : List (List UInt8)) (a1 : Int) (w : World) (C : FrmC w) (hrow : RowB w da v0 ls) (hcap : ls.length ≤ 140737488355328) (w1 : (Lit.int .u16 a1).wf = true) :
    Calls Tryd.prog 5 #[v0, .int .u16 a1] w fun e w' => e = .returned (.bool true) ∧ Below w.heap.size w w' := by
  have HC := Lib.hid C
  clear C
  obtain ⟨b0, b1⟩ := bounds_u16 w1
  obtain ⟨cut, rfl⟩ := Int.eq_ofNat_of_zero_le b0
  have hcut : cut < 65536 := by omega
  obtain ⟨A0, c0, rfl⟩ := hrow.shape
  clear w1 b0 b1
  by_cases h1 : 20 < ls.length
  · have d0 : decide ((20 : Int) < (ls.length : Int)) = true := decide_eq_true (by omega)
    clear h1
    go_enter Tryd.func5, Tryd.ntmps5
    go_wp2_with fail
    refine (awake4_any HC.out _ (Below.refl _ _)).mono ?_
    rintro r w1 ⟨rfl, hB1⟩
    go_wp2
    go_ret
    exact ⟨rfl, hB1⟩
  · have d0 : decide ((20 : Int) < (ls.length : Int)) = false := decide_eq_false (by omega)
    have hn : ls.length ≤ 20 := by omega
    clear h1 hcap
    go_enter Tryd.func5, Tryd.ntmps5
    go_wp2_with fail
    refine (awake4_any HC.out _ (Below.refl _ _)).mono ?_
    rintro r w1 ⟨rfl, hB1⟩
    go_wp2
    clear d0
    go_loopw [6, 7, 8] (fun v u i wr => ∃ j : Nat, j ≤ ls.length ∧ i = .int .i64 (j : Int) ∧ Own wr w1.heap.size v (frms (ls.take j)) ∧ OwnV 3 wr w1.heap.size u (endsV ls j) ∧ Apart u v ∧ Hid (∀ x ∈ ls.take j, x.length ≤ 300) ∧ Below w1.heap.size w1 wr) (fun _ _ i _ => ls.length - (intOf i).toNat)
    case atStart => exact ⟨0, Nat.zero_le _, rfl, Own.nil _ _, OwnV.nil _ _, (fun k h => by cases h), Lib.hid (by simp), Below.refl _ _⟩
    case round =>
      obtain ⟨j, hj, rfl, hv, hu, hap, HS, hBr⟩ := hrel
      by_cases hlt : j < ls.length
      · obtain ⟨x, hx⟩ : ∃ x, ls[j]? = some x := ⟨_, List.getElem?_eq_getElem hlt⟩
        have hBw := hB1.trans (hBr.mono hB1.size)
        have hrow1 := hrow.below hBw
        obtain ⟨o, ux, db, rfl, hc0, hrx⟩ := hrow1.at hx
        obtain ⟨Ax, cx, rfl⟩ := hrx.shape4
        have hdl : da < wr.heap.size := World.block_lt_of_cell? wr _ hc0
        have i1 : (0 : Int) ≤ (j : Int) := by omega
        have i2 : (j : Int) < (ls.length : Int) := by omega
        have hbase := hBr.size
        go_wp2_with fail
        refine (HC.out.put x _ _ _ hBw hrx).mono ?_
        rintro r w2 ⟨vp, rfl, hown2, hb2⟩
        have hc2 : w2.cell? ⟨da, o + j, none⟩ = some (.slice Ax x.length cx) := (hb2.cell (p := ⟨da, o + j, none⟩) hdl).trans hc0
        by_cases hbig : 8192 < x.length
        · rw [(putF_big hbig).2]
          have e1 : decide ((x.length : Int) ≤ 8192) = false := decide_eq_false (by omega)
          have e2 : decide ((300 : Int) < (x.length : Int)) = true := decide_eq_true (by omega)
          have hBf := hBw.trans (hb2.mono hBw.size)
          clear hbig hown2 hv hu hap hrx hrow1 hBr hb2 hc0 hBw
          go_wp2
          go_ret
          exact ⟨rfl, hBf⟩
        rw [(putF_small (l := x) (by omega)).2]
        rw [(putF_small (l := x) (by omega)).1] at hown2
        have e1 : decide ((x.length : Int) ≤ 8192) = true := decide_eq_true (by omega)
        by_cases h300 : 300 < x.length
        · have e2 : decide ((300 : Int) < (x.length : Int)) = true := decide_eq_true (by omega)
          have hBf := hBw.trans (hb2.mono hBw.size)
          clear hbig h300 hown2 hv hu hap hrx hrow1 hBr hb2 hc0 hBw
          go_wp2
          go_ret
          exact ⟨rfl, hBf⟩
        have e2 : decide ((300 : Int) < (x.length : Int)) = false := decide_eq_false (by omega)
        have hfl := frm_len (l := x) (by omega)
        have hFl := frms_len (ls.take j) HS.out
        have htl : (ls.take j).length = j := by rw [List.length_take]; omega
        obtain ⟨dp, -, -, hrp⟩ := hown2.rd (by omega)
        obtain ⟨Ap, cp, rfl⟩ := hrp.shape4
        have hv2 := hv.below hb2
        have hu2 := hu.below hb2
        have hB2 := hBr.trans (hb2.mono hBr.size)
        have hS2 := hB2.size
        have htk : ls.take (j + 1) = ls.take j ++ [x] := by rw [List.take_add_one, hx]; rfl
        have hfs : frms (ls.take (j + 1)) = frms (ls.take j) ++ frm x := by rw [htk, frms_snoc]
        have HS' : Hid (∀ y ∈ ls.take (j + 1), y.length ≤ 300) := Lib.hid (by
          rw [htk]
          intro y hy
          rcases List.mem_append.1 hy with h | h
          · exact HS.out y h
          · simp at h; subst h; omega)
        have HFS := Lib.hid hfs
        have hFl2 := frms_len (ls.take (j + 1)) HS'.out
        have htl2 : (ls.take (j + 1)).length = j + 1 := by rw [List.length_take]; omega
        have HF2 : Hid ((frms (ls.take (j + 1))).length ≤ 6120) := Lib.hid (by omega)
        have HF1 : Hid ((frms (ls.take j)).length + (frm x).length ≤ 140737488355328) := Lib.hid (by omega)
        clear hbig h300 hown2 hv hu hrx hrow1 hb2 hc0 hBw hfs htk hFl htl hfl hFl2 htl2
        go_wp2_with (at_builtin; refine wpList_append_rd rfl (.tmp 56) (.tmp 57) rfl rfl w1.heap.size _ (frms (ls.take j)) rfl hv2 _ _ (frm x) rfl hrp ?h1 ?h2 ?_)
        case h1 => exact HF1.out
        case h2 => exact hS2
        intro v3 w3 hapv
        have hb3 := hapv.below hv2 hS2
        have hv3 : Own w3 w1.heap.size v3 (frms (ls.take (j + 1))) := by rw [HFS.out]; exact hapv.1
        have hu3 := hu2.grown hapv.2.1 hap
        have hap3 : Apart _ v3 := fun k hk => by
          rcases hapv.2.2 with h | h
          · rw [h]; exact hap k hk
          · rw [h]; intro e; injection e with e; have := (hu2.lt k hk).2; omega
        have hB3 := hB2.trans hb3
        have hS3 := hB3.size
        obtain ⟨dv, -, hrv⟩ := hv3.rd' (by have := HF2.out; omega)
        obtain ⟨Av, cv, rfl⟩ := hrv.shape4
        obtain ⟨N, hN⟩ : ∃ N, N = (frms (ls.take (j + 1))).length := ⟨_, rfl⟩
        rw [← hN] at hap3 hv3
        rw [← hN]
        have HN := Lib.hid hN
        have hA4 : Below w3.heap.size w3 (w3.alloc (.cells #[.int .i64 (N : Int)] 3)) := (Below.refl _ _).alloc (Nat.le_refl _) _
        have HU4 := Lib.hid (hu3.below hA4)
        have HV4 := Lib.hid (hv3.below hA4)
        have HB4 := Lib.hid (hB3.trans (hA4.mono hS3))
        have HBLK := Lib.hid (Blk.new w3 3 #[.int .i64 (N : Int)])
        have hel := endsV_length ls j
        clear hapv hb3 hv2 hu2 hap hrp hrv hA4 hu3 hv3 hB2 hB3 hN hS2 hBr hc2
        go_wp2_with (at_builtin; refine wpList_append_v Tryd.underlying46 Tryd.infoN zeroN rfl (.tmp 59) (.tmp 62) rfl rfl w1.heap.size _ (endsV ls j) rfl HU4.out w3.heap.size rfl (.int .i64 (N : Int)) HBLK.out rfl ?h1 ?h2 ?h3 ?_)
        case h1 => omega
        case h2 => omega
        case h3 => exact HB4.out.size
        intro v5 w5 hapu
        have hb5 := hapu.below HU4.out HB4.out.size
        have hu5 : OwnV 3 w5 w1.heap.size v5 (endsV ls (j + 1)) := by rw [endsV_succ, ← HN.out]; exact hapu.1
        have hv5 := HV4.out.grown hapu.2.1 (fun k hk e => hap3 k e hk)
        have hap5 : Apart v5 (.slice Av N cv) := fun k hk e => by
          rcases hapu.2.2.1 with h | h
          · rw [h] at hk; exact hap3 k hk e
          · rw [h] at hk; injection hk with hk; have := (HV4.out.lt4 k e).2; omega
        have hB5 := HB4.out.trans hb5
        clear hapu hb5 hap3
        go_wp2
        go_roundw
        case rel => exact ⟨j + 1, by omega, by go_num, hv5, hu5, hap5, HS', hB5⟩
        case measure => simp [intOf]; omega
      · obtain rfl : j = ls.length := by omega
        have hall := HS.out
        rw [List.take_length] at hv hall
        have HL8 : Hid (∀ x ∈ ls, x.length ≤ 8192) := Lib.hid fun x hx => by have := hall x hx; omega
        have hFl := frms_len ls hall
        obtain ⟨dv, -, hrv⟩ := hv.rd' (by omega)
        obtain ⟨Av, cv, rfl⟩ := hrv.shape4
        obtain ⟨du, hvu, hdu⟩ := hu.vals
        obtain ⟨Au, cu, rfl⟩ := hvu.shape
        rw [endsV_length]
        rw [endsV_length] at hvu
        obtain ⟨N, hN⟩ : ∃ N, N = (frms ls).length := ⟨_, rfl⟩
        have hN6 : N ≤ 6120 := by omega
        rw [← hN]
        rw [← hN] at hrv
        have HNN := Lib.hid hN
        have ALL : ∀ W v, Hid (Below w.heap.size w W → Rd W dv v (frms ls) → Calls Tryd.prog 16 #[v] W (fun r w' => ∃ v' d', r = .returned (.tuple #[v', .int .i64 (N : Int), .int .i64 0]) ∧ RowB w' d' v' ls ∧ Below W.heap.size W w')) := fun W v => Lib.hid fun hB h => by
          have h1 := HC.out.all (frms ls) W dv v hB h (by omega)
          unfold AllFP at h1
          rw [recs_frms ls HL8.out, ← hN] at h1
          exact h1
        have QA := Lib.hid ALL
        have hBw := hB1.trans (hBr.mono hB1.size)
        have hrow2 := hrow.below hBw
        obtain ⟨k, hk⟩ : ∃ k, k = cut % (N + 1) := ⟨_, rfl⟩
        have hkN : k ≤ N := by have := Nat.mod_lt cut (show 0 < N + 1 by omega); omega
        have hkI : (cut : Int) % ((N : Int) + 1) = (k : Int) := by rw [hk]; push_cast; rfl
        clear ALL hall hFl hN hv hu hap hBr hlt hk hrow hdu
        go_wp2_with fail
        refine ((QA.out _ _).out hBw hrv).mono ?_
        rintro r w2 ⟨v2, d2, rfl, hx2, hb2⟩
        obtain ⟨A2, c2, rfl⟩ := hx2.shape
        have hrv2 := hrv.below' hb2
        have hvu2 := hvu.below' hb2
        have hr2 := hrow2.below hb2
        have hB2 := hBw.trans (hb2.mono hBw.size)
        clear hrv hvu hrow2 hb2 hBw
        go_wp2_with fail
        refine (texts_any ls _ _ _ hx2 (by omega)).mono ?_
        rintro r w3 ⟨v3, d3, rfl, hv3, hb3⟩
        have hrv3 := hrv2.below' hb3
        have hvu3 := hvu2.below' hb3
        have hr3 := hr2.below hb3
        have hB3 := hB2.trans (hb3.mono hB2.size)
        clear hrv2 hvu2 hr2 hb3 hB2 hx2
        go_wp2_with fail
        refine (texts_any ls _ _ _ hr3 (by omega)).mono ?_
        rintro r w4 ⟨v4, d4, rfl, hv4, hb4⟩
        have hrv4 := hrv3.below' hb4
        have hvu4 := hvu3.below' hb4
        have hv3' := hv3.below' hb4
        have hr4 := hr3.below hb4
        have hB4 := hB3.trans (hb4.mono hB3.size)
        clear hrv3 hvu3 hr3 hb4 hB3 hv3
        go_wp2_with fail
        refine (rsame4_any ls ls _ _ _ _ _ hv3' hv4 (by omega)).mono ?_
        rintro r w7 ⟨rfl, hb7⟩
        rw [decide_eq_true rfl]
        have hrb7 := hrv4.below' hb7
        have hvu7 := hvu4.below' hb7
        have hr7 := hr4.below hb7
        have hB7 := hB4.trans (hb7.mono hB4.size)
        have hkc : k ≤ cv := by obtain ⟨_, _, e, h, _⟩ := hrb7; injection e with _ _ e3; have := HNN.out; omega
        have hnc := hr7.cap
        clear hrv4 hvu4 hr4 hb7 hB4 hv3' hv4
        go_wp2
        go_loop [15, 16, 17] (fun x y i => ∃ (j E : Nat), j ≤ ls.length ∧ i = .int .i64 (j : Int) ∧ x = .int .i64 (j : Int) ∧ y = .int .i64 (E : Int) ∧ Hid (E = (frms (ls.take j)).length) ∧ E ≤ k) (fun _ _ i => ls.length - (intOf i).toNat)
        case atStart => exact ⟨0, 0, Nat.zero_le _, rfl, rfl, rfl, Lib.hid rfl, Nat.zero_le _⟩
        case round =>
          obtain ⟨j, E, hjn, rfl, rfl, rfl, HE, hEk0⟩ := hrel
          have hEk : (frms (ls.take j)).length ≤ k := by rw [← HE.out]; exact hEk0
          by_cases hlt : j < ls.length
          · obtain ⟨E', hE'⟩ : ∃ E', E' = (frms (ls.take (j + 1))).length := ⟨_, rfl⟩
            have hat := endsV_at ls hlt
            rw [← hE'] at hat
            obtain ⟨ou, rfl, -, -, -, hcu⟩ := hvu7.at hat
            have i1 : (0 : Int) ≤ (j : Int) := by omega
            have i2 : (j : Int) < (ls.length : Int) := by omega
            by_cases hle : E' ≤ k
            · have e1 : decide ((E' : Int) ≤ (k : Int)) = true := decide_eq_true (by omega)
              have HE' := Lib.hid hE'
              clear hat hE' hEk
              go_wp2
              go_round
              case rel => exact ⟨j + 1, E', by omega, by go_num, by go_num, rfl, HE', hle⟩
              case measure => simp [intOf]; omega
            · have e1 : decide ((E' : Int) ≤ (k : Int)) = false := decide_eq_false (by omega)
              have HNEXT : Hid (j < ls.length → k < (frms (ls.take (j + 1))).length) := Lib.hid fun _ => by rw [← hE']; omega
              clear hat hE'
              have hcf := cutF_eq ls k j hjn hEk HNEXT.out
              have hrec := recs_take ls k HL8.out (by rw [← HNN.out]; exact hkN)
              rw [hcf] at hrec
              have htk : (ls.take j).length ≤ 20 := by rw [List.length_take]; omega
              have htk2 : (ls.take j).length = j := by rw [List.length_take]; omega
              have hjc : j ≤ c0 := Nat.le_trans hjn hnc
              have hrbk := hrb7.take hkN
              have ALLK : ∀ W v, Hid (Below w.heap.size w W → Rd W dv v ((frms ls).take k) → Calls Tryd.prog 16 #[v] W (fun r w' => ∃ v' d', r = .returned (.tuple #[v', .int .i64 (E : Int), .int .i64 (if E = k then 0 else 10)]) ∧ RowB w' d' v' (ls.take j) ∧ Below W.heap.size W w')) := fun W v => Lib.hid fun hB h => by
                have h1 := HC.out.all ((frms ls).take k) W dv v hB h (by rw [List.length_take]; omega)
                unfold AllFP at h1
                rw [hrec, ← HE.out] at h1
                exact h1
              have QK := Lib.hid ALLK
              clear ALLK hrec hcf
              go_wp2_with fail
              refine ((QK.out _ _).out hB7 hrbk).mono ?_
              rintro r w8 ⟨v8, d8, rfl, hx8', hb8⟩
              obtain ⟨A8, c8, h8⟩ := hx8'.shape
              rw [htk2] at h8
              subst h8
              have hx8 := hx8'.below (Below.refl _ _).drew
              have hr8 := (hr7.below hb8).below (Below.refl _ _).drew
              have hB8 := (hB7.trans (hb8.mono hB7.size)).drew
              clear hb8 hrbk hx8' hrb7 hr7 hB7
              by_cases hEq : E = k
              · have eb : ((E : Int) == (k : Int)) = true := by rw [hEq]; exact beq_self_eq_true _
                rw [if_pos hEq]
                clear hEq
                go_wp2_with fail
                refine wp_region_noPanic ?_
                refine wp_region_held_drew (S := fun _ => True) (by kernel_rfl) trivial (fun hS => ?_)
                refine wpAnyH_take (i := 0) (oi := ?o1_0_1) (v := ?v1_0_1) ?i1_0_1 (by kernel_rfl) (by kernel_rfl) (by kernel_rfl) (fun _ _ _ h => h) (Or.inl ⟨?g1_0_1, ?y1_0_1⟩) hS ?_
                case i1_0_1 => simp only [List.getElem?_toArray, List.getElem?_cons_succ, List.getElem?_cons_zero]; rfl
                case g1_0_1 => rfl
                case y1_0_1 => (intro w hSw; (go_simp <;> with_reducible rfl))
                (try simp only [Act.put, List.setIfInBounds_toArray, List.set_cons_zero, List.set_cons_succ])
                refine wpAnyH_take (i := 2) (oi := ?o1_2_2) (v := ?v1_2_2) ?i1_2_2 (by kernel_rfl) (by kernel_rfl) (by kernel_rfl) (fun _ _ _ h => h) (Or.inl ⟨?g1_2_2, ?y1_2_2⟩) hS ?_
                case i1_2_2 => simp only [List.getElem?_toArray, List.getElem?_cons_succ, List.getElem?_cons_zero]; rfl
                case g1_2_2 => rfl
                case y1_2_2 => (intro w hSw; (go_simp <;> with_reducible rfl))
                (try simp only [Act.put, List.setIfInBounds_toArray, List.set_cons_zero, List.set_cons_succ])
                refine wpAnyH_take (i := 3) (oi := ?o1_3_3) (v := ?v1_3_3) ?i1_3_3 (by kernel_rfl) (by kernel_rfl) (by kernel_rfl) (fun _ _ _ h => h) (Or.inl ⟨?g1_3_3, ?y1_3_3⟩) hS ?_
                case i1_3_3 => simp only [List.getElem?_toArray, List.getElem?_cons_succ, List.getElem?_cons_zero]; rfl
                case g1_3_3 => rfl
                case y1_3_3 => (intro w hSw; (go_simp <;> with_reducible rfl))
                (try simp only [Act.put, List.setIfInBounds_toArray, List.set_cons_zero, List.set_cons_succ])
                refine wpAnyH_take (i := 4) (oi := ?o1_4_4) (v := ?v1_4_4) ?i1_4_4 (by kernel_rfl) (by kernel_rfl) (by kernel_rfl) (fun _ _ _ h => h) (Or.inl ⟨?g1_4_4, ?y1_4_4⟩) hS ?_
                case i1_4_4 => simp only [List.getElem?_toArray, List.getElem?_cons_succ, List.getElem?_cons_zero]; rfl
                case g1_4_4 => rfl
                case y1_4_4 => (intro w hSw; (go_simp <;> with_reducible rfl))
                (try simp only [Act.put, List.setIfInBounds_toArray, List.set_cons_zero, List.set_cons_succ])
                refine wpAnyH_ready (rs := [1]) (by kernel_rfl) (by simp) ?_
                refine (AllReadyH.cons (o := ?o1_5_1) ?i1_5_1 (fun K hK => ?st1_5_1) AllReadyH.nil)
                case i1_5_1 => simp only [List.getElem?_toArray, List.getElem?_cons_succ, List.getElem?_cons_zero]; rfl
                rw [if_pos (by rfl)]
                go_simp
                refine (texts_any (ls.take j) _ _ _ hx8 (by omega)).mono ?_
                rintro r w9 ⟨v9, d9, rfl, hv9, hb9⟩
                have hr9 := hr8.below hb9
                have hB9 := hB8.trans (hb9.mono hB8.size)
                go_wp2_with fail
                refine hK.out _ _ ?s1_5_1 (fun hS => ?_)
                case s1_5_1 => (exact hS)
                clear hK K
                (try simp only [Act.put, List.setIfInBounds_toArray, List.set_cons_zero, List.set_cons_succ])
                refine wpAnyH_ready (rs := [5]) (by kernel_rfl) (by simp) ?_
                refine (AllReadyH.cons (o := ?o1_6_5) ?i1_6_5 (fun K hK => ?st1_6_5) AllReadyH.nil)
                case i1_6_5 => simp only [List.getElem?_toArray, List.getElem?_cons_succ, List.getElem?_cons_zero]; rfl
                rw [if_pos (by rfl)]
                go_simp
                refine (texts_any (ls.take j) _ _ _ (hr9.take hjn) (by omega)).mono ?_
                rintro r w10 ⟨v10, d10, rfl, hv10, hb10⟩
                have hv9' := hv9.below' hb10
                have hB10 := hB9.trans (hb10.mono hB9.size)
                go_wp2_with fail
                refine hK.out _ _ ?s1_6_5 (fun hS => ?_)
                case s1_6_5 => (exact hS)
                clear hK K
                (try simp only [Act.put, List.setIfInBounds_toArray, List.set_cons_zero, List.set_cons_succ])
                refine wpAnyH_ready (rs := [6]) (by kernel_rfl) (by simp) ?_
                refine (AllReadyH.cons (o := ?o1_7_6) ?i1_7_6 (fun K hK => ?st1_7_6) AllReadyH.nil)
                case i1_7_6 => simp only [List.getElem?_toArray, List.getElem?_cons_succ, List.getElem?_cons_zero]; rfl
                rw [if_pos (by rfl)]
                go_simp
                refine (rsame4_any (ls.take j) (ls.take j) _ _ _ _ _ hv9' hv10 (by omega)).mono ?_
                rintro r w11 ⟨rfl, hb11⟩
                rw [decide_eq_true rfl]
                have hB11 := hB10.trans (hb11.mono hB10.size)
                go_wp2_with fail
                refine hK.out _ _ ?s1_7_6 (fun hS => ?_)
                case s1_7_6 => (exact hS)
                clear hK K
                (try simp only [Act.put, List.setIfInBounds_toArray, List.set_cons_zero, List.set_cons_succ])
                refine wpAnyH_take (i := 7) (oi := ?o1_7_8) (v := ?v1_7_8) ?i1_7_8 (by kernel_rfl) (by kernel_rfl) (by kernel_rfl) (fun _ _ _ h => h) (Or.inl ⟨?g1_7_8, ?y1_7_8⟩) hS ?_
                case i1_7_8 => simp only [List.getElem?_toArray, List.getElem?_cons_succ, List.getElem?_cons_zero]; rfl
                case g1_7_8 => rfl
                case y1_7_8 => (intro w hSw; (go_simp <;> with_reducible rfl))
                (try simp only [Act.put, List.setIfInBounds_toArray, List.set_cons_zero, List.set_cons_succ])
                refine wpAnyH_take (i := 8) (oi := ?o1_8_9) (v := ?v1_8_9) ?i1_8_9 (by kernel_rfl) (by kernel_rfl) (by kernel_rfl) (fun _ _ _ h => h) (Or.inl ⟨?g1_8_9, ?y1_8_9⟩) hS ?_
                case i1_8_9 => simp only [List.getElem?_toArray, List.getElem?_cons_succ, List.getElem?_cons_zero]; rfl
                case g1_8_9 => rfl
                case y1_8_9 => (intro w hSw; (go_simp <;> with_reducible rfl))
                (try simp only [Act.put, List.setIfInBounds_toArray, List.set_cons_zero, List.set_cons_succ])
                refine wpAnyH_take (i := 9) (oi := ?o1_9_10) (v := ?v1_9_10) ?i1_9_10 (by kernel_rfl) (by kernel_rfl) (by kernel_rfl) (fun _ _ _ h => h) (Or.inl ⟨?g1_9_10, ?y1_9_10⟩) hS ?_
                case i1_9_10 => simp only [List.getElem?_toArray, List.getElem?_cons_succ, List.getElem?_cons_zero]; rfl
                case g1_9_10 => rfl
                case y1_9_10 => (intro w hSw; (go_simp <;> with_reducible rfl))
                (try simp only [Act.put, List.setIfInBounds_toArray, List.set_cons_zero, List.set_cons_succ])
                refine wpAnyH_take (i := 10) (oi := ?o1_10_11) (v := ?v1_10_11) ?i1_10_11 (by kernel_rfl) (by kernel_rfl) (by kernel_rfl) (fun _ _ _ h => h) (Or.inl ⟨?g1_10_11, ?y1_10_11⟩) hS ?_
                case i1_10_11 => simp only [List.getElem?_toArray, List.getElem?_cons_succ, List.getElem?_cons_zero]; rfl
                case g1_10_11 => rfl
                case y1_10_11 => (intro w hSw; (go_simp <;> with_reducible rfl))
                (try simp only [Act.put, List.setIfInBounds_toArray, List.set_cons_zero, List.set_cons_succ])
                refine wpAnyH_take (i := 11) (oi := ?o1_11_12) (v := ?v1_11_12) ?i1_11_12 (by kernel_rfl) (by kernel_rfl) (by kernel_rfl) (fun _ _ _ h => h) (Or.inl ⟨?g1_11_12, ?y1_11_12⟩) hS ?_
                case i1_11_12 => simp only [List.getElem?_toArray, List.getElem?_cons_succ, List.getElem?_cons_zero]; rfl
                case g1_11_12 => rfl
                case y1_11_12 => (intro w hSw; (go_simp <;> with_reducible rfl))
                (try simp only [Act.put, List.setIfInBounds_toArray, List.set_cons_zero, List.set_cons_succ])
                refine wpAnyH_take (i := 12) (oi := ?o1_12_13) (v := ?v1_12_13) ?i1_12_13 (by kernel_rfl) (by kernel_rfl) (by kernel_rfl) (fun _ _ _ h => h) (Or.inl ⟨?g1_12_13, ?y1_12_13⟩) hS ?_
                case i1_12_13 => simp only [List.getElem?_toArray, List.getElem?_cons_succ, List.getElem?_cons_zero]; rfl
                case g1_12_13 => rfl
                case y1_12_13 => (intro w hSw; (go_simp <;> with_reducible rfl))
                (try simp only [Act.put, List.setIfInBounds_toArray, List.set_cons_zero, List.set_cons_succ])
                refine wpAnyH_take (i := 13) (oi := ?o1_13_14) (v := ?v1_13_14) ?i1_13_14 (by kernel_rfl) (by kernel_rfl) (by kernel_rfl) (fun _ _ _ h => h) (Or.inl ⟨?g1_13_14, ?y1_13_14⟩) hS ?_
                case i1_13_14 => simp only [List.getElem?_toArray, List.getElem?_cons_succ, List.getElem?_cons_zero]; rfl
                case g1_13_14 => rfl
                case y1_13_14 => (intro w hSw; (go_simp <;> with_reducible rfl))
                (try simp only [Act.put, List.setIfInBounds_toArray, List.set_cons_zero, List.set_cons_succ])
                refine wpAnyH_take (i := 14) (oi := ?o1_14_15) (v := ?v1_14_15) ?i1_14_15 (by kernel_rfl) (by kernel_rfl) (by kernel_rfl) (fun _ _ _ h => h) (Or.inl ⟨?g1_14_15, ?y1_14_15⟩) hS ?_
                case i1_14_15 => simp only [List.getElem?_toArray, List.getElem?_cons_succ, List.getElem?_cons_zero]; rfl
                case g1_14_15 => rfl
                case y1_14_15 => (intro w hSw; (go_simp <;> with_reducible rfl))
                (try simp only [Act.put, List.setIfInBounds_toArray, List.set_cons_zero, List.set_cons_succ])
                refine wpAnyH_take (i := 15) (oi := ?o1_15_16) (v := ?v1_15_16) ?i1_15_16 (by kernel_rfl) (by kernel_rfl) (by kernel_rfl) (fun _ _ _ h => h) (Or.inl ⟨?g1_15_16, ?y1_15_16⟩) hS ?_
                case i1_15_16 => simp only [List.getElem?_toArray, List.getElem?_cons_succ, List.getElem?_cons_zero]; rfl
                case g1_15_16 => rfl
                case y1_15_16 => (intro w hSw; (go_simp <;> with_reducible rfl))
                (try simp only [Act.put, List.setIfInBounds_toArray, List.set_cons_zero, List.set_cons_succ])
                refine wpAnyH_take (i := 16) (oi := ?o1_16_17) (v := ?v1_16_17) ?i1_16_17 (by kernel_rfl) (by kernel_rfl) (by kernel_rfl) (fun _ _ _ h => h) (Or.inl ⟨?g1_16_17, ?y1_16_17⟩) hS ?_
                case i1_16_17 => simp only [List.getElem?_toArray, List.getElem?_cons_succ, List.getElem?_cons_zero]; rfl
                case g1_16_17 => rfl
                case y1_16_17 => (intro w hSw; (go_simp <;> with_reducible rfl))
                (try simp only [Act.put, List.setIfInBounds_toArray, List.set_cons_zero, List.set_cons_succ])
                refine wpAnyH_take (i := 17) (oi := ?o1_17_18) (v := ?v1_17_18) ?i1_17_18 (by kernel_rfl) (by kernel_rfl) (by kernel_rfl) (fun _ _ _ h => h) (Or.inl ⟨?g1_17_18, ?y1_17_18⟩) hS ?_
                case i1_17_18 => simp only [List.getElem?_toArray, List.getElem?_cons_succ, List.getElem?_cons_zero]; rfl
                case g1_17_18 => rfl
                case y1_17_18 => (intro w hSw; (go_simp <;> with_reducible rfl))
                (try simp only [Act.put, List.setIfInBounds_toArray, List.set_cons_zero, List.set_cons_succ])
                refine wpAnyH_take (i := 18) (oi := ?o1_18_19) (v := ?v1_18_19) ?i1_18_19 (by kernel_rfl) (by kernel_rfl) (by kernel_rfl) (fun _ _ _ h => h) (Or.inl ⟨?g1_18_19, ?y1_18_19⟩) hS ?_
                case i1_18_19 => simp only [List.getElem?_toArray, List.getElem?_cons_succ, List.getElem?_cons_zero]; rfl
                case g1_18_19 => rfl
                case y1_18_19 => (intro w hSw; (go_simp <;> with_reducible rfl))
                (try simp only [Act.put, List.setIfInBounds_toArray, List.set_cons_zero, List.set_cons_succ])
                refine wpAnyH_take (i := 19) (oi := ?o1_19_20) (v := ?v1_19_20) ?i1_19_20 (by kernel_rfl) (by kernel_rfl) (by kernel_rfl) (fun _ _ _ h => h) (Or.inl ⟨?g1_19_20, ?y1_19_20⟩) hS ?_
                case i1_19_20 => simp only [List.getElem?_toArray, List.getElem?_cons_succ, List.getElem?_cons_zero]; rfl
                case g1_19_20 => rfl
                case y1_19_20 => (intro w hSw; (go_simp <;> with_reducible rfl))
                (try simp only [Act.put, List.setIfInBounds_toArray, List.set_cons_zero, List.set_cons_succ])
                refine wpAnyH_take (i := 20) (oi := ?o1_20_21) (v := ?v1_20_21) ?i1_20_21 (by kernel_rfl) (by kernel_rfl) (by kernel_rfl) (fun _ _ _ h => h) (Or.inl ⟨?g1_20_21, ?y1_20_21⟩) hS ?_
                case i1_20_21 => simp only [List.getElem?_toArray, List.getElem?_cons_succ, List.getElem?_cons_zero]; rfl
                case g1_20_21 => rfl
                case y1_20_21 => (intro w hSw; (go_simp <;> with_reducible rfl))
                (try simp only [Act.put, List.setIfInBounds_toArray, List.set_cons_zero, List.set_cons_succ])
                refine wpAnyH_take (i := 21) (oi := ?o1_21_22) (v := ?v1_21_22) ?i1_21_22 (by kernel_rfl) (by kernel_rfl) (by kernel_rfl) (fun _ _ _ h => h) (Or.inl ⟨?g1_21_22, ?y1_21_22⟩) hS ?_
                case i1_21_22 => simp only [List.getElem?_toArray, List.getElem?_cons_succ, List.getElem?_cons_zero]; rfl
                case g1_21_22 => rfl
                case y1_21_22 => (intro w hSw; (go_simp <;> with_reducible rfl))
                (try simp only [Act.put, List.setIfInBounds_toArray, List.set_cons_zero, List.set_cons_succ])
                refine wpAnyH_take (i := 22) (oi := ?o1_22_23) (v := ?v1_22_23) ?i1_22_23 (by kernel_rfl) (by kernel_rfl) (by kernel_rfl) (fun _ _ _ h => h) (Or.inl ⟨?g1_22_23, ?y1_22_23⟩) hS ?_
                case i1_22_23 => simp only [List.getElem?_toArray, List.getElem?_cons_succ, List.getElem?_cons_zero]; rfl
                case g1_22_23 => rfl
                case y1_22_23 => (intro w hSw; (go_simp <;> with_reducible rfl))
                (try simp only [Act.put, List.setIfInBounds_toArray, List.set_cons_zero, List.set_cons_succ])
                refine wpAnyH_take (i := 23) (oi := ?o1_23_24) (v := ?v1_23_24) ?i1_23_24 (by kernel_rfl) (by kernel_rfl) (by kernel_rfl) (fun _ _ _ h => h) (Or.inl ⟨?g1_23_24, ?y1_23_24⟩) hS ?_
                case i1_23_24 => simp only [List.getElem?_toArray, List.getElem?_cons_succ, List.getElem?_cons_zero]; rfl
                case g1_23_24 => rfl
                case y1_23_24 => (intro w hSw; (go_simp <;> with_reducible rfl))
                (try simp only [Act.put, List.setIfInBounds_toArray, List.set_cons_zero, List.set_cons_succ])
                refine wpAnyH_take (i := 24) (oi := ?o1_24_25) (v := undef) ?i1_24_25 (by kernel_rfl) (by kernel_rfl) (by kernel_rfl) (fun _ _ _ h => h) (Or.inr ⟨?g1_24_25, rfl⟩) hS ?_
                case i1_24_25 => simp only [List.getElem?_toArray, List.getElem?_cons_succ, List.getElem?_cons_zero]; rfl
                case g1_24_25 => rfl
                (try simp only [Act.put, List.setIfInBounds_toArray, List.set_cons_zero, List.set_cons_succ])
                refine wpAnyH_take (i := 25) (oi := ?o1_25_26) (v := undef) ?i1_25_26 (by kernel_rfl) (by kernel_rfl) (by kernel_rfl) (fun _ _ _ h => h) (Or.inr ⟨?g1_25_26, rfl⟩) hS ?_
                case i1_25_26 => simp only [List.getElem?_toArray, List.getElem?_cons_succ, List.getElem?_cons_zero]; rfl
                case g1_25_26 => rfl
                (try simp only [Act.put, List.setIfInBounds_toArray, List.set_cons_zero, List.set_cons_succ])
                refine wpAnyH_take (i := 26) (oi := ?o1_26_27) (v := ?v1_26_27) ?i1_26_27 (by kernel_rfl) (by kernel_rfl) (by kernel_rfl) (fun _ _ _ h => h) (Or.inl ⟨?g1_26_27, ?y1_26_27⟩) hS ?_
                case i1_26_27 => simp only [List.getElem?_toArray, List.getElem?_cons_succ, List.getElem?_cons_zero]; rfl
                case g1_26_27 => rfl
                case y1_26_27 => (intro w hSw; (go_simp <;> with_reducible rfl))
                (try simp only [Act.put, List.setIfInBounds_toArray, List.set_cons_zero, List.set_cons_succ])
                refine wpAnyH_take (i := 27) (oi := ?o1_27_28) (v := ?v1_27_28) ?i1_27_28 (by kernel_rfl) (by kernel_rfl) (by kernel_rfl) (fun _ _ _ h => h) (Or.inl ⟨?g1_27_28, ?y1_27_28⟩) hS ?_
                case i1_27_28 => simp only [List.getElem?_toArray, List.getElem?_cons_succ, List.getElem?_cons_zero]; rfl
                case g1_27_28 => rfl
                case y1_27_28 => (intro w hSw; (go_simp <;> with_reducible rfl))
                (try simp only [Act.put, List.setIfInBounds_toArray, List.set_cons_zero, List.set_cons_succ])
                refine wpAnyH_take (i := 28) (oi := ?o1_28_29) (v := ?v1_28_29) ?i1_28_29 (by kernel_rfl) (by kernel_rfl) (by kernel_rfl) (fun _ _ _ h => h) (Or.inl ⟨?g1_28_29, ?y1_28_29⟩) hS ?_
                case i1_28_29 => simp only [List.getElem?_toArray, List.getElem?_cons_succ, List.getElem?_cons_zero]; rfl
                case g1_28_29 => rfl
                case y1_28_29 => (intro w hSw; (go_simp <;> with_reducible rfl))
                (try simp only [Act.put, List.setIfInBounds_toArray, List.set_cons_zero, List.set_cons_succ])
                refine wpAnyH_done (by kernel_rfl) ?_ _
                refine NoPanic.normal ?_
                go_wp2
                go_ret
                exact ⟨rfl, hB11⟩
              · have eb : ((E : Int) == (k : Int)) = false := beq_eq_false_iff_ne.2 (by omega)
                rw [if_neg hEq]
                clear hEq
                go_wp2_with fail
                refine wp_region_noPanic ?_
                refine wp_region_held_drew (S := fun _ => True) (by kernel_rfl) trivial (fun hS => ?_)
                refine wpAnyH_take (i := 0) (oi := ?o2_0_1) (v := ?v2_0_1) ?i2_0_1 (by kernel_rfl) (by kernel_rfl) (by kernel_rfl) (fun _ _ _ h => h) (Or.inl ⟨?g2_0_1, ?y2_0_1⟩) hS ?_
                case i2_0_1 => simp only [List.getElem?_toArray, List.getElem?_cons_succ, List.getElem?_cons_zero]; rfl
                case g2_0_1 => rfl
                case y2_0_1 => (intro w hSw; (go_simp <;> with_reducible rfl))
                (try simp only [Act.put, List.setIfInBounds_toArray, List.set_cons_zero, List.set_cons_succ])
                refine wpAnyH_take (i := 2) (oi := ?o2_2_2) (v := ?v2_2_2) ?i2_2_2 (by kernel_rfl) (by kernel_rfl) (by kernel_rfl) (fun _ _ _ h => h) (Or.inl ⟨?g2_2_2, ?y2_2_2⟩) hS ?_
                case i2_2_2 => simp only [List.getElem?_toArray, List.getElem?_cons_succ, List.getElem?_cons_zero]; rfl
                case g2_2_2 => rfl
                case y2_2_2 => (intro w hSw; (go_simp <;> with_reducible rfl))
                (try simp only [Act.put, List.setIfInBounds_toArray, List.set_cons_zero, List.set_cons_succ])
                refine wpAnyH_take (i := 3) (oi := ?o2_3_3) (v := ?v2_3_3) ?i2_3_3 (by kernel_rfl) (by kernel_rfl) (by kernel_rfl) (fun _ _ _ h => h) (Or.inl ⟨?g2_3_3, ?y2_3_3⟩) hS ?_
                case i2_3_3 => simp only [List.getElem?_toArray, List.getElem?_cons_succ, List.getElem?_cons_zero]; rfl
                case g2_3_3 => rfl
                case y2_3_3 => (intro w hSw; (go_simp <;> with_reducible rfl))
                (try simp only [Act.put, List.setIfInBounds_toArray, List.set_cons_zero, List.set_cons_succ])
                refine wpAnyH_take (i := 4) (oi := ?o2_4_4) (v := ?v2_4_4) ?i2_4_4 (by kernel_rfl) (by kernel_rfl) (by kernel_rfl) (fun _ _ _ h => h) (Or.inl ⟨?g2_4_4, ?y2_4_4⟩) hS ?_
                case i2_4_4 => simp only [List.getElem?_toArray, List.getElem?_cons_succ, List.getElem?_cons_zero]; rfl
                case g2_4_4 => rfl
                case y2_4_4 => (intro w hSw; (go_simp <;> with_reducible rfl))
                (try simp only [Act.put, List.setIfInBounds_toArray, List.set_cons_zero, List.set_cons_succ])
                refine wpAnyH_ready (rs := [1]) (by kernel_rfl) (by simp) ?_
                refine (AllReadyH.cons (o := ?o2_5_1) ?i2_5_1 (fun K hK => ?st2_5_1) AllReadyH.nil)
                case i2_5_1 => simp only [List.getElem?_toArray, List.getElem?_cons_succ, List.getElem?_cons_zero]; rfl
                rw [if_pos (by rfl)]
                go_simp
                refine (texts_any (ls.take j) _ _ _ hx8 (by omega)).mono ?_
                rintro r w9 ⟨v9, d9, rfl, hv9, hb9⟩
                have hr9 := hr8.below hb9
                have hB9 := hB8.trans (hb9.mono hB8.size)
                go_wp2_with fail
                refine hK.out _ _ ?s2_5_1 (fun hS => ?_)
                case s2_5_1 => (exact hS)
                clear hK K
                (try simp only [Act.put, List.setIfInBounds_toArray, List.set_cons_zero, List.set_cons_succ])
                refine wpAnyH_ready (rs := [5]) (by kernel_rfl) (by simp) ?_
                refine (AllReadyH.cons (o := ?o2_6_5) ?i2_6_5 (fun K hK => ?st2_6_5) AllReadyH.nil)
                case i2_6_5 => simp only [List.getElem?_toArray, List.getElem?_cons_succ, List.getElem?_cons_zero]; rfl
                rw [if_pos (by rfl)]
                go_simp
                refine (texts_any (ls.take j) _ _ _ (hr9.take hjn) (by omega)).mono ?_
                rintro r w10 ⟨v10, d10, rfl, hv10, hb10⟩
                have hv9' := hv9.below' hb10
                have hB10 := hB9.trans (hb10.mono hB9.size)
                go_wp2_with fail
                refine hK.out _ _ ?s2_6_5 (fun hS => ?_)
                case s2_6_5 => (exact hS)
                clear hK K
                (try simp only [Act.put, List.setIfInBounds_toArray, List.set_cons_zero, List.set_cons_succ])
                refine wpAnyH_ready (rs := [6]) (by kernel_rfl) (by simp) ?_
                refine (AllReadyH.cons (o := ?o2_7_6) ?i2_7_6 (fun K hK => ?st2_7_6) AllReadyH.nil)
                case i2_7_6 => simp only [List.getElem?_toArray, List.getElem?_cons_succ, List.getElem?_cons_zero]; rfl
                rw [if_pos (by rfl)]
                go_simp
                refine (rsame4_any (ls.take j) (ls.take j) _ _ _ _ _ hv9' hv10 (by omega)).mono ?_
                rintro r w11 ⟨rfl, hb11⟩
                rw [decide_eq_true rfl]
                have hB11 := hB10.trans (hb11.mono hB10.size)
                go_wp2_with fail
                refine hK.out _ _ ?s2_7_6 (fun hS => ?_)
                case s2_7_6 => (exact hS)
                clear hK K
                (try simp only [Act.put, List.setIfInBounds_toArray, List.set_cons_zero, List.set_cons_succ])
                refine wpAnyH_take (i := 7) (oi := ?o2_7_8) (v := ?v2_7_8) ?i2_7_8 (by kernel_rfl) (by kernel_rfl) (by kernel_rfl) (fun _ _ _ h => h) (Or.inl ⟨?g2_7_8, ?y2_7_8⟩) hS ?_
                case i2_7_8 => simp only [List.getElem?_toArray, List.getElem?_cons_succ, List.getElem?_cons_zero]; rfl
                case g2_7_8 => rfl
                case y2_7_8 => (intro w hSw; (go_simp <;> with_reducible rfl))
                (try simp only [Act.put, List.setIfInBounds_toArray, List.set_cons_zero, List.set_cons_succ])
                refine wpAnyH_take (i := 8) (oi := ?o2_8_9) (v := ?v2_8_9) ?i2_8_9 (by kernel_rfl) (by kernel_rfl) (by kernel_rfl) (fun _ _ _ h => h) (Or.inl ⟨?g2_8_9, ?y2_8_9⟩) hS ?_
                case i2_8_9 => simp only [List.getElem?_toArray, List.getElem?_cons_succ, List.getElem?_cons_zero]; rfl
                case g2_8_9 => rfl
                case y2_8_9 => (intro w hSw; (go_simp <;> with_reducible rfl))
                (try simp only [Act.put, List.setIfInBounds_toArray, List.set_cons_zero, List.set_cons_succ])
                refine wpAnyH_take (i := 9) (oi := ?o2_9_10) (v := ?v2_9_10) ?i2_9_10 (by kernel_rfl) (by kernel_rfl) (by kernel_rfl) (fun _ _ _ h => h) (Or.inl ⟨?g2_9_10, ?y2_9_10⟩) hS ?_
                case i2_9_10 => simp only [List.getElem?_toArray, List.getElem?_cons_succ, List.getElem?_cons_zero]; rfl
                case g2_9_10 => rfl
                case y2_9_10 => (intro w hSw; (go_simp <;> with_reducible rfl))
                (try simp only [Act.put, List.setIfInBounds_toArray, List.set_cons_zero, List.set_cons_succ])
                refine wpAnyH_take (i := 10) (oi := ?o2_10_11) (v := ?v2_10_11) ?i2_10_11 (by kernel_rfl) (by kernel_rfl) (by kernel_rfl) (fun _ _ _ h => h) (Or.inl ⟨?g2_10_11, ?y2_10_11⟩) hS ?_
                case i2_10_11 => simp only [List.getElem?_toArray, List.getElem?_cons_succ, List.getElem?_cons_zero]; rfl
                case g2_10_11 => rfl
                case y2_10_11 => (intro w hSw; (go_simp <;> with_reducible rfl))
                (try simp only [Act.put, List.setIfInBounds_toArray, List.set_cons_zero, List.set_cons_succ])
                refine wpAnyH_take (i := 11) (oi := ?o2_11_12) (v := ?v2_11_12) ?i2_11_12 (by kernel_rfl) (by kernel_rfl) (by kernel_rfl) (fun _ _ _ h => h) (Or.inl ⟨?g2_11_12, ?y2_11_12⟩) hS ?_
                case i2_11_12 => simp only [List.getElem?_toArray, List.getElem?_cons_succ, List.getElem?_cons_zero]; rfl
                case g2_11_12 => rfl
                case y2_11_12 => (intro w hSw; (go_simp <;> with_reducible rfl))
                (try simp only [Act.put, List.setIfInBounds_toArray, List.set_cons_zero, List.set_cons_succ])
                refine wpAnyH_take (i := 12) (oi := ?o2_12_13) (v := ?v2_12_13) ?i2_12_13 (by kernel_rfl) (by kernel_rfl) (by kernel_rfl) (fun _ _ _ h => h) (Or.inl ⟨?g2_12_13, ?y2_12_13⟩) hS ?_
                case i2_12_13 => simp only [List.getElem?_toArray, List.getElem?_cons_succ, List.getElem?_cons_zero]; rfl
                case g2_12_13 => rfl
                case y2_12_13 => (intro w hSw; (go_simp <;> with_reducible rfl))
                (try simp only [Act.put, List.setIfInBounds_toArray, List.set_cons_zero, List.set_cons_succ])
                refine wpAnyH_take (i := 13) (oi := ?o2_13_14) (v := ?v2_13_14) ?i2_13_14 (by kernel_rfl) (by kernel_rfl) (by kernel_rfl) (fun _ _ _ h => h) (Or.inl ⟨?g2_13_14, ?y2_13_14⟩) hS ?_
                case i2_13_14 => simp only [List.getElem?_toArray, List.getElem?_cons_succ, List.getElem?_cons_zero]; rfl
                case g2_13_14 => rfl
                case y2_13_14 => (intro w hSw; (go_simp <;> with_reducible rfl))
                (try simp only [Act.put, List.setIfInBounds_toArray, List.set_cons_zero, List.set_cons_succ])
                refine wpAnyH_take (i := 14) (oi := ?o2_14_15) (v := ?v2_14_15) ?i2_14_15 (by kernel_rfl) (by kernel_rfl) (by kernel_rfl) (fun _ _ _ h => h) (Or.inl ⟨?g2_14_15, ?y2_14_15⟩) hS ?_
                case i2_14_15 => simp only [List.getElem?_toArray, List.getElem?_cons_succ, List.getElem?_cons_zero]; rfl
                case g2_14_15 => rfl
                case y2_14_15 => (intro w hSw; (go_simp <;> with_reducible rfl))
                (try simp only [Act.put, List.setIfInBounds_toArray, List.set_cons_zero, List.set_cons_succ])
                refine wpAnyH_take (i := 15) (oi := ?o2_15_16) (v := ?v2_15_16) ?i2_15_16 (by kernel_rfl) (by kernel_rfl) (by kernel_rfl) (fun _ _ _ h => h) (Or.inl ⟨?g2_15_16, ?y2_15_16⟩) hS ?_
                case i2_15_16 => simp only [List.getElem?_toArray, List.getElem?_cons_succ, List.getElem?_cons_zero]; rfl
                case g2_15_16 => rfl
                case y2_15_16 => (intro w hSw; (go_simp <;> with_reducible rfl))
                (try simp only [Act.put, List.setIfInBounds_toArray, List.set_cons_zero, List.set_cons_succ])
                refine wpAnyH_take (i := 16) (oi := ?o2_16_17) (v := ?v2_16_17) ?i2_16_17 (by kernel_rfl) (by kernel_rfl) (by kernel_rfl) (fun _ _ _ h => h) (Or.inl ⟨?g2_16_17, ?y2_16_17⟩) hS ?_
                case i2_16_17 => simp only [List.getElem?_toArray, List.getElem?_cons_succ, List.getElem?_cons_zero]; rfl
                case g2_16_17 => rfl
                case y2_16_17 => (intro w hSw; (go_simp <;> with_reducible rfl))
                (try simp only [Act.put, List.setIfInBounds_toArray, List.set_cons_zero, List.set_cons_succ])
                refine wpAnyH_take (i := 17) (oi := ?o2_17_18) (v := ?v2_17_18) ?i2_17_18 (by kernel_rfl) (by kernel_rfl) (by kernel_rfl) (fun _ _ _ h => h) (Or.inl ⟨?g2_17_18, ?y2_17_18⟩) hS ?_
                case i2_17_18 => simp only [List.getElem?_toArray, List.getElem?_cons_succ, List.getElem?_cons_zero]; rfl
                case g2_17_18 => rfl
                case y2_17_18 => (intro w hSw; (go_simp <;> with_reducible rfl))
                (try simp only [Act.put, List.setIfInBounds_toArray, List.set_cons_zero, List.set_cons_succ])
                refine wpAnyH_take (i := 18) (oi := ?o2_18_19) (v := ?v2_18_19) ?i2_18_19 (by kernel_rfl) (by kernel_rfl) (by kernel_rfl) (fun _ _ _ h => h) (Or.inl ⟨?g2_18_19, ?y2_18_19⟩) hS ?_
                case i2_18_19 => simp only [List.getElem?_toArray, List.getElem?_cons_succ, List.getElem?_cons_zero]; rfl
                case g2_18_19 => rfl
                case y2_18_19 => (intro w hSw; (go_simp <;> with_reducible rfl))
                (try simp only [Act.put, List.setIfInBounds_toArray, List.set_cons_zero, List.set_cons_succ])
                refine wpAnyH_take (i := 19) (oi := ?o2_19_20) (v := ?v2_19_20) ?i2_19_20 (by kernel_rfl) (by kernel_rfl) (by kernel_rfl) (fun _ _ _ h => h) (Or.inl ⟨?g2_19_20, ?y2_19_20⟩) hS ?_
                case i2_19_20 => simp only [List.getElem?_toArray, List.getElem?_cons_succ, List.getElem?_cons_zero]; rfl
                case g2_19_20 => rfl
                case y2_19_20 => (intro w hSw; (go_simp <;> with_reducible rfl))
                (try simp only [Act.put, List.setIfInBounds_toArray, List.set_cons_zero, List.set_cons_succ])
                refine wpAnyH_take (i := 20) (oi := ?o2_20_21) (v := ?v2_20_21) ?i2_20_21 (by kernel_rfl) (by kernel_rfl) (by kernel_rfl) (fun _ _ _ h => h) (Or.inl ⟨?g2_20_21, ?y2_20_21⟩) hS ?_
                case i2_20_21 => simp only [List.getElem?_toArray, List.getElem?_cons_succ, List.getElem?_cons_zero]; rfl
                case g2_20_21 => rfl
                case y2_20_21 => (intro w hSw; (go_simp <;> with_reducible rfl))
                (try simp only [Act.put, List.setIfInBounds_toArray, List.set_cons_zero, List.set_cons_succ])
                refine wpAnyH_take (i := 21) (oi := ?o2_21_22) (v := ?v2_21_22) ?i2_21_22 (by kernel_rfl) (by kernel_rfl) (by kernel_rfl) (fun _ _ _ h => h) (Or.inl ⟨?g2_21_22, ?y2_21_22⟩) hS ?_
                case i2_21_22 => simp only [List.getElem?_toArray, List.getElem?_cons_succ, List.getElem?_cons_zero]; rfl
                case g2_21_22 => rfl
                case y2_21_22 => (intro w hSw; (go_simp <;> with_reducible rfl))
                (try simp only [Act.put, List.setIfInBounds_toArray, List.set_cons_zero, List.set_cons_succ])
                refine wpAnyH_take (i := 22) (oi := ?o2_22_23) (v := ?v2_22_23) ?i2_22_23 (by kernel_rfl) (by kernel_rfl) (by kernel_rfl) (fun _ _ _ h => h) (Or.inl ⟨?g2_22_23, ?y2_22_23⟩) hS ?_
                case i2_22_23 => simp only [List.getElem?_toArray, List.getElem?_cons_succ, List.getElem?_cons_zero]; rfl
                case g2_22_23 => rfl
                case y2_22_23 => (intro w hSw; (go_simp <;> with_reducible rfl))
                (try simp only [Act.put, List.setIfInBounds_toArray, List.set_cons_zero, List.set_cons_succ])
                refine wpAnyH_take (i := 23) (oi := ?o2_23_24) (v := ?v2_23_24) ?i2_23_24 (by kernel_rfl) (by kernel_rfl) (by kernel_rfl) (fun _ _ _ h => h) (Or.inl ⟨?g2_23_24, ?y2_23_24⟩) hS ?_
                case i2_23_24 => simp only [List.getElem?_toArray, List.getElem?_cons_succ, List.getElem?_cons_zero]; rfl
                case g2_23_24 => rfl
                case y2_23_24 => (intro w hSw; (go_simp <;> with_reducible rfl))
                (try simp only [Act.put, List.setIfInBounds_toArray, List.set_cons_zero, List.set_cons_succ])
                refine wpAnyH_take (i := 24) (oi := ?o2_24_25) (v := ?v2_24_25) ?i2_24_25 (by kernel_rfl) (by kernel_rfl) (by kernel_rfl) (fun _ _ _ h => h) (Or.inl ⟨?g2_24_25, ?y2_24_25⟩) hS ?_
                case i2_24_25 => simp only [List.getElem?_toArray, List.getElem?_cons_succ, List.getElem?_cons_zero]; rfl
                case g2_24_25 => rfl
                case y2_24_25 => (intro w hSw; (go_simp <;> with_reducible rfl))
                (try simp only [Act.put, List.setIfInBounds_toArray, List.set_cons_zero, List.set_cons_succ])
                refine wpAnyH_take (i := 25) (oi := ?o2_25_26) (v := ?v2_25_26) ?i2_25_26 (by kernel_rfl) (by kernel_rfl) (by kernel_rfl) (fun _ _ _ h => h) (Or.inl ⟨?g2_25_26, ?y2_25_26⟩) hS ?_
                case i2_25_26 => simp only [List.getElem?_toArray, List.getElem?_cons_succ, List.getElem?_cons_zero]; rfl
                case g2_25_26 => rfl
                case y2_25_26 => (intro w hSw; (go_simp <;> with_reducible rfl))
                (try simp only [Act.put, List.setIfInBounds_toArray, List.set_cons_zero, List.set_cons_succ])
                refine wpAnyH_take (i := 26) (oi := ?o2_26_27) (v := ?v2_26_27) ?i2_26_27 (by kernel_rfl) (by kernel_rfl) (by kernel_rfl) (fun _ _ _ h => h) (Or.inl ⟨?g2_26_27, ?y2_26_27⟩) hS ?_
                case i2_26_27 => simp only [List.getElem?_toArray, List.getElem?_cons_succ, List.getElem?_cons_zero]; rfl
                case g2_26_27 => rfl
                case y2_26_27 => (intro w hSw; (go_simp <;> with_reducible rfl))
                (try simp only [Act.put, List.setIfInBounds_toArray, List.set_cons_zero, List.set_cons_succ])
                refine wpAnyH_take (i := 27) (oi := ?o2_27_28) (v := ?v2_27_28) ?i2_27_28 (by kernel_rfl) (by kernel_rfl) (by kernel_rfl) (fun _ _ _ h => h) (Or.inl ⟨?g2_27_28, ?y2_27_28⟩) hS ?_
                case i2_27_28 => simp only [List.getElem?_toArray, List.getElem?_cons_succ, List.getElem?_cons_zero]; rfl
                case g2_27_28 => rfl
                case y2_27_28 => (intro w hSw; (go_simp <;> with_reducible rfl))
                (try simp only [Act.put, List.setIfInBounds_toArray, List.set_cons_zero, List.set_cons_succ])
                refine wpAnyH_take (i := 28) (oi := ?o2_28_29) (v := ?v2_28_29) ?i2_28_29 (by kernel_rfl) (by kernel_rfl) (by kernel_rfl) (fun _ _ _ h => h) (Or.inl ⟨?g2_28_29, ?y2_28_29⟩) hS ?_
                case i2_28_29 => simp only [List.getElem?_toArray, List.getElem?_cons_succ, List.getElem?_cons_zero]; rfl
                case g2_28_29 => rfl
                case y2_28_29 => (intro w hSw; (go_simp <;> with_reducible rfl))
                (try simp only [Act.put, List.setIfInBounds_toArray, List.set_cons_zero, List.set_cons_succ])
                refine wpAnyH_done (by kernel_rfl) ?_ _
                refine NoPanic.normal ?_
                go_wp2
                go_ret
                exact ⟨rfl, hB11⟩
          · obtain rfl : j = ls.length := by omega
            have HNEXT : Hid (ls.length < ls.length → k < (frms (ls.take (ls.length + 1))).length) := Lib.hid fun h => absurd h (Nat.lt_irrefl _)
            have hcf := cutF_eq ls k ls.length hjn hEk HNEXT.out
            have hrec := recs_take ls k HL8.out (by rw [← HNN.out]; exact hkN)
            rw [hcf] at hrec
            have htk : (ls.take ls.length).length ≤ 20 := by rw [List.length_take]; omega
            have htk2 : (ls.take ls.length).length = ls.length := by rw [List.length_take]; omega
            have hrbk := hrb7.take hkN
            have ALLK : ∀ W v, Hid (Below w.heap.size w W → Rd W dv v ((frms ls).take k) → Calls Tryd.prog 16 #[v] W (fun r w' => ∃ v' d', r = .returned (.tuple #[v', .int .i64 (E : Int), .int .i64 (if E = k then 0 else 10)]) ∧ RowB w' d' v' (ls.take ls.length) ∧ Below W.heap.size W w')) := fun W v => Lib.hid fun hB h => by
              have h1 := HC.out.all ((frms ls).take k) W dv v hB h (by rw [List.length_take]; omega)
              unfold AllFP at h1
              rw [hrec, ← HE.out] at h1
              exact h1
            have QK := Lib.hid ALLK
            clear ALLK hrec hcf
            go_wp2_with fail
            refine ((QK.out _ _).out hB7 hrbk).mono ?_
            rintro r w8 ⟨v8, d8, rfl, hx8', hb8⟩
            obtain ⟨A8, c8, h8⟩ := hx8'.shape
            rw [htk2] at h8
            subst h8
            have hx8 := hx8'.below (Below.refl _ _).drew
            have hr8 := (hr7.below hb8).below (Below.refl _ _).drew
            have hB8 := (hB7.trans (hb8.mono hB7.size)).drew
            clear hb8 hrbk hx8' hrb7 hr7 hB7
            by_cases hEq : E = k
            · have eb : ((E : Int) == (k : Int)) = true := by rw [hEq]; exact beq_self_eq_true _
              rw [if_pos hEq]
              clear hEq
              go_wp2_with fail
              refine wp_region_noPanic ?_
              refine wp_region_held_drew (S := fun _ => True) (by kernel_rfl) trivial (fun hS => ?_)
              refine wpAnyH_take (i := 0) (oi := ?o3_0_1) (v := ?v3_0_1) ?i3_0_1 (by kernel_rfl) (by kernel_rfl) (by kernel_rfl) (fun _ _ _ h => h) (Or.inl ⟨?g3_0_1, ?y3_0_1⟩) hS ?_
              case i3_0_1 => simp only [List.getElem?_toArray, List.getElem?_cons_succ, List.getElem?_cons_zero]; rfl
              case g3_0_1 => rfl
              case y3_0_1 => (intro w hSw; (go_simp <;> with_reducible rfl))
              (try simp only [Act.put, List.setIfInBounds_toArray, List.set_cons_zero, List.set_cons_succ])
              refine wpAnyH_take (i := 2) (oi := ?o3_2_2) (v := ?v3_2_2) ?i3_2_2 (by kernel_rfl) (by kernel_rfl) (by kernel_rfl) (fun _ _ _ h => h) (Or.inl ⟨?g3_2_2, ?y3_2_2⟩) hS ?_
              case i3_2_2 => simp only [List.getElem?_toArray, List.getElem?_cons_succ, List.getElem?_cons_zero]; rfl
              case g3_2_2 => rfl
              case y3_2_2 => (intro w hSw; (go_simp <;> with_reducible rfl))
              (try simp only [Act.put, List.setIfInBounds_toArray, List.set_cons_zero, List.set_cons_succ])
              refine wpAnyH_take (i := 3) (oi := ?o3_3_3) (v := ?v3_3_3) ?i3_3_3 (by kernel_rfl) (by kernel_rfl) (by kernel_rfl) (fun _ _ _ h => h) (Or.inl ⟨?g3_3_3, ?y3_3_3⟩) hS ?_
              case i3_3_3 => simp only [List.getElem?_toArray, List.getElem?_cons_succ, List.getElem?_cons_zero]; rfl
              case g3_3_3 => rfl
              case y3_3_3 => (intro w hSw; (go_simp <;> with_reducible rfl))
              (try simp only [Act.put, List.setIfInBounds_toArray, List.set_cons_zero, List.set_cons_succ])
              refine wpAnyH_take (i := 4) (oi := ?o3_4_4) (v := ?v3_4_4) ?i3_4_4 (by kernel_rfl) (by kernel_rfl) (by kernel_rfl) (fun _ _ _ h => h) (Or.inl ⟨?g3_4_4, ?y3_4_4⟩) hS ?_
              case i3_4_4 => simp only [List.getElem?_toArray, List.getElem?_cons_succ, List.getElem?_cons_zero]; rfl
              case g3_4_4 => rfl
              case y3_4_4 => (intro w hSw; (go_simp <;> with_reducible rfl))
              (try simp only [Act.put, List.setIfInBounds_toArray, List.set_cons_zero, List.set_cons_succ])
              refine wpAnyH_ready (rs := [1]) (by kernel_rfl) (by simp) ?_
              refine (AllReadyH.cons (o := ?o3_5_1) ?i3_5_1 (fun K hK => ?st3_5_1) AllReadyH.nil)
              case i3_5_1 => simp only [List.getElem?_toArray, List.getElem?_cons_succ, List.getElem?_cons_zero]; rfl
              rw [if_pos (by rfl)]
              go_simp
              refine (texts_any (ls.take ls.length) _ _ _ hx8 (by omega)).mono ?_
              rintro r w9 ⟨v9, d9, rfl, hv9, hb9⟩
              have hr9 := hr8.below hb9
              have hB9 := hB8.trans (hb9.mono hB8.size)
              go_wp2_with fail
              refine hK.out _ _ ?s3_5_1 (fun hS => ?_)
              case s3_5_1 => (exact hS)
              clear hK K
              (try simp only [Act.put, List.setIfInBounds_toArray, List.set_cons_zero, List.set_cons_succ])
              refine wpAnyH_ready (rs := [5]) (by kernel_rfl) (by simp) ?_
              refine (AllReadyH.cons (o := ?o3_6_5) ?i3_6_5 (fun K hK => ?st3_6_5) AllReadyH.nil)
              case i3_6_5 => simp only [List.getElem?_toArray, List.getElem?_cons_succ, List.getElem?_cons_zero]; rfl
              rw [if_pos (by rfl)]
              go_simp
              refine (texts_any (ls.take ls.length) _ _ _ (hr9.take hjn) (by omega)).mono ?_
              rintro r w10 ⟨v10, d10, rfl, hv10, hb10⟩
              have hv9' := hv9.below' hb10
              have hB10 := hB9.trans (hb10.mono hB9.size)
              go_wp2_with fail
              refine hK.out _ _ ?s3_6_5 (fun hS => ?_)
              case s3_6_5 => (exact hS)
              clear hK K
              (try simp only [Act.put, List.setIfInBounds_toArray, List.set_cons_zero, List.set_cons_succ])
              refine wpAnyH_ready (rs := [6]) (by kernel_rfl) (by simp) ?_
              refine (AllReadyH.cons (o := ?o3_7_6) ?i3_7_6 (fun K hK => ?st3_7_6) AllReadyH.nil)
              case i3_7_6 => simp only [List.getElem?_toArray, List.getElem?_cons_succ, List.getElem?_cons_zero]; rfl
              rw [if_pos (by rfl)]
              go_simp
              refine (rsame4_any (ls.take ls.length) (ls.take ls.length) _ _ _ _ _ hv9' hv10 (by omega)).mono ?_
              rintro r w11 ⟨rfl, hb11⟩
              rw [decide_eq_true rfl]
              have hB11 := hB10.trans (hb11.mono hB10.size)
              go_wp2_with fail
              refine hK.out _ _ ?s3_7_6 (fun hS => ?_)
              case s3_7_6 => (exact hS)
              clear hK K
              (try simp only [Act.put, List.setIfInBounds_toArray, List.set_cons_zero, List.set_cons_succ])
              refine wpAnyH_take (i := 7) (oi := ?o3_7_8) (v := ?v3_7_8) ?i3_7_8 (by kernel_rfl) (by kernel_rfl) (by kernel_rfl) (fun _ _ _ h => h) (Or.inl ⟨?g3_7_8, ?y3_7_8⟩) hS ?_
              case i3_7_8 => simp only [List.getElem?_toArray, List.getElem?_cons_succ, List.getElem?_cons_zero]; rfl
              case g3_7_8 => rfl
              case y3_7_8 => (intro w hSw; (go_simp <;> with_reducible rfl))
              (try simp only [Act.put, List.setIfInBounds_toArray, List.set_cons_zero, List.set_cons_succ])
              refine wpAnyH_take (i := 8) (oi := ?o3_8_9) (v := ?v3_8_9) ?i3_8_9 (by kernel_rfl) (by kernel_rfl) (by kernel_rfl) (fun _ _ _ h => h) (Or.inl ⟨?g3_8_9, ?y3_8_9⟩) hS ?_
              case i3_8_9 => simp only [List.getElem?_toArray, List.getElem?_cons_succ, List.getElem?_cons_zero]; rfl
              case g3_8_9 => rfl
              case y3_8_9 => (intro w hSw; (go_simp <;> with_reducible rfl))
              (try simp only [Act.put, List.setIfInBounds_toArray, List.set_cons_zero, List.set_cons_succ])
              refine wpAnyH_take (i := 9) (oi := ?o3_9_10) (v := ?v3_9_10) ?i3_9_10 (by kernel_rfl) (by kernel_rfl) (by kernel_rfl) (fun _ _ _ h => h) (Or.inl ⟨?g3_9_10, ?y3_9_10⟩) hS ?_
              case i3_9_10 => simp only [List.getElem?_toArray, List.getElem?_cons_succ, List.getElem?_cons_zero]; rfl
              case g3_9_10 => rfl
              case y3_9_10 => (intro w hSw; (go_simp <;> with_reducible rfl))
              (try simp only [Act.put, List.setIfInBounds_toArray, List.set_cons_zero, List.set_cons_succ])
              refine wpAnyH_take (i := 10) (oi := ?o3_10_11) (v := ?v3_10_11) ?i3_10_11 (by kernel_rfl) (by kernel_rfl) (by kernel_rfl) (fun _ _ _ h => h) (Or.inl ⟨?g3_10_11, ?y3_10_11⟩) hS ?_
              case i3_10_11 => simp only [List.getElem?_toArray, List.getElem?_cons_succ, List.getElem?_cons_zero]; rfl
              case g3_10_11 => rfl
              case y3_10_11 => (intro w hSw; (go_simp <;> with_reducible rfl))
              (try simp only [Act.put, List.setIfInBounds_toArray, List.set_cons_zero, List.set_cons_succ])
              refine wpAnyH_take (i := 11) (oi := ?o3_11_12) (v := ?v3_11_12) ?i3_11_12 (by kernel_rfl) (by kernel_rfl) (by kernel_rfl) (fun _ _ _ h => h) (Or.inl ⟨?g3_11_12, ?y3_11_12⟩) hS ?_
              case i3_11_12 => simp only [List.getElem?_toArray, List.getElem?_cons_succ, List.getElem?_cons_zero]; rfl
              case g3_11_12 => rfl
              case y3_11_12 => (intro w hSw; (go_simp <;> with_reducible rfl))
              (try simp only [Act.put, List.setIfInBounds_toArray, List.set_cons_zero, List.set_cons_succ])
              refine wpAnyH_take (i := 12) (oi := ?o3_12_13) (v := ?v3_12_13) ?i3_12_13 (by kernel_rfl) (by kernel_rfl) (by kernel_rfl) (fun _ _ _ h => h) (Or.inl ⟨?g3_12_13, ?y3_12_13⟩) hS ?_
              case i3_12_13 => simp only [List.getElem?_toArray, List.getElem?_cons_succ, List.getElem?_cons_zero]; rfl
              case g3_12_13 => rfl
              case y3_12_13 => (intro w hSw; (go_simp <;> with_reducible rfl))
              (try simp only [Act.put, List.setIfInBounds_toArray, List.set_cons_zero, List.set_cons_succ])
              refine wpAnyH_take (i := 13) (oi := ?o3_13_14) (v := ?v3_13_14) ?i3_13_14 (by kernel_rfl) (by kernel_rfl) (by kernel_rfl) (fun _ _ _ h => h) (Or.inl ⟨?g3_13_14, ?y3_13_14⟩) hS ?_
              case i3_13_14 => simp only [List.getElem?_toArray, List.getElem?_cons_succ, List.getElem?_cons_zero]; rfl
              case g3_13_14 => rfl
              case y3_13_14 => (intro w hSw; (go_simp <;> with_reducible rfl))
              (try simp only [Act.put, List.setIfInBounds_toArray, List.set_cons_zero, List.set_cons_succ])
              refine wpAnyH_take (i := 14) (oi := ?o3_14_15) (v := ?v3_14_15) ?i3_14_15 (by kernel_rfl) (by kernel_rfl) (by kernel_rfl) (fun _ _ _ h => h) (Or.inl ⟨?g3_14_15, ?y3_14_15⟩) hS ?_
              case i3_14_15 => simp only [List.getElem?_toArray, List.getElem?_cons_succ, List.getElem?_cons_zero]; rfl
              case g3_14_15 => rfl
              case y3_14_15 => (intro w hSw; (go_simp <;> with_reducible rfl))
              (try simp only [Act.put, List.setIfInBounds_toArray, List.set_cons_zero, List.set_cons_succ])
              refine wpAnyH_take (i := 15) (oi := ?o3_15_16) (v := ?v3_15_16) ?i3_15_16 (by kernel_rfl) (by kernel_rfl) (by kernel_rfl) (fun _ _ _ h => h) (Or.inl ⟨?g3_15_16, ?y3_15_16⟩) hS ?_
              case i3_15_16 => simp only [List.getElem?_toArray, List.getElem?_cons_succ, List.getElem?_cons_zero]; rfl
              case g3_15_16 => rfl
              case y3_15_16 => (intro w hSw; (go_simp <;> with_reducible rfl))
              (try simp only [Act.put, List.setIfInBounds_toArray, List.set_cons_zero, List.set_cons_succ])
              refine wpAnyH_take (i := 16) (oi := ?o3_16_17) (v := ?v3_16_17) ?i3_16_17 (by kernel_rfl) (by kernel_rfl) (by kernel_rfl) (fun _ _ _ h => h) (Or.inl ⟨?g3_16_17, ?y3_16_17⟩) hS ?_
              case i3_16_17 => simp only [List.getElem?_toArray, List.getElem?_cons_succ, List.getElem?_cons_zero]; rfl
              case g3_16_17 => rfl
              case y3_16_17 => (intro w hSw; (go_simp <;> with_reducible rfl))
              (try simp only [Act.put, List.setIfInBounds_toArray, List.set_cons_zero, List.set_cons_succ])
              refine wpAnyH_take (i := 17) (oi := ?o3_17_18) (v := ?v3_17_18) ?i3_17_18 (by kernel_rfl) (by kernel_rfl) (by kernel_rfl) (fun _ _ _ h => h) (Or.inl ⟨?g3_17_18, ?y3_17_18⟩) hS ?_
              case i3_17_18 => simp only [List.getElem?_toArray, List.getElem?_cons_succ, List.getElem?_cons_zero]; rfl
              case g3_17_18 => rfl
              case y3_17_18 => (intro w hSw; (go_simp <;> with_reducible rfl))
              (try simp only [Act.put, List.setIfInBounds_toArray, List.set_cons_zero, List.set_cons_succ])
              refine wpAnyH_take (i := 18) (oi := ?o3_18_19) (v := ?v3_18_19) ?i3_18_19 (by kernel_rfl) (by kernel_rfl) (by kernel_rfl) (fun _ _ _ h => h) (Or.inl ⟨?g3_18_19, ?y3_18_19⟩) hS ?_
              case i3_18_19 => simp only [List.getElem?_toArray, List.getElem?_cons_succ, List.getElem?_cons_zero]; rfl
              case g3_18_19 => rfl
              case y3_18_19 => (intro w hSw; (go_simp <;> with_reducible rfl))
              (try simp only [Act.put, List.setIfInBounds_toArray, List.set_cons_zero, List.set_cons_succ])
              refine wpAnyH_take (i := 19) (oi := ?o3_19_20) (v := ?v3_19_20) ?i3_19_20 (by kernel_rfl) (by kernel_rfl) (by kernel_rfl) (fun _ _ _ h => h) (Or.inl ⟨?g3_19_20, ?y3_19_20⟩) hS ?_
              case i3_19_20 => simp only [List.getElem?_toArray, List.getElem?_cons_succ, List.getElem?_cons_zero]; rfl
              case g3_19_20 => rfl
              case y3_19_20 => (intro w hSw; (go_simp <;> with_reducible rfl))
              (try simp only [Act.put, List.setIfInBounds_toArray, List.set_cons_zero, List.set_cons_succ])
              refine wpAnyH_take (i := 20) (oi := ?o3_20_21) (v := ?v3_20_21) ?i3_20_21 (by kernel_rfl) (by kernel_rfl) (by kernel_rfl) (fun _ _ _ h => h) (Or.inl ⟨?g3_20_21, ?y3_20_21⟩) hS ?_
              case i3_20_21 => simp only [List.getElem?_toArray, List.getElem?_cons_succ, List.getElem?_cons_zero]; rfl
              case g3_20_21 => rfl
              case y3_20_21 => (intro w hSw; (go_simp <;> with_reducible rfl))
              (try simp only [Act.put, List.setIfInBounds_toArray, List.set_cons_zero, List.set_cons_succ])
              refine wpAnyH_take (i := 21) (oi := ?o3_21_22) (v := ?v3_21_22) ?i3_21_22 (by kernel_rfl) (by kernel_rfl) (by kernel_rfl) (fun _ _ _ h => h) (Or.inl ⟨?g3_21_22, ?y3_21_22⟩) hS ?_
              case i3_21_22 => simp only [List.getElem?_toArray, List.getElem?_cons_succ, List.getElem?_cons_zero]; rfl
              case g3_21_22 => rfl
              case y3_21_22 => (intro w hSw; (go_simp <;> with_reducible rfl))
              (try simp only [Act.put, List.setIfInBounds_toArray, List.set_cons_zero, List.set_cons_succ])
              refine wpAnyH_take (i := 22) (oi := ?o3_22_23) (v := ?v3_22_23) ?i3_22_23 (by kernel_rfl) (by kernel_rfl) (by kernel_rfl) (fun _ _ _ h => h) (Or.inl ⟨?g3_22_23, ?y3_22_23⟩) hS ?_
              case i3_22_23 => simp only [List.getElem?_toArray, List.getElem?_cons_succ, List.getElem?_cons_zero]; rfl
              case g3_22_23 => rfl
              case y3_22_23 => (intro w hSw; (go_simp <;> with_reducible rfl))
              (try simp only [Act.put, List.setIfInBounds_toArray, List.set_cons_zero, List.set_cons_succ])
              refine wpAnyH_take (i := 23) (oi := ?o3_23_24) (v := ?v3_23_24) ?i3_23_24 (by kernel_rfl) (by kernel_rfl) (by kernel_rfl) (fun _ _ _ h => h) (Or.inl ⟨?g3_23_24, ?y3_23_24⟩) hS ?_
              case i3_23_24 => simp only [List.getElem?_toArray, List.getElem?_cons_succ, List.getElem?_cons_zero]; rfl
              case g3_23_24 => rfl
              case y3_23_24 => (intro w hSw; (go_simp <;> with_reducible rfl))
              (try simp only [Act.put, List.setIfInBounds_toArray, List.set_cons_zero, List.set_cons_succ])
              refine wpAnyH_take (i := 24) (oi := ?o3_24_25) (v := undef) ?i3_24_25 (by kernel_rfl) (by kernel_rfl) (by kernel_rfl) (fun _ _ _ h => h) (Or.inr ⟨?g3_24_25, rfl⟩) hS ?_
              case i3_24_25 => simp only [List.getElem?_toArray, List.getElem?_cons_succ, List.getElem?_cons_zero]; rfl
              case g3_24_25 => rfl
              (try simp only [Act.put, List.setIfInBounds_toArray, List.set_cons_zero, List.set_cons_succ])
              refine wpAnyH_take (i := 25) (oi := ?o3_25_26) (v := undef) ?i3_25_26 (by kernel_rfl) (by kernel_rfl) (by kernel_rfl) (fun _ _ _ h => h) (Or.inr ⟨?g3_25_26, rfl⟩) hS ?_
              case i3_25_26 => simp only [List.getElem?_toArray, List.getElem?_cons_succ, List.getElem?_cons_zero]; rfl
              case g3_25_26 => rfl
              (try simp only [Act.put, List.setIfInBounds_toArray, List.set_cons_zero, List.set_cons_succ])
              refine wpAnyH_take (i := 26) (oi := ?o3_26_27) (v := ?v3_26_27) ?i3_26_27 (by kernel_rfl) (by kernel_rfl) (by kernel_rfl) (fun _ _ _ h => h) (Or.inl ⟨?g3_26_27, ?y3_26_27⟩) hS ?_
              case i3_26_27 => simp only [List.getElem?_toArray, List.getElem?_cons_succ, List.getElem?_cons_zero]; rfl
              case g3_26_27 => rfl
              case y3_26_27 => (intro w hSw; (go_simp <;> with_reducible rfl))
              (try simp only [Act.put, List.setIfInBounds_toArray, List.set_cons_zero, List.set_cons_succ])
              refine wpAnyH_take (i := 27) (oi := ?o3_27_28) (v := ?v3_27_28) ?i3_27_28 (by kernel_rfl) (by kernel_rfl) (by kernel_rfl) (fun _ _ _ h => h) (Or.inl ⟨?g3_27_28, ?y3_27_28⟩) hS ?_
              case i3_27_28 => simp only [List.getElem?_toArray, List.getElem?_cons_succ, List.getElem?_cons_zero]; rfl
              case g3_27_28 => rfl
              case y3_27_28 => (intro w hSw; (go_simp <;> with_reducible rfl))
              (try simp only [Act.put, List.setIfInBounds_toArray, List.set_cons_zero, List.set_cons_succ])
              refine wpAnyH_take (i := 28) (oi := ?o3_28_29) (v := ?v3_28_29) ?i3_28_29 (by kernel_rfl) (by kernel_rfl) (by kernel_rfl) (fun _ _ _ h => h) (Or.inl ⟨?g3_28_29, ?y3_28_29⟩) hS ?_
              case i3_28_29 => simp only [List.getElem?_toArray, List.getElem?_cons_succ, List.getElem?_cons_zero]; rfl
              case g3_28_29 => rfl
              case y3_28_29 => (intro w hSw; (go_simp <;> with_reducible rfl))
              (try simp only [Act.put, List.setIfInBounds_toArray, List.set_cons_zero, List.set_cons_succ])
              refine wpAnyH_done (by kernel_rfl) ?_ _
              refine NoPanic.normal ?_
              go_wp2
              go_ret
              exact ⟨rfl, hB11⟩
            · have eb : ((E : Int) == (k : Int)) = false := beq_eq_false_iff_ne.2 (by omega)
              rw [if_neg hEq]
              clear hEq
              go_wp2_with fail
              refine wp_region_noPanic ?_
              refine wp_region_held_drew (S := fun _ => True) (by kernel_rfl) trivial (fun hS => ?_)
              refine wpAnyH_take (i := 0) (oi := ?o4_0_1) (v := ?v4_0_1) ?i4_0_1 (by kernel_rfl) (by kernel_rfl) (by kernel_rfl) (fun _ _ _ h => h) (Or.inl ⟨?g4_0_1, ?y4_0_1⟩) hS ?_
              case i4_0_1 => simp only [List.getElem?_toArray, List.getElem?_cons_succ, List.getElem?_cons_zero]; rfl
              case g4_0_1 => rfl
              case y4_0_1 => (intro w hSw; (go_simp <;> with_reducible rfl))
              (try simp only [Act.put, List.setIfInBounds_toArray, List.set_cons_zero, List.set_cons_succ])
              refine wpAnyH_take (i := 2) (oi := ?o4_2_2) (v := ?v4_2_2) ?i4_2_2 (by kernel_rfl) (by kernel_rfl) (by kernel_rfl) (fun _ _ _ h => h) (Or.inl ⟨?g4_2_2, ?y4_2_2⟩) hS ?_
              case i4_2_2 => simp only [List.getElem?_toArray, List.getElem?_cons_succ, List.getElem?_cons_zero]; rfl
              case g4_2_2 => rfl
              case y4_2_2 => (intro w hSw; (go_simp <;> with_reducible rfl))
              (try simp only [Act.put, List.setIfInBounds_toArray, List.set_cons_zero, List.set_cons_succ])
              refine wpAnyH_take (i := 3) (oi := ?o4_3_3) (v := ?v4_3_3) ?i4_3_3 (by kernel_rfl) (by kernel_rfl) (by kernel_rfl) (fun _ _ _ h => h) (Or.inl ⟨?g4_3_3, ?y4_3_3⟩) hS ?_
              case i4_3_3 => simp only [List.getElem?_toArray, List.getElem?_cons_succ, List.getElem?_cons_zero]; rfl
              case g4_3_3 => rfl
              case y4_3_3 => (intro w hSw; (go_simp <;> with_reducible rfl))
              (try simp only [Act.put, List.setIfInBounds_toArray, List.set_cons_zero, List.set_cons_succ])
              refine wpAnyH_take (i := 4) (oi := ?o4_4_4) (v := ?v4_4_4) ?i4_4_4 (by kernel_rfl) (by kernel_rfl) (by kernel_rfl) (fun _ _ _ h => h) (Or.inl ⟨?g4_4_4, ?y4_4_4⟩) hS ?_
              case i4_4_4 => simp only [List.getElem?_toArray, List.getElem?_cons_succ, List.getElem?_cons_zero]; rfl
              case g4_4_4 => rfl
              case y4_4_4 => (intro w hSw; (go_simp <;> with_reducible rfl))
              (try simp only [Act.put, List.setIfInBounds_toArray, List.set_cons_zero, List.set_cons_succ])
              refine wpAnyH_ready (rs := [1]) (by kernel_rfl) (by simp) ?_
              refine (AllReadyH.cons (o := ?o4_5_1) ?i4_5_1 (fun K hK => ?st4_5_1) AllReadyH.nil)
              case i4_5_1 => simp only [List.getElem?_toArray, List.getElem?_cons_succ, List.getElem?_cons_zero]; rfl
              rw [if_pos (by rfl)]
              go_simp
              refine (texts_any (ls.take ls.length) _ _ _ hx8 (by omega)).mono ?_
              rintro r w9 ⟨v9, d9, rfl, hv9, hb9⟩
              have hr9 := hr8.below hb9
              have hB9 := hB8.trans (hb9.mono hB8.size)
              go_wp2_with fail
              refine hK.out _ _ ?s4_5_1 (fun hS => ?_)
              case s4_5_1 => (exact hS)
              clear hK K
              (try simp only [Act.put, List.setIfInBounds_toArray, List.set_cons_zero, List.set_cons_succ])
              refine wpAnyH_ready (rs := [5]) (by kernel_rfl) (by simp) ?_
              refine (AllReadyH.cons (o := ?o4_6_5) ?i4_6_5 (fun K hK => ?st4_6_5) AllReadyH.nil)
              case i4_6_5 => simp only [List.getElem?_toArray, List.getElem?_cons_succ, List.getElem?_cons_zero]; rfl
              rw [if_pos (by rfl)]
              go_simp
              refine (texts_any (ls.take ls.length) _ _ _ (hr9.take hjn) (by omega)).mono ?_
              rintro r w10 ⟨v10, d10, rfl, hv10, hb10⟩
              have hv9' := hv9.below' hb10
              have hB10 := hB9.trans (hb10.mono hB9.size)
              go_wp2_with fail
              refine hK.out _ _ ?s4_6_5 (fun hS => ?_)
              case s4_6_5 => (exact hS)
              clear hK K
              (try simp only [Act.put, List.setIfInBounds_toArray, List.set_cons_zero, List.set_cons_succ])
              refine wpAnyH_ready (rs := [6]) (by kernel_rfl) (by simp) ?_
              refine (AllReadyH.cons (o := ?o4_7_6) ?i4_7_6 (fun K hK => ?st4_7_6) AllReadyH.nil)
              case i4_7_6 => simp only [List.getElem?_toArray, List.getElem?_cons_succ, List.getElem?_cons_zero]; rfl
              rw [if_pos (by rfl)]
              go_simp
              refine (rsame4_any (ls.take ls.length) (ls.take ls.length) _ _ _ _ _ hv9' hv10 (by omega)).mono ?_
              rintro r w11 ⟨rfl, hb11⟩
              rw [decide_eq_true rfl]
              have hB11 := hB10.trans (hb11.mono hB10.size)
              go_wp2_with fail
              refine hK.out _ _ ?s4_7_6 (fun hS => ?_)
              case s4_7_6 => (exact hS)
              clear hK K
              (try simp only [Act.put, List.setIfInBounds_toArray, List.set_cons_zero, List.set_cons_succ])
              refine wpAnyH_take (i := 7) (oi := ?o4_7_8) (v := ?v4_7_8) ?i4_7_8 (by kernel_rfl) (by kernel_rfl) (by kernel_rfl) (fun _ _ _ h => h) (Or.inl ⟨?g4_7_8, ?y4_7_8⟩) hS ?_
              case i4_7_8 => simp only [List.getElem?_toArray, List.getElem?_cons_succ, List.getElem?_cons_zero]; rfl
              case g4_7_8 => rfl
              case y4_7_8 => (intro w hSw; (go_simp <;> with_reducible rfl))
              (try simp only [Act.put, List.setIfInBounds_toArray, List.set_cons_zero, List.set_cons_succ])
              refine wpAnyH_take (i := 8) (oi := ?o4_8_9) (v := ?v4_8_9) ?i4_8_9 (by kernel_rfl) (by kernel_rfl) (by kernel_rfl) (fun _ _ _ h => h) (Or.inl ⟨?g4_8_9, ?y4_8_9⟩) hS ?_
              case i4_8_9 => simp only [List.getElem?_toArray, List.getElem?_cons_succ, List.getElem?_cons_zero]; rfl
              case g4_8_9 => rfl
              case y4_8_9 => (intro w hSw; (go_simp <;> with_reducible rfl))
              (try simp only [Act.put, List.setIfInBounds_toArray, List.set_cons_zero, List.set_cons_succ])
              refine wpAnyH_take (i := 9) (oi := ?o4_9_10) (v := ?v4_9_10) ?i4_9_10 (by kernel_rfl) (by kernel_rfl) (by kernel_rfl) (fun _ _ _ h => h) (Or.inl ⟨?g4_9_10, ?y4_9_10⟩) hS ?_
              case i4_9_10 => simp only [List.getElem?_toArray, List.getElem?_cons_succ, List.getElem?_cons_zero]; rfl
              case g4_9_10 => rfl
              case y4_9_10 => (intro w hSw; (go_simp <;> with_reducible rfl))
              (try simp only [Act.put, List.setIfInBounds_toArray, List.set_cons_zero, List.set_cons_succ])
              refine wpAnyH_take (i := 10) (oi := ?o4_10_11) (v := ?v4_10_11) ?i4_10_11 (by kernel_rfl) (by kernel_rfl) (by kernel_rfl) (fun _ _ _ h => h) (Or.inl ⟨?g4_10_11, ?y4_10_11⟩) hS ?_
              case i4_10_11 => simp only [List.getElem?_toArray, List.getElem?_cons_succ, List.getElem?_cons_zero]; rfl
              case g4_10_11 => rfl
              case y4_10_11 => (intro w hSw; (go_simp <;> with_reducible rfl))
              (try simp only [Act.put, List.setIfInBounds_toArray, List.set_cons_zero, List.set_cons_succ])
              refine wpAnyH_take (i := 11) (oi := ?o4_11_12) (v := ?v4_11_12) ?i4_11_12 (by kernel_rfl) (by kernel_rfl) (by kernel_rfl) (fun _ _ _ h => h) (Or.inl ⟨?g4_11_12, ?y4_11_12⟩) hS ?_
              case i4_11_12 => simp only [List.getElem?_toArray, List.getElem?_cons_succ, List.getElem?_cons_zero]; rfl
              case g4_11_12 => rfl
              case y4_11_12 => (intro w hSw; (go_simp <;> with_reducible rfl))
              (try simp only [Act.put, List.setIfInBounds_toArray, List.set_cons_zero, List.set_cons_succ])
              refine wpAnyH_take (i := 12) (oi := ?o4_12_13) (v := ?v4_12_13) ?i4_12_13 (by kernel_rfl) (by kernel_rfl) (by kernel_rfl) (fun _ _ _ h => h) (Or.inl ⟨?g4_12_13, ?y4_12_13⟩) hS ?_
              case i4_12_13 => simp only [List.getElem?_toArray, List.getElem?_cons_succ, List.getElem?_cons_zero]; rfl
              case g4_12_13 => rfl
              case y4_12_13 => (intro w hSw; (go_simp <;> with_reducible rfl))
              (try simp only [Act.put, List.setIfInBounds_toArray, List.set_cons_zero, List.set_cons_succ])
              refine wpAnyH_take (i := 13) (oi := ?o4_13_14) (v := ?v4_13_14) ?i4_13_14 (by kernel_rfl) (by kernel_rfl) (by kernel_rfl) (fun _ _ _ h => h) (Or.inl ⟨?g4_13_14, ?y4_13_14⟩) hS ?_
              case i4_13_14 => simp only [List.getElem?_toArray, List.getElem?_cons_succ, List.getElem?_cons_zero]; rfl
              case g4_13_14 => rfl
              case y4_13_14 => (intro w hSw; (go_simp <;> with_reducible rfl))
              (try simp only [Act.put, List.setIfInBounds_toArray, List.set_cons_zero, List.set_cons_succ])
              refine wpAnyH_take (i := 14) (oi := ?o4_14_15) (v := ?v4_14_15) ?i4_14_15 (by kernel_rfl) (by kernel_rfl) (by kernel_rfl) (fun _ _ _ h => h) (Or.inl ⟨?g4_14_15, ?y4_14_15⟩) hS ?_
              case i4_14_15 => simp only [List.getElem?_toArray, List.getElem?_cons_succ, List.getElem?_cons_zero]; rfl
              case g4_14_15 => rfl
              case y4_14_15 => (intro w hSw; (go_simp <;> with_reducible rfl))
              (try simp only [Act.put, List.setIfInBounds_toArray, List.set_cons_zero, List.set_cons_succ])
              refine wpAnyH_take (i := 15) (oi := ?o4_15_16) (v := ?v4_15_16) ?i4_15_16 (by kernel_rfl) (by kernel_rfl) (by kernel_rfl) (fun _ _ _ h => h) (Or.inl ⟨?g4_15_16, ?y4_15_16⟩) hS ?_
              case i4_15_16 => simp only [List.getElem?_toArray, List.getElem?_cons_succ, List.getElem?_cons_zero]; rfl
              case g4_15_16 => rfl
              case y4_15_16 => (intro w hSw; (go_simp <;> with_reducible rfl))
              (try simp only [Act.put, List.setIfInBounds_toArray, List.set_cons_zero, List.set_cons_succ])
              refine wpAnyH_take (i := 16) (oi := ?o4_16_17) (v := ?v4_16_17) ?i4_16_17 (by kernel_rfl) (by kernel_rfl) (by kernel_rfl) (fun _ _ _ h => h) (Or.inl ⟨?g4_16_17, ?y4_16_17⟩) hS ?_
              case i4_16_17 => simp only [List.getElem?_toArray, List.getElem?_cons_succ, List.getElem?_cons_zero]; rfl
              case g4_16_17 => rfl
              case y4_16_17 => (intro w hSw; (go_simp <;> with_reducible rfl))
              (try simp only [Act.put, List.setIfInBounds_toArray, List.set_cons_zero, List.set_cons_succ])
              refine wpAnyH_take (i := 17) (oi := ?o4_17_18) (v := ?v4_17_18) ?i4_17_18 (by kernel_rfl) (by kernel_rfl) (by kernel_rfl) (fun _ _ _ h => h) (Or.inl ⟨?g4_17_18, ?y4_17_18⟩) hS ?_
              case i4_17_18 => simp only [List.getElem?_toArray, List.getElem?_cons_succ, List.getElem?_cons_zero]; rfl
              case g4_17_18 => rfl
              case y4_17_18 => (intro w hSw; (go_simp <;> with_reducible rfl))
              (try simp only [Act.put, List.setIfInBounds_toArray, List.set_cons_zero, List.set_cons_succ])
              refine wpAnyH_take (i := 18) (oi := ?o4_18_19) (v := ?v4_18_19) ?i4_18_19 (by kernel_rfl) (by kernel_rfl) (by kernel_rfl) (fun _ _ _ h => h) (Or.inl ⟨?g4_18_19, ?y4_18_19⟩) hS ?_
              case i4_18_19 => simp only [List.getElem?_toArray, List.getElem?_cons_succ, List.getElem?_cons_zero]; rfl
              case g4_18_19 => rfl
              case y4_18_19 => (intro w hSw; (go_simp <;> with_reducible rfl))
              (try simp only [Act.put, List.setIfInBounds_toArray, List.set_cons_zero, List.set_cons_succ])
              refine wpAnyH_take (i := 19) (oi := ?o4_19_20) (v := ?v4_19_20) ?i4_19_20 (by kernel_rfl) (by kernel_rfl) (by kernel_rfl) (fun _ _ _ h => h) (Or.inl ⟨?g4_19_20, ?y4_19_20⟩) hS ?_
              case i4_19_20 => simp only [List.getElem?_toArray, List.getElem?_cons_succ, List.getElem?_cons_zero]; rfl
              case g4_19_20 => rfl
              case y4_19_20 => (intro w hSw; (go_simp <;> with_reducible rfl))
              (try simp only [Act.put, List.setIfInBounds_toArray, List.set_cons_zero, List.set_cons_succ])
              refine wpAnyH_take (i := 20) (oi := ?o4_20_21) (v := ?v4_20_21) ?i4_20_21 (by kernel_rfl) (by kernel_rfl) (by kernel_rfl) (fun _ _ _ h => h) (Or.inl ⟨?g4_20_21, ?y4_20_21⟩) hS ?_
              case i4_20_21 => simp only [List.getElem?_toArray, List.getElem?_cons_succ, List.getElem?_cons_zero]; rfl
              case g4_20_21 => rfl
              case y4_20_21 => (intro w hSw; (go_simp <;> with_reducible rfl))
              (try simp only [Act.put, List.setIfInBounds_toArray, List.set_cons_zero, List.set_cons_succ])
              refine wpAnyH_take (i := 21) (oi := ?o4_21_22) (v := ?v4_21_22) ?i4_21_22 (by kernel_rfl) (by kernel_rfl) (by kernel_rfl) (fun _ _ _ h => h) (Or.inl ⟨?g4_21_22, ?y4_21_22⟩) hS ?_
              case i4_21_22 => simp only [List.getElem?_toArray, List.getElem?_cons_succ, List.getElem?_cons_zero]; rfl
              case g4_21_22 => rfl
              case y4_21_22 => (intro w hSw; (go_simp <;> with_reducible rfl))
              (try simp only [Act.put, List.setIfInBounds_toArray, List.set_cons_zero, List.set_cons_succ])
              refine wpAnyH_take (i := 22) (oi := ?o4_22_23) (v := ?v4_22_23) ?i4_22_23 (by kernel_rfl) (by kernel_rfl) (by kernel_rfl) (fun _ _ _ h => h) (Or.inl ⟨?g4_22_23, ?y4_22_23⟩) hS ?_
              case i4_22_23 => simp only [List.getElem?_toArray, List.getElem?_cons_succ, List.getElem?_cons_zero]; rfl
              case g4_22_23 => rfl
              case y4_22_23 => (intro w hSw; (go_simp <;> with_reducible rfl))
              (try simp only [Act.put, List.setIfInBounds_toArray, List.set_cons_zero, List.set_cons_succ])
              refine wpAnyH_take (i := 23) (oi := ?o4_23_24) (v := ?v4_23_24) ?i4_23_24 (by kernel_rfl) (by kernel_rfl) (by kernel_rfl) (fun _ _ _ h => h) (Or.inl ⟨?g4_23_24, ?y4_23_24⟩) hS ?_
              case i4_23_24 => simp only [List.getElem?_toArray, List.getElem?_cons_succ, List.getElem?_cons_zero]; rfl
              case g4_23_24 => rfl
              case y4_23_24 => (intro w hSw; (go_simp <;> with_reducible rfl))
              (try simp only [Act.put, List.setIfInBounds_toArray, List.set_cons_zero, List.set_cons_succ])
              refine wpAnyH_take (i := 24) (oi := ?o4_24_25) (v := ?v4_24_25) ?i4_24_25 (by kernel_rfl) (by kernel_rfl) (by kernel_rfl) (fun _ _ _ h => h) (Or.inl ⟨?g4_24_25, ?y4_24_25⟩) hS ?_
              case i4_24_25 => simp only [List.getElem?_toArray, List.getElem?_cons_succ, List.getElem?_cons_zero]; rfl
              case g4_24_25 => rfl
              case y4_24_25 => (intro w hSw; (go_simp <;> with_reducible rfl))
              (try simp only [Act.put, List.setIfInBounds_toArray, List.set_cons_zero, List.set_cons_succ])
              refine wpAnyH_take (i := 25) (oi := ?o4_25_26) (v := ?v4_25_26) ?i4_25_26 (by kernel_rfl) (by kernel_rfl) (by kernel_rfl) (fun _ _ _ h => h) (Or.inl ⟨?g4_25_26, ?y4_25_26⟩) hS ?_
              case i4_25_26 => simp only [List.getElem?_toArray, List.getElem?_cons_succ, List.getElem?_cons_zero]; rfl
              case g4_25_26 => rfl
              case y4_25_26 => (intro w hSw; (go_simp <;> with_reducible rfl))
              (try simp only [Act.put, List.setIfInBounds_toArray, List.set_cons_zero, List.set_cons_succ])
              refine wpAnyH_take (i := 26) (oi := ?o4_26_27) (v := ?v4_26_27) ?i4_26_27 (by kernel_rfl) (by kernel_rfl) (by kernel_rfl) (fun _ _ _ h => h) (Or.inl ⟨?g4_26_27, ?y4_26_27⟩) hS ?_
              case i4_26_27 => simp only [List.getElem?_toArray, List.getElem?_cons_succ, List.getElem?_cons_zero]; rfl
              case g4_26_27 => rfl
              case y4_26_27 => (intro w hSw; (go_simp <;> with_reducible rfl))
              (try simp only [Act.put, List.setIfInBounds_toArray, List.set_cons_zero, List.set_cons_succ])
              refine wpAnyH_take (i := 27) (oi := ?o4_27_28) (v := ?v4_27_28) ?i4_27_28 (by kernel_rfl) (by kernel_rfl) (by kernel_rfl) (fun _ _ _ h => h) (Or.inl ⟨?g4_27_28, ?y4_27_28⟩) hS ?_
              case i4_27_28 => simp only [List.getElem?_toArray, List.getElem?_cons_succ, List.getElem?_cons_zero]; rfl
              case g4_27_28 => rfl
              case y4_27_28 => (intro w hSw; (go_simp <;> with_reducible rfl))
              (try simp only [Act.put, List.setIfInBounds_toArray, List.set_cons_zero, List.set_cons_succ])
              refine wpAnyH_take (i := 28) (oi := ?o4_28_29) (v := ?v4_28_29) ?i4_28_29 (by kernel_rfl) (by kernel_rfl) (by kernel_rfl) (fun _ _ _ h => h) (Or.inl ⟨?g4_28_29, ?y4_28_29⟩) hS ?_
              case i4_28_29 => simp only [List.getElem?_toArray, List.getElem?_cons_succ, List.getElem?_cons_zero]; rfl
              case g4_28_29 => rfl
              case y4_28_29 => (intro w hSw; (go_simp <;> with_reducible rfl))
              (try simp only [Act.put, List.setIfInBounds_toArray, List.set_cons_zero, List.set_cons_succ])
              refine wpAnyH_done (by kernel_rfl) ?_ _
              refine NoPanic.normal ?_
              go_wp2
              go_ret
              exact ⟨rfl, hB11⟩

end Go.Proofs.YtepcaaejadeklaaDoor
