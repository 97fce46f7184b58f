/-
  Package lex: the characters of a text. No condition but those of each theorem.
-/
import Derived.Test.YtgpcbfjakgndlaaLexFnA
import Derived.Test.YtgpcbfjakgndlaaLexRefB
import Derived.Test.YtgpcbfjakgndlaaDrawn
namespace Go.Proofs.Ytgpcbfjakgndlaa
open Go.RowKit
set_option linter.unusedSimpArgs false

/-- Characters with their places, without the end. -/
def chsI : Ps → List It → List (Int × Ps)
  | _, [] => []
  | p, x :: l => (wc x, p) :: chsI (adv p x) l
theorem chsI_snoc (p : Ps) (l : List It) (x : It) : chsI p (l ++ [x]) = chsI p l ++ [(wc x, advs p l)] := by
  induction l generalizing p with
  | nil => rfl
  | cons y l ih => simp only [List.cons_append, chsI, ih]; rfl
theorem chs_eq (p : Ps) (l : List It) : chs p l = chsI p l ++ [(-1, advs p l)] := by
  induction l generalizing p with
  | nil => rfl
  | cons y l ih => simp only [chs, chsI, ih, List.cons_append]; rfl
theorem Try.infoC : (Try.prog.info? 75).map (fun i => (i.zero, i.size, i.bytes)) = some (some (.agg #[.int .i32 0, .int .i64 0, .int .i64 0]), 3, 24) := by kernel_rfl
theorem zeroC : (Value.agg #[.int .i32 0, .int .i64 0, .int .i64 0]).cells.size = 3 := by rfl
/-- What characters leaves. -/
def ChsP (s : List UInt8) (w : World) (r : Ending) (w' : World) : Prop := ∃ v, r = .returned v ∧ OwnK 75 3 w' (w.heap.size + 2) v ((cut s).length + 1) ((chs (1, 1) (cut s)).flatMap chC) ∧ Below w.heap.size w w'
set_option maxRecDepth 100000 in
set_option maxHeartbeats 2000000 in
theorem chars_any (s : List UInt8) (w : World) (hs : s.length ≤ 100000) : Calls Try.prog 27 #[.string (txt s)] w (ChsP s w) := by
  have hsz := txt_size s
  obtain ⟨A, hA⟩ : ∃ A, A = w.heap.size := ⟨_, rfl⟩
  have hblk0 := Blk.new w 26 #[.int .i64 1, .int .i64 1]
  have hit0 := World.iter_heap (w.alloc (.cells #[.int .i64 1, .int .i64 1] 26)) (txt s) 0
  have hb0 : Below w.heap.size w (((w.alloc (.cells #[.int .i64 1, .int .i64 1] 26))).iter (txt s) 0) := ((Below.refl _ w).alloc (Nat.le_refl _) _).alloc (by simp) _
  have hblk1 : Blk ((w.alloc (.cells #[.int .i64 1, .int .i64 1] 26)).iter (txt s) 0) w.heap.size 26 #[.int .i64 1, .int .i64 1] := Blk.alloc hblk0 _
  have hsA : (w.alloc (.cells #[.int .i64 1, .int .i64 1] 26)).heap.size = w.heap.size + 1 := by simp
  rw [hsA] at hit0
  clear hblk0 hsA
  go_enter Try.func27, Try.ntmps27
  go_wp2
  rw [← hA] at hit0 hb0 hblk1 ⊢
  have HA := Lib.hid hA
  clear hA
  go_loopw [3] (fun o wr => ∃ (its : List It) (pos : Nat), Hid (cut s = its ++ cut (s.drop pos)) ∧ pos ≤ s.length ∧ Blk wr A 26 #[.int .i64 ((advs (1, 1) its).1 : Int), .int .i64 ((advs (1, 1) its).2 : Int)] ∧
      OwnK 75 3 wr (A + 2) o its.length ((chsI (1, 1) its).flatMap chC) ∧ wr.heap[A + 1]? = some (.stringIter (txt s) pos) ∧ Below A w wr) (fun _ wr => s.length - wr.iterPos (A + 1))
  case atStart => exact ⟨[], 0, Lib.hid rfl, Nat.zero_le _, hblk1, OwnK.nil _ _ _ _, hit0, hb0⟩
  case round =>
    obtain ⟨its, pos, HC, hpos, hbk, hown, hit, hbel⟩ := hrel
    obtain ⟨ln, hln⟩ : ∃ ln, ln = (advs (1, 1) its).1 := ⟨_, rfl⟩
    obtain ⟨cl, hcl⟩ : ∃ cl, cl = (advs (1, 1) its).2 := ⟨_, rfl⟩
    rw [← hln, ← hcl] at hbk
    have hil : its.length ≤ 100000 := by
      have h1 := cut_len s
      have h2 := congrArg List.length HC.out
      rw [List.length_append] at h2
      omega
    have hbd := advs_bound (1, 1) its
    rw [← hln, ← hcl] at hbd
    have hl9 : ln ≤ 200000 := by omega
    have hc9 : cl ≤ 200000 := by simp at hbd; omega
    have hAW : A + 1 < wr.heap.size := (Array.getElem?_eq_some_iff.1 hit).1
    by_cases hlt : pos < s.length
    · have h0 : s.drop pos ≠ [] := by intro e; have := congrArg List.length e; rw [List.length_drop] at this; simp at this; omega
      have hnx : ∀ ty, (Instr.next (.pointer (some ⟨A + 1, 0, none⟩)) true ty).run Try.prog wr = _ := fun ty => Lib.run_next_any_at wr (A + 1) (txt s) pos ty hit (by rw [txt_size]; exact hlt)
      rw [dec_at s pos (by omega)] at hnx
      have hk := dc_know h0
      have hnl := nl_iff h0
      have hcc := cut_cons h0
      have hext : (txt s).extract pos s.length = txt (s.drop pos) := by rw [txt_extract, List.take_length]
      have DC : ∀ W, Hid (Calls Try.prog 33 #[.string (txt (s.drop pos)), .int .i32 ((dc (s.drop pos)).1 : Int)] W fun r w' => r = .returned (.int .i32 (wc (frC (s.drop pos)))) ∧ W = w') := fun W => Lib.hid (decoded_any (s.drop pos) h0 W)
      obtain ⟨R, hR⟩ : ∃ R, R = s.drop pos := ⟨_, rfl⟩
      rw [← hR] at hnx hk hnl hcc h0 hext DC
      obtain ⟨x, hx⟩ : ∃ x : It, x = frC R := ⟨_, rfl⟩
      rw [← hx] at DC
      obtain ⟨c, k, hdc⟩ : ∃ c k, dc R = (c, k) := ⟨_, _, rfl⟩
      have hx2 : x.1 = R.take k := by rw [hx]; unfold frC; rw [hdc]
      have hcc2 : cut R = x :: cut (R.drop k) := by rw [hcc, hx]; unfold frC; rw [hdc]
      rw [hdc] at hnx hk hnl DC
      simp only at hnx hk hnl DC
      obtain ⟨hk1, hk2, hc14, -, hk5⟩ := hk
      have hRl : R.length = s.length - pos := by rw [hR, List.length_drop]
      have HC2 : Hid (cut s = (its ++ [x]) ++ cut (s.drop (pos + k))) := Lib.hid (by
        rw [HC.out, ← hR, hcc2, hR, List.drop_drop, List.append_assoc]
        rfl)
      have hnlx : c = 10 ↔ x.1 = [10] := by rw [hx2]; exact hnl
      have hadv : advs (1, 1) (its ++ [x]) = adv (advs (1, 1) its) x := by rw [advs_app]; rfl
      obtain ⟨n, hn⟩ : ∃ n, n = wc x := ⟨_, rfl⟩
      rw [← hn] at DC
      have hcells : Hid ((chsI (1, 1) (its ++ [x])).flatMap chC = (chsI (1, 1) its).flatMap chC ++ [.int .i32 n, .int .i64 (ln : Int), .int .i64 (cl : Int)]) := Lib.hid (by
        rw [chsI_snoc, List.flatMap_append, hln, hcl, hn]; rfl)
      obtain ⟨W, hW⟩ : ∃ W, wr.iterAt (A + 1) (txt s) (pos + k) = W := ⟨_, rfl⟩
      have hit2 := Lib.iterAt_heap wr (A + 1) (txt s) pos (pos + k) hit
      have hbel2 := Lib.below_iterAt hbel (k := A + 1) (by omega) (txt s) (pos + k)
      have hown2 := hown.iterAt (b := A + 1) (by omega) (txt s) (pos + k)
      have hbk2 : Blk (wr.iterAt (A + 1) (txt s) (pos + k)) A 26 #[.int .i64 (ln : Int), .int .i64 (cl : Int)] := (Lib.iterAt_other wr (A + 1) A (txt s) (pos + k) (by omega)).trans hbk
      rw [hW] at hnx hit2 hbel2 hown2 hbk2
      have hAW2 : A + 1 < W.heap.size := (Array.getElem?_eq_some_iff.1 hit2).1
      have HX := Lib.hid hx2
      have HAD := Lib.hid hadv
      have DC2 := DC W.drew
      have hHIT := Lib.hid hit
      clear hbel hown hW hdc hcc hcc2 hx hadv hbk hnl hx2 DC hk5 hit hn
      have hone : ∀ u ∈ [Value.int .i32 n, .int .i64 (ln : Int), .int .i64 (cl : Int)], u.oneCell' = true := by
        intro u hu
        simp only [List.mem_cons, List.not_mem_nil, or_false] at hu
        rcases hu with rfl | rfl | rfl <;> rfl
      have hbA := (Below.refl W.drew.heap.size W.drew).alloc (Nat.le_refl _) (.cells #[.int .i32 n, .int .i64 (ln : Int), .int .i64 (cl : Int)] 75)
      have hblk := Blk.new W.drew 75 #[Value.int .i32 n, .int .i64 (ln : Int), .int .i64 (cl : Int)]
      have hownA := (OwnK.below hown2 (Below.refl _ W).drew).below hbA
      have hNA : A + 2 ≤ (W.drew.alloc (.cells #[.int .i32 n, .int .i64 (ln : Int), .int .i64 (cl : Int)] 75)).heap.size := by have := hbA.size; simp at *; omega
      have hit3 : (W.drew.alloc (.cells #[.int .i32 n, .int .i64 (ln : Int), .int .i64 (cl : Int)] 75)).heap[A + 1]? = some (.stringIter (txt s) (pos + k)) := (Below.heap_alloc W.drew _ (A + 1) hAW2).trans hit2
      have hbk3 : Blk (W.drew.alloc (.cells #[.int .i32 n, .int .i64 (ln : Int), .int .i64 (cl : Int)] 75)) A 26 #[.int .i64 (ln : Int), .int .i64 (cl : Int)] := Blk.below (Blk.below hbk2 (Below.refl (A + 1) W).drew (by omega)) hbA (show A < W.drew.heap.size by show A < W.heap.size; omega)
      have hbel3 : Below A w (W.drew.alloc (.cells #[.int .i32 n, .int .i64 (ln : Int), .int .i64 (cl : Int)] 75)) := hbel2.drew.alloc (show A ≤ W.heap.size by omega) _
      have i1 : (0 : Int) ≤ (pos : Int) := by omega
      have i2 : (pos : Int) ≤ (s.length : Int) := by omega
      have hbkd : Blk W.drew A 26 #[.int .i64 (ln : Int), .int .i64 (cl : Int)] := hbk2
      have HIT3 := Lib.hid hit3
      have HBEL3 := Lib.hid hbel3
      have HLN := Lib.hid hln
      have HCL := Lib.hid hcl
      have hpk : pos + k ≤ s.length := by omega
      clear hit2 hbel2 hown2 hbk2 hit3 hbel3 hR hln hcl hRl h0
      go_wp2_with fail
      refine wp_region_noPanic ?_
      refine wp_region_held_drew (S := fun _ => True) (by kernel_rfl) trivial (fun hS => ?_)
      refine wpAnyH_take (i := 0) (oi := ?o1_0_1) (v := ?v1_0_1) ?i1_0_1 (by kernel_rfl) (by kernel_rfl) (by kernel_rfl) (fun _ _ _ h => h) (Or.inl ⟨?g1_0_1, ?y1_0_1⟩) hS ?_
      case i1_0_1 => simp only [List.getElem?_toArray, List.getElem?_cons_succ, List.getElem?_cons_zero]; rfl
      case g1_0_1 => rfl
      case y1_0_1 => (intro w hSw; (go_simp <;> with_reducible rfl))
      (try simp only [Act.put, List.setIfInBounds_toArray, List.set_cons_zero, List.set_cons_succ])
      refine wpAnyH_take (i := 1) (oi := ?o1_1_2) (v := ?v1_1_2) ?i1_1_2 (by kernel_rfl) (by kernel_rfl) (by kernel_rfl) (fun _ _ _ h => h) (Or.inl ⟨?g1_1_2, ?y1_1_2⟩) hS ?_
      case i1_1_2 => simp only [List.getElem?_toArray, List.getElem?_cons_succ, List.getElem?_cons_zero]; rfl
      case g1_1_2 => rfl
      case y1_1_2 => (intro w hSw; (go_simp <;> with_reducible rfl))
      (try simp only [Act.put, List.setIfInBounds_toArray, List.set_cons_zero, List.set_cons_succ])
      refine wpAnyH_take (i := 2) (oi := ?o1_2_3) (v := ?v1_2_3) ?i1_2_3 (by kernel_rfl) (by kernel_rfl) (by kernel_rfl) (fun _ _ _ h => h) (Or.inl ⟨?g1_2_3, ?y1_2_3⟩) hS ?_
      case i1_2_3 => simp only [List.getElem?_toArray, List.getElem?_cons_succ, List.getElem?_cons_zero]; rfl
      case g1_2_3 => rfl
      case y1_2_3 => (intro w hSw; (go_simp <;> with_reducible rfl))
      (try simp only [Act.put, List.setIfInBounds_toArray, List.set_cons_zero, List.set_cons_succ])
      refine wpAnyH_take (i := 3) (oi := ?o1_3_4) (v := ?v1_3_4) ?i1_3_4 (by kernel_rfl) (by kernel_rfl) (by kernel_rfl) (fun _ _ _ h => h) (Or.inl ⟨?g1_3_4, ?y1_3_4⟩) hS ?_
      case i1_3_4 => simp only [List.getElem?_toArray, List.getElem?_cons_succ, List.getElem?_cons_zero]; rfl
      case g1_3_4 => rfl
      case y1_3_4 => (intro w hSw; (go_simp <;> with_reducible rfl))
      (try simp only [Act.put, List.setIfInBounds_toArray, List.set_cons_zero, List.set_cons_succ])
      refine wpAnyH_take (i := 4) (oi := ?o1_4_5) (v := ?v1_4_5) ?i1_4_5 (by kernel_rfl) (by kernel_rfl) (by kernel_rfl) (fun _ _ _ h => h) (Or.inl ⟨?g1_4_5, ?y1_4_5⟩) hS ?_
      case i1_4_5 => simp only [List.getElem?_toArray, List.getElem?_cons_succ, List.getElem?_cons_zero]; rfl
      case g1_4_5 => rfl
      case y1_4_5 => (intro w hSw; (go_simp <;> with_reducible rfl))
      (try simp only [Act.put, List.setIfInBounds_toArray, List.set_cons_zero, List.set_cons_succ])
      refine held_more (S' := fun w' => Blk w' A 26 #[.int .i64 (ln : Int), .int .i64 (cl : Int)]) (fun _ _ => trivial) _ _ _ _ ?_
      replace hS : Blk W.drew A 26 #[.int .i64 (ln : Int), .int .i64 (cl : Int)] := hbkd
      refine wpAnyH_take (i := 6) (oi := ?o1_6_6) (v := ?v1_6_6) ?i1_6_6 (by kernel_rfl) (by kernel_rfl) (by kernel_rfl) (fun _ _ _ h => h) (Or.inl ⟨?g1_6_6, ?y1_6_6⟩) hS ?_
      case i1_6_6 => simp only [List.getElem?_toArray, List.getElem?_cons_succ, List.getElem?_cons_zero]; rfl
      case g1_6_6 => rfl
      case y1_6_6 => (intro w hSw; have hc0 := Blk.cell hSw 0; have hc1 := Blk.cell hSw 1; (go_simp <;> with_reducible rfl))
      (try simp only [Act.put, List.setIfInBounds_toArray, List.set_cons_zero, List.set_cons_succ])
      refine wpAnyH_ready (rs := [5]) (by kernel_rfl) (by simp) ?_
      refine (AllReadyH.cons (o := ?o1_7_5) ?i1_7_5 (fun K hK => ?st1_7_5) AllReadyH.nil)
      case i1_7_5 => simp only [List.getElem?_toArray, List.getElem?_cons_succ, List.getElem?_cons_zero]; rfl
      rw [if_pos (by rfl)]
      go_simp
      (with_reducible refine DC2.out.mono ?_)
      rintro r w5 ⟨rfl, rfl⟩
      refine hK.out _ _ ?s1_7_5 (fun hS => ?_)
      case s1_7_5 => (exact hS)
      clear hK K
      (try simp only [Act.put, List.setIfInBounds_toArray, List.set_cons_zero, List.set_cons_succ])
      refine wpAnyH_take (i := 7) (oi := ?o1_7_8) (v := ?v1_7_8) ?i1_7_8 (by kernel_rfl) (by kernel_rfl) (by kernel_rfl) (fun _ _ _ h => h) (Or.inl ⟨?g1_7_8, ?y1_7_8⟩) hS ?_
      case i1_7_8 => simp only [List.getElem?_toArray, List.getElem?_cons_succ, List.getElem?_cons_zero]; rfl
      case g1_7_8 => rfl
      case y1_7_8 => (intro w hSw; (go_simp <;> with_reducible rfl))
      (try simp only [Act.put, List.setIfInBounds_toArray, List.set_cons_zero, List.set_cons_succ])
      refine wpAnyH_ready (rs := [8]) (by kernel_rfl) (by simp) ?_
      refine (AllReadyH.cons (o := ?o1_9_8) ?i1_9_8 (fun K hK => ?st1_9_8) AllReadyH.nil)
      case i1_9_8 => simp only [List.getElem?_toArray, List.getElem?_cons_succ, List.getElem?_cons_zero]; rfl
      rw [if_pos (by rfl)]
      go_simp
      refine hK.out _ _ ?s1_9_8 (fun hS => ?_)
      case s1_9_8 => (exact hbk3)
      clear hK K
      (try simp only [Act.put, List.setIfInBounds_toArray, List.set_cons_zero, List.set_cons_succ])
      refine wpAnyH_ready (rs := [9]) (by kernel_rfl) (by simp) ?_
      refine (AllReadyH.cons (o := ?o1_10_9) ?i1_10_9 (fun K hK => ?st1_10_9) AllReadyH.nil)
      case i1_10_9 => simp only [List.getElem?_toArray, List.getElem?_cons_succ, List.getElem?_cons_zero]; rfl
      rw [if_pos (by rfl)]
      refine wp_append_k Try.underlying64 Try.infoC zeroC (by decide) (.tmp 14) (.tmp 22) (by rfl) (by rfl) (A + 2) _ its.length _ (by rfl) hownA W.drew.heap.size (by rfl) [.int .i32 n, .int .i64 (ln : Int), .int .i64 (cl : Int)] hblk rfl hone ?_ ?_ hNA ?_
      · omega
      · omega
      intro v20 w20 hap
      have hb20 := hap.below hownA hNA
      refine hK.out _ _ ?s1_10_9 (fun hS => ?_)
      case s1_10_9 => (exact Blk.below hbk3 hb20 (by omega))
      clear hK K
      (try simp only [Act.put, List.setIfInBounds_toArray, List.set_cons_zero, List.set_cons_succ])
      refine wpAnyH_take (i := 10) (oi := ?o1_10_11) (v := ?v1_10_11) ?i1_10_11 (by kernel_rfl) (by kernel_rfl) (by kernel_rfl) (fun _ _ _ h => h) (Or.inl ⟨?g1_10_11, ?y1_10_11⟩) hS ?_
      case i1_10_11 => simp only [List.getElem?_toArray, List.getElem?_cons_succ, List.getElem?_cons_zero]; rfl
      case g1_10_11 => rfl
      case y1_10_11 => (intro w hSw; (go_simp <;> with_reducible rfl))
      (try simp only [Act.put, List.setIfInBounds_toArray, List.set_cons_zero, List.set_cons_succ])
      refine wpAnyH_done (by kernel_rfl) ?_ _
      refine NoPanic.normal ?_
      have hown20 : OwnK 75 3 w20 (A + 2) v20 (its ++ [x]).length ((chsI (1, 1) (its ++ [x])).flatMap chC) := by rw [hcells.out, List.length_append]; exact hap.1
      have hit20 : w20.heap[A + 1]? = some (.stringIter (txt s) (pos + k)) := (hb20.block (A + 1) (by omega)).trans HIT3.out
      have hbk20 : Blk w20 A 26 #[.int .i64 (ln : Int), .int .i64 (cl : Int)] := hbk3.below hb20 (by omega)
      have hbel20 : Below A w w20 := HBEL3.out.trans (hb20.mono (by omega))
      have c0 : w20.cell? ⟨A, 0, none⟩ = some (.int .i64 (ln : Int)) := hbk20.cell 0
      have c1 : w20.cell? ⟨A, 1, none⟩ = some (.int .i64 (cl : Int)) := hbk20.cell 1
      have f0 := hbk20.frozen 0
      have f1 := hbk20.frozen 1
      by_cases hc : c = 10
      · have hxn := hnlx.1 hc
        have HA1 : Hid ((advs (1, 1) (its ++ [x])).1 = ln + 1) := Lib.hid (by rw [HAD.out]; unfold adv; rw [if_pos hxn, ← HLN.out])
        have HA2 : Hid ((advs (1, 1) (its ++ [x])).2 = 1) := Lib.hid (by rw [HAD.out]; unfold adv; rw [if_pos hxn])
        subst hc
        have HO := Lib.hid (ownsRow_setCell_below (ownsRow_setCell_below hown20 (a := ⟨A, 0, none⟩) (show A < A + 2 by omega) (.int .i64 ((ln : Int) + 1))) (a := ⟨A, 1, none⟩) (show A < A + 2 by omega) (.int .i64 1))
        have HK : Hid (Blk ((w20.setCell ⟨A, 0, none⟩ (.int .i64 ((ln : Int) + 1))).setCell ⟨A, 1, none⟩ (.int .i64 1)) A 26 #[.int .i64 ((ln : Int) + 1), .int .i64 1]) := Lib.hid ((hbk20.set_ 0 (.int .i64 ((ln : Int) + 1))).set_ 1 (.int .i64 1))
        have HI : Hid (((w20.setCell ⟨A, 0, none⟩ (.int .i64 ((ln : Int) + 1))).setCell ⟨A, 1, none⟩ (.int .i64 1)).heap[A + 1]? = some (.stringIter (txt s) (pos + k))) := Lib.hid ((Below.heap_setCell _ ⟨A, 1, none⟩ _ (A + 1) (show A + 1 ≠ A by omega)).trans ((Below.heap_setCell _ ⟨A, 0, none⟩ _ (A + 1) (show A + 1 ≠ A by omega)).trans hit20))
        have HBE : Hid (Below A w ((w20.setCell ⟨A, 0, none⟩ (.int .i64 ((ln : Int) + 1))).setCell ⟨A, 1, none⟩ (.int .i64 1))) := Lib.hid ((hbel20.setCell (p := ⟨A, 0, none⟩) (Nat.le_refl A) _).setCell (p := ⟨A, 1, none⟩) (Nat.le_refl A) _)
        clear hap hb20 hownA hbA hblk hbk3 hbkd hown20 hit20 hbk20 hbel20 hxn hnlx hS
        go_wp2
        go_roundw
        case rel => exact ⟨its ++ [x], pos + k, HC2, hpk, by rw [HA1.out, HA2.out]; exact HK.out, HO.out, HI.out, HBE.out⟩
        case measure => rw [iterPos_of HI.out, iterPos_of hHIT.out]; omega
      · have hxn : x.1 ≠ [10] := fun h => hc (hnlx.2 h)
        have HA1 : Hid ((advs (1, 1) (its ++ [x])).1 = ln) := Lib.hid (by rw [HAD.out]; unfold adv; rw [if_neg hxn, ← HLN.out])
        have HA2 : Hid ((advs (1, 1) (its ++ [x])).2 = cl + 1) := Lib.hid (by rw [HAD.out]; unfold adv; rw [if_neg hxn, ← HCL.out])
        have e10 : ((c : Int) == 10) = false := beq_eq_false_iff_ne.2 (by omega)
        have HO := Lib.hid (ownsRow_setCell_below hown20 (a := ⟨A, 1, none⟩) (show A < A + 2 by omega) (.int .i64 ((cl : Int) + 1)))
        have HK : Hid (Blk (w20.setCell ⟨A, 1, none⟩ (.int .i64 ((cl : Int) + 1))) A 26 #[.int .i64 (ln : Int), .int .i64 ((cl : Int) + 1)]) := Lib.hid (hbk20.set_ 1 (.int .i64 ((cl : Int) + 1)))
        have HI : Hid ((w20.setCell ⟨A, 1, none⟩ (.int .i64 ((cl : Int) + 1))).heap[A + 1]? = some (.stringIter (txt s) (pos + k))) := Lib.hid ((Below.heap_setCell _ ⟨A, 1, none⟩ _ (A + 1) (show A + 1 ≠ A by omega)).trans hit20)
        have HBE : Hid (Below A w (w20.setCell ⟨A, 1, none⟩ (.int .i64 ((cl : Int) + 1)))) := Lib.hid (hbel20.setCell (p := ⟨A, 1, none⟩) (Nat.le_refl A) _)
        clear hap hb20 hownA hbA hblk hbk3 hbkd hown20 hit20 hbk20 hbel20 hxn hnlx hS hc
        go_wp2
        go_roundw
        case rel => exact ⟨its ++ [x], pos + k, HC2, hpk, by rw [HA1.out, HA2.out]; exact HK.out, HO.out, HI.out, HBE.out⟩
        case measure => rw [iterPos_of HI.out, iterPos_of hHIT.out]; omega
    · have hpe : pos = s.length := by omega
      have hnx : ∀ ty, (Instr.next (.pointer (some ⟨A + 1, 0, none⟩)) true ty).run Try.prog wr = _ := fun ty => Lib.run_next_end_at wr (A + 1) (txt s) pos ty hit (by rw [txt_size]; omega)
      have HI : Hid (its = cut s) := Lib.hid (by rw [HC.out, hpe, List.drop_length, cut_nil, List.append_nil])
      have hone : ∀ u ∈ [Value.int .i32 (-1), .int .i64 (ln : Int), .int .i64 (cl : Int)], u.oneCell' = true := by
        intro u hu
        simp only [List.mem_cons, List.not_mem_nil, or_false] at hu
        rcases hu with rfl | rfl | rfl <;> rfl
      have hblk := Blk.new wr 75 #[Value.int .i32 (-1), .int .i64 (ln : Int), .int .i64 (cl : Int)]
      have hbA := (Below.refl wr.heap.size wr).alloc (Nat.le_refl _) (.cells #[.int .i32 (-1), .int .i64 (ln : Int), .int .i64 (cl : Int)] 75)
      have hown3 := hown.below hbA
      have hbel3 : Below A w (wr.alloc (.cells #[.int .i32 (-1), .int .i64 (ln : Int), .int .i64 (cl : Int)] 75)) := hbel.alloc (by omega) _
      have hbs3 : A + 2 ≤ (wr.alloc (.cells #[.int .i32 (-1), .int .i64 (ln : Int), .int .i64 (cl : Int)] 75)).heap.size := by simp; omega
      have HCE : Hid ((chs (1, 1) (cut s)).flatMap chC = (chsI (1, 1) its).flatMap chC ++ [.int .i32 (-1), .int .i64 (ln : Int), .int .i64 (cl : Int)]) := Lib.hid (by
        rw [chs_eq, List.flatMap_append, ← HI.out, hln, hcl]; rfl)
      have c0 : wr.cell? ⟨A, 0, none⟩ = some (.int .i64 (ln : Int)) := hbk.cell 0
      have c1 : wr.cell? ⟨A, 1, none⟩ = some (.int .i64 (cl : Int)) := hbk.cell 1
      clear hpe hlt hit hbel hown hln hcl hbd hbk hbA hblk1 hit0 hb0
      go_wp2_with (at_builtin; refine wpList_append_k Try.underlying64 Try.infoC zeroC (by decide) rfl (.tmp 34) (.tmp 37) rfl rfl (A + 2) _ its.length _ rfl hown3 wr.heap.size rfl [.int .i32 (-1), .int .i64 (ln : Int), .int .i64 (cl : Int)] hblk rfl hone ?h1 ?h2 hbs3 ?_)
      case h1 => omega
      case h2 => omega
      intro v' w' hap
      have hb := hap.below hown3 hbs3
      have HF : Hid (ChsP s w (.returned v') w') := Lib.hid ⟨v', rfl, by rw [HCE.out, ← HI.out, ← HA.out]; exact hap.1, by rw [← HA.out]; exact hbel3.trans (hb.mono (by omega))⟩
      clear hap hb hbel3 hown3 hbs3 hblk hone
      go_wp2
      go_ret
      exact HF.out

end Go.Proofs.Ytgpcbfjakgndlaa
