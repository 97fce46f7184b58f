/- What the laws of package tree want of Law09F. -/
import Derived.Test.YtgipnemcmiohlaaZ0Law09E
namespace Go.Proofs.Ytgipnemcmiohlaa
open Go.RowKit
set_option linter.unusedSimpArgs false
set_option linter.unusedVariables false
theorem field9 (x0 x1 x2 x3 x4 : Value) (A : Option Addr) (n c : Nat) (w : World) : (Instr.field 27 (.agg #[x0, x1, x2, x3, x4, .slice A n c]) 3).run Try.prog w = .ok (.slice A n c) w := by kernel_rfl
theorem bal9 {w w' : World} (h : Below w.heap.size w w') (o : Obj) : Below w.heap.size w (w'.alloc o) := h.alloc h.size o
theorem bal9.drew {w w' : World} (h : Below w.heap.size w w'.drew) (o : Obj) : Below w.heap.size w (w'.alloc o).drew := (Below.alloc (w := w') ⟨h.os, h.tape, h.output, h.size, h.block⟩ h.size o).drew
theorem set6_otherM {w : World} {b g : Nat} {t : TypeId} {cs : Array Value} (hm : Blk w b t cs) (h : g ≠ b) (x0 x1 x2 x3 x4 x5 : Value) : (set6 w b x0 x1 x2 x3 x4 x5).heap[g]? = w.heap[g]? := set6_other h
theorem set6_belowM {w : World} {B b : Nat} {t : TypeId} {cs : Array Value} (hm : Blk w b t cs) (h : B ≤ b) (x0 x1 x2 x3 x4 x5 : Value) : Below B w (set6 w b x0 x1 x2 x3 x4 x5) := set6_below h
set_option maxRecDepth 100000 in
set_option maxHeartbeats 8000000 in
theorem awake9 (w : World) (C : TreC w) : Awake9 w := by
  intro w0 hW0
  have HC := Lib.hid C
  have HW0 := Lib.hid hW0
  clear C hW0
  go_enter Try.func8, Try.ntmps8
  go_wp2_with fail
  refine (leaf_any ⟨#[97]⟩ w0).mono ?_
  rintro r w1 ⟨rfl, hb1⟩
  have hKB : Blk (w1.alloc (.cells #[.string ⟨#[97]⟩, .string ⟨#[]⟩, .int .i64 1, .int .u64 5, .string ⟨#[]⟩, .slice none 0 0] 27)) w1.heap.size 27 #[.string ⟨#[97]⟩, .string ⟨#[]⟩, .int .i64 1, .int .u64 5, .string ⟨#[]⟩, .slice none 0 0] := Blk.new _ _ _
  have hNB : Blk ((w1.alloc (.cells #[.string ⟨#[97]⟩, .string ⟨#[]⟩, .int .i64 1, .int .u64 5, .string ⟨#[]⟩, .slice none 0 0] 27)).alloc (.cells #[.string ⟨#[]⟩, .string ⟨#[]⟩, .int .i64 0, .int .u64 0, .string ⟨#[]⟩, .slice (some ⟨w1.heap.size, 0, none⟩) 1 1] 27)) (w1.heap.size + 1) 27 #[.string ⟨#[]⟩, .string ⟨#[]⟩, .int .i64 0, .int .u64 0, .string ⟨#[]⟩, .slice (some ⟨w1.heap.size, 0, none⟩) 1 1] := Blk.new_at9 (by simp) _ _
  have hal : Below w1.heap.size w1 ((w1.alloc (.cells #[.string ⟨#[97]⟩, .string ⟨#[]⟩, .int .i64 1, .int .u64 5, .string ⟨#[]⟩, .slice none 0 0] 27)).alloc (.cells #[.string ⟨#[]⟩, .string ⟨#[]⟩, .int .i64 0, .int .u64 0, .string ⟨#[]⟩, .slice (some ⟨w1.heap.size, 0, none⟩) 1 1] 27)) := ((Below.refl _ _).alloc (Nat.le_refl _) _).alloc (by simp) _
  have hLN : LieN ((w1.alloc (.cells #[.string ⟨#[97]⟩, .string ⟨#[]⟩, .int .i64 1, .int .u64 5, .string ⟨#[]⟩, .slice none 0 0] 27)).alloc (.cells #[.string ⟨#[]⟩, .string ⟨#[]⟩, .int .i64 0, .int .u64 0, .string ⟨#[]⟩, .slice (some ⟨w1.heap.size, 0, none⟩) 1 1] 27)) [.string ⟨#[]⟩, .string ⟨#[]⟩, .int .i64 0, .int .u64 0, .string ⟨#[]⟩, .slice (some ⟨w1.heap.size, 0, none⟩) 1 1] (zeroT, nF9) := LieB.make (a := zeroT)
    (row_one (S := fun g => g < ((w1.alloc (.cells #[.string ⟨#[97]⟩, .string ⟨#[]⟩, .int .i64 1, .int .u64 5, .string ⟨#[]⟩, .slice none 0 0] 27)).alloc (.cells #[.string ⟨#[]⟩, .string ⟨#[]⟩, .int .i64 0, .int .u64 0, .string ⟨#[]⟩, .slice (some ⟨w1.heap.size, 0, none⟩) 1 1] 27)).heap.size) (a := laD) (f := .nil) (v := .slice none 0 0) (leaf_lies [97] _) (hKB.alloc _).lt (hKB.alloc _))
  have HB : Hid (Below w0.heap.size w0 ((w1.alloc (.cells #[.string ⟨#[97]⟩, .string ⟨#[]⟩, .int .i64 1, .int .u64 5, .string ⟨#[]⟩, .slice none 0 0] 27)).alloc (.cells #[.string ⟨#[]⟩, .string ⟨#[]⟩, .int .i64 0, .int .u64 0, .string ⟨#[]⟩, .slice (some ⟨w1.heap.size, 0, none⟩) 1 1] 27))) := Lib.hid (hb1.trans (hal.mono hb1.size))
  have HNB := Lib.hid hNB
  have HLN := Lib.hid hLN
  clear hb1 hKB hNB hal hLN
  go_upto_region 2 with (fail)
  revert HB HNB HLN
  generalize ((w1.alloc (.cells #[.string ⟨#[97]⟩, .string ⟨#[]⟩, .int .i64 1, .int .u64 5, .string ⟨#[]⟩, .slice none 0 0] 27)).alloc (.cells #[.string ⟨#[]⟩, .string ⟨#[]⟩, .int .i64 0, .int .u64 0, .string ⟨#[]⟩, .slice (some ⟨w1.heap.size, 0, none⟩) 1 1] 27)) = w2
  generalize w1.heap.size = kb
  intro HB HNB HLN
  have hbw := HW0.out.trans (HB.out.mono HW0.out.size)
  have HW2 := Lib.hid hbw
  have KS : Hid (∀ W pw, Below w2.heap.size w2 W → Blk W pw 43 #[.string ⟨#[98]⟩, .string ⟨#[]⟩] → Calls Try.prog 22 #[.agg #[.string ⟨#[]⟩, .string ⟨#[]⟩, .int .i64 0, .int .u64 0, .string ⟨#[]⟩, .slice (some ⟨kb, 0, none⟩) 1 1], .slice (some ⟨pw, 0, none⟩) 1 1, .agg #[.string ⟨#[98]⟩, .string ⟨#[]⟩, .int .i64 1, .int .u64 5, .string ⟨#[]⟩, .slice none 0 0]] W (TreP (zeroT, mF9) (.int .i64 0) W)) := Lib.hid (fun W pw h hp => by
    have h2 := HC.out.set (zeroT, nF9) (lbD, .nil) [([98], [])] [.string ⟨#[]⟩, .string ⟨#[]⟩, .int .i64 0, .int .u64 0, .string ⟨#[]⟩, .slice (some ⟨kb, 0, none⟩) 1 1] [.string ⟨#[98]⟩, .string ⟨#[]⟩, .int .i64 1, .int .u64 5, .string ⟨#[]⟩, .slice none 0 0] (.slice (some ⟨pw, 0, none⟩) 1 1) W (HLN.out.below h) (leaf_lies [98] W) (way_lit (s := ([98], [])) hp) (by show nF9.size ≤ 1000000; decide) (by show (Fr.nil : NdF).size ≤ 1000000; decide) ex9r.1 (by decide) (hbw.trans (h.mono hbw.size))
    rw [ex9s] at h2
    exact h2)
  have HXc : Hid (Blk w2 (kb + 1) 27 #[.string ⟨#[]⟩, .string ⟨#[]⟩, .int .i64 0, .int .u64 0, .string ⟨#[]⟩, .slice (some ⟨kb, 0, none⟩) 1 1]) := Lib.hid HNB.out
  have HWc : Hid (Below w2.heap.size w2 w2.drew) := Lib.hid (Below.refl _ _).drew
  clear hbw
  go_cut [2, 3] (fun s2 s3 wx => Cut9 w0 (kb + 1) kb s2 s3 wx)
  case first =>
    go_wp2_with fail
    refine wp_region_noPanic ?_
    refine wp_region_held_drew (S := fun _ => True) (by kernel_rfl) trivial (fun hS => ?_)
    refine held_more (S' := fun w' => Blk w' (kb + 1) 27 #[.string ⟨#[]⟩, .string ⟨#[]⟩, .int .i64 0, .int .u64 0, .string ⟨#[]⟩, .slice (some ⟨kb, 0, none⟩) 1 1]) (fun _ _ => trivial) _ _ _ _ ?_
    replace hS := HXc.out
    refine wpAnyH_take (i := 0) (oi := ?o1_0_1) (v := ?v1_0_1) ?i1_0_1 (by kernel_rfl) (by kernel_rfl) (by kernel_rfl) (fun _ _ _ h => h) (Or.inl ⟨?g1_0_1, ?y1_0_1⟩) hS ?_
    case i1_0_1 => simp only [List.getElem?_toArray, List.getElem?_cons_succ, List.getElem?_cons_zero]; rfl
    case g1_0_1 => rfl
    case y1_0_1 => (intro w hSw; have q0 := (hSw.cell 0).trans rfl; have q1 := (hSw.cell 1).trans rfl; have q2 := (hSw.cell 2).trans rfl; have q3 := (hSw.cell 3).trans rfl; have q4 := (hSw.cell 4).trans rfl; have q5 := (hSw.cell 5).trans rfl; (go_simp <;> with_reducible rfl))
    (try simp only [Act.put, List.setIfInBounds_toArray, List.set_cons_zero, List.set_cons_succ])
    refine wpAnyH_take (i := 1) (oi := ?o1_1_2) (v := ?v1_1_2) ?i1_1_2 (by kernel_rfl) (by kernel_rfl) (by kernel_rfl) (fun _ _ _ h => h) (Or.inl ⟨?g1_1_2, ?y1_1_2⟩) hS ?_
    case i1_1_2 => simp only [List.getElem?_toArray, List.getElem?_cons_succ, List.getElem?_cons_zero]; rfl
    case g1_1_2 => rfl
    case y1_1_2 => (intro w hSw; (go_simp <;> with_reducible rfl))
    (try simp only [Act.put, List.setIfInBounds_toArray, List.set_cons_zero, List.set_cons_succ])
    refine wpAnyH_ready (rs := [2, 3, 8]) (by kernel_rfl) (by simp) ?_
    refine (AllReadyH.cons (o := ?or1_3_2) ?ir1_3_2 (fun K hK => ?str1_3_2) (AllReadyH.cons (o := ?or1_3_3) ?ir1_3_3 (fun K hK => ?str1_3_3) (AllReadyH.cons (o := ?or1_3_8) ?ir1_3_8 (fun K hK => ?str1_3_8) AllReadyH.nil)))
    case ir1_3_2 => simp only [List.getElem?_toArray, List.getElem?_cons_succ, List.getElem?_cons_zero]; rfl
    case ir1_3_3 => simp only [List.getElem?_toArray, List.getElem?_cons_succ, List.getElem?_cons_zero]; rfl
    case ir1_3_8 => simp only [List.getElem?_toArray, List.getElem?_cons_succ, List.getElem?_cons_zero]; rfl
    case' str1_3_2 =>
      rw [if_pos (by rfl)]
      go_simp
      refine hK.out _ _ ?sr1_3_2 (fun hS => ?_)
      case sr1_3_2 => (exact (show Blk (w2.alloc (.cells #[.string ⟨#[98]⟩, .string ⟨#[]⟩] 43)) (kb + 1) 27 #[.string ⟨#[]⟩, .string ⟨#[]⟩, .int .i64 0, .int .u64 0, .string ⟨#[]⟩, .slice (some ⟨kb, 0, none⟩) 1 1] from Blk.alloc HXc.out _))
      clear hK K
      (try simp only [Act.put, List.setIfInBounds_toArray, List.set_cons_zero, List.set_cons_succ])
      have HP : Hid (Blk (w2.alloc (.cells #[.string ⟨#[98]⟩, .string ⟨#[]⟩] 43)).drew (w2.heap.size) 43 #[.string ⟨#[98]⟩, .string ⟨#[]⟩]) := Lib.hid (show Blk (w2.alloc (.cells #[.string ⟨#[98]⟩, .string ⟨#[]⟩] 43)) (w2.heap.size) 43 #[.string ⟨#[98]⟩, .string ⟨#[]⟩] from Blk.new_at9 (by simp) _ _)
      try replace HM : Hid (Blk (w2.alloc (.cells #[.string ⟨#[98]⟩, .string ⟨#[]⟩] 43)).drew _ 27 #[.string ⟨#[]⟩, .string ⟨#[]⟩, .int .i64 0, .int .u64 0, .string ⟨#[]⟩, .slice none 0 0]) := Lib.hid (show Blk (w2.alloc (.cells #[.string ⟨#[98]⟩, .string ⟨#[]⟩] 43)) _ 27 #[.string ⟨#[]⟩, .string ⟨#[]⟩, .int .i64 0, .int .u64 0, .string ⟨#[]⟩, .slice none 0 0] from Blk.alloc HM.out _)
      replace HXc : Hid (Blk (w2.alloc (.cells #[.string ⟨#[98]⟩, .string ⟨#[]⟩] 43)).drew (kb + 1) 27 #[.string ⟨#[]⟩, .string ⟨#[]⟩, .int .i64 0, .int .u64 0, .string ⟨#[]⟩, .slice (some ⟨kb, 0, none⟩) 1 1]) := Lib.hid (show Blk (w2.alloc (.cells #[.string ⟨#[98]⟩, .string ⟨#[]⟩] 43)) (kb + 1) 27 #[.string ⟨#[]⟩, .string ⟨#[]⟩, .int .i64 0, .int .u64 0, .string ⟨#[]⟩, .slice (some ⟨kb, 0, none⟩) 1 1] from Blk.alloc HXc.out _)
      replace HWc : Hid (Below w2.heap.size w2 (w2.alloc (.cells #[.string ⟨#[98]⟩, .string ⟨#[]⟩] 43)).drew) := Lib.hid (bal9.drew HWc.out _)
      refine wpAnyH_ready (rs := [3, 8]) (by kernel_rfl) (by simp) ?_
      refine (AllReadyH.cons (o := ?or1_4_3) ?ir1_4_3 (fun K hK => ?str1_4_3) (AllReadyH.cons (o := ?or1_4_8) ?ir1_4_8 (fun K hK => ?str1_4_8) AllReadyH.nil))
      case ir1_4_3 => simp only [List.getElem?_toArray, List.getElem?_cons_succ, List.getElem?_cons_zero]; rfl
      case ir1_4_8 => simp only [List.getElem?_toArray, List.getElem?_cons_succ, List.getElem?_cons_zero]; rfl
      case' str1_4_3 =>
        rw [if_pos (by rfl)]
        go_simp
        refine (leaf_any ⟨#[98]⟩ (w2.alloc (.cells #[.string ⟨#[98]⟩, .string ⟨#[]⟩] 43)).drew).mono ?_
        rintro r w3 ⟨rfl, hb3⟩
        try replace HP := Lib.hid ((show Blk (w2.alloc (.cells #[.string ⟨#[98]⟩, .string ⟨#[]⟩] 43)).drew _ 43 #[.string ⟨#[98]⟩, .string ⟨#[]⟩] from HP.out).below hb3 HP.out.lt)
        try replace HM := Lib.hid ((show Blk (w2.alloc (.cells #[.string ⟨#[98]⟩, .string ⟨#[]⟩] 43)).drew _ 27 #[.string ⟨#[]⟩, .string ⟨#[]⟩, .int .i64 0, .int .u64 0, .string ⟨#[]⟩, .slice none 0 0] from HM.out).below hb3 HM.out.lt)
        replace HXc := Lib.hid ((show Blk (w2.alloc (.cells #[.string ⟨#[98]⟩, .string ⟨#[]⟩] 43)).drew (kb + 1) 27 #[.string ⟨#[]⟩, .string ⟨#[]⟩, .int .i64 0, .int .u64 0, .string ⟨#[]⟩, .slice (some ⟨kb, 0, none⟩) 1 1] from HXc.out).below hb3 HXc.out.lt)
        replace HWc := Lib.hid ((show Below w2.heap.size w2 (w2.alloc (.cells #[.string ⟨#[98]⟩, .string ⟨#[]⟩] 43)).drew from HWc.out).trans (hb3.mono HWc.out.size))
        have HS3 : Hid (w2.heap.size ≤ w3.heap.size) := Lib.hid HWc.out.size
        clear hb3
        go_wp2_with fail
        refine hK.out _ _ ?sr1_4_3 (fun hS => ?_)
        case sr1_4_3 => (exact HXc.out)
        clear hK K
        (try simp only [Act.put, List.setIfInBounds_toArray, List.set_cons_zero, List.set_cons_succ])
        refine wpAnyH_ready (rs := [4, 8]) (by kernel_rfl) (by simp) ?_
        refine (AllReadyH.cons (o := ?or1_5_4) ?ir1_5_4 (fun K hK => ?str1_5_4) (AllReadyH.cons (o := ?or1_5_8) ?ir1_5_8 (fun K hK => ?str1_5_8) AllReadyH.nil))
        case ir1_5_4 => simp only [List.getElem?_toArray, List.getElem?_cons_succ, List.getElem?_cons_zero]; rfl
        case ir1_5_8 => simp only [List.getElem?_toArray, List.getElem?_cons_succ, List.getElem?_cons_zero]; rfl
        case' str1_5_4 =>
          rw [if_pos (by rfl)]
          go_simp
          refine (KS.out w3 _ HWc.out HP.out).mono ?_
          rintro r w4 ⟨cs4, rfl, hl4, hb4⟩
          obtain ⟨A4, c4, rfl⟩ := hl4.p.cells0 2 rfl
          have HL4 := Lib.hid hl4.p
          try replace HM := Lib.hid ((show Blk w3 _ 27 #[.string ⟨#[]⟩, .string ⟨#[]⟩, .int .i64 0, .int .u64 0, .string ⟨#[]⟩, .slice none 0 0] from HM.out).below hb4 HM.out.lt)
          have HSZ4 := Lib.hid hb4.size
          replace HXc := Lib.hid ((show Blk w3 (kb + 1) 27 #[.string ⟨#[]⟩, .string ⟨#[]⟩, .int .i64 0, .int .u64 0, .string ⟨#[]⟩, .slice (some ⟨kb, 0, none⟩) 1 1] from HXc.out).below hb4 HXc.out.lt)
          replace HWc := Lib.hid ((show Below w2.heap.size w2 w3 from HWc.out).trans (hb4.mono HWc.out.size))
          have HS4 : Hid (w2.heap.size ≤ w4.heap.size) := Lib.hid HWc.out.size
          have HX4 := HXc
          have HW4 := HWc
          clear hb4 hl4
          go_wp2_with fail
          refine hK.out _ _ ?sr1_5_4 (fun hS => ?_)
          case sr1_5_4 => (exact HXc.out)
          clear hK K
          (try simp only [Act.put, List.setIfInBounds_toArray, List.set_cons_zero, List.set_cons_succ])
          refine wpAnyH_take (i := 5) (oi := ?o1_5_6) (v := ?v1_5_6) ?i1_5_6 (by kernel_rfl) (by kernel_rfl) (by kernel_rfl) (fun _ _ _ h => h) (Or.inl ⟨?g1_5_6, ?y1_5_6⟩) hS ?_
          case i1_5_6 => simp only [List.getElem?_toArray, List.getElem?_cons_succ, List.getElem?_cons_zero]; rfl
          case g1_5_6 => rfl
          case y1_5_6 => (intro w hSw; (go_simp <;> with_reducible rfl))
          (try simp only [Act.put, List.setIfInBounds_toArray, List.set_cons_zero, List.set_cons_succ])
          refine wpAnyH_take (i := 6) (oi := ?o1_6_7) (v := ?v1_6_7) ?i1_6_7 (by kernel_rfl) (by kernel_rfl) (by kernel_rfl) (fun _ _ _ h => h) (Or.inl ⟨?g1_6_7, ?y1_6_7⟩) hS ?_
          case i1_6_7 => simp only [List.getElem?_toArray, List.getElem?_cons_succ, List.getElem?_cons_zero]; rfl
          case g1_6_7 => rfl
          case y1_6_7 => (intro w hSw; (go_simp <;> with_reducible rfl))
          (try simp only [Act.put, List.setIfInBounds_toArray, List.set_cons_zero, List.set_cons_succ])
          refine wpAnyH_take (i := 7) (oi := ?o1_7_8) (v := ?v1_7_8) ?i1_7_8 (by kernel_rfl) (by kernel_rfl) (by kernel_rfl) (fun _ _ _ h => h) (Or.inl ⟨?g1_7_8, ?y1_7_8⟩) hS ?_
          case i1_7_8 => simp only [List.getElem?_toArray, List.getElem?_cons_succ, List.getElem?_cons_zero]; rfl
          case g1_7_8 => rfl
          case y1_7_8 => (intro w hSw; (go_simp <;> with_reducible rfl))
          (try simp only [Act.put, List.setIfInBounds_toArray, List.set_cons_zero, List.set_cons_succ])
          refine wpAnyH_ready (rs := [8]) (by kernel_rfl) (by simp) ?_
          refine (AllReadyH.cons (o := ?or1_9_8) ?ir1_9_8 (fun K hK => ?str1_9_8) AllReadyH.nil)
          case ir1_9_8 => simp only [List.getElem?_toArray, List.getElem?_cons_succ, List.getElem?_cons_zero]; rfl
          rw [if_pos (by rfl)]
          go_simp
          refine hK.out _ _ ?sr1_9_8 (fun hS => ?_)
          case sr1_9_8 => (exact (show Blk (w4.alloc (.cells #[.string ⟨#[]⟩, .string ⟨#[]⟩, .int .i64 0, .int .u64 0, .string ⟨#[]⟩, .slice none 0 0] 27)) (kb + 1) 27 #[.string ⟨#[]⟩, .string ⟨#[]⟩, .int .i64 0, .int .u64 0, .string ⟨#[]⟩, .slice (some ⟨kb, 0, none⟩) 1 1] from Blk.alloc HXc.out _))
          clear hK K
          (try simp only [Act.put, List.setIfInBounds_toArray, List.set_cons_zero, List.set_cons_succ])
          have HM : Hid (Blk (w4.alloc (.cells #[.string ⟨#[]⟩, .string ⟨#[]⟩, .int .i64 0, .int .u64 0, .string ⟨#[]⟩, .slice none 0 0] 27)) (w4.heap.size) 27 #[.string ⟨#[]⟩, .string ⟨#[]⟩, .int .i64 0, .int .u64 0, .string ⟨#[]⟩, .slice none 0 0]) := Lib.hid (show Blk (w4.alloc (.cells #[.string ⟨#[]⟩, .string ⟨#[]⟩, .int .i64 0, .int .u64 0, .string ⟨#[]⟩, .slice none 0 0] 27)) (w4.heap.size) 27 #[.string ⟨#[]⟩, .string ⟨#[]⟩, .int .i64 0, .int .u64 0, .string ⟨#[]⟩, .slice none 0 0] from Blk.new_at9 (by simp) _ _)
          have HPM : Hid (kb + 1 < (w4.heap.size) ∧ w2.heap.size ≤ (w4.heap.size)) := Lib.hid (by have h1 := HNB.out.lt; (try have h3 := HS3.out); (try have h4 := HS4.out); omega)
          try replace HP : Hid (Blk (w4.alloc (.cells #[.string ⟨#[]⟩, .string ⟨#[]⟩, .int .i64 0, .int .u64 0, .string ⟨#[]⟩, .slice none 0 0] 27)) _ 43 #[.string ⟨#[98]⟩, .string ⟨#[]⟩]) := Lib.hid (show Blk (w4.alloc (.cells #[.string ⟨#[]⟩, .string ⟨#[]⟩, .int .i64 0, .int .u64 0, .string ⟨#[]⟩, .slice none 0 0] 27)) _ 43 #[.string ⟨#[98]⟩, .string ⟨#[]⟩] from Blk.alloc HP.out _)
          replace HXc : Hid (Blk (w4.alloc (.cells #[.string ⟨#[]⟩, .string ⟨#[]⟩, .int .i64 0, .int .u64 0, .string ⟨#[]⟩, .slice none 0 0] 27)) (kb + 1) 27 #[.string ⟨#[]⟩, .string ⟨#[]⟩, .int .i64 0, .int .u64 0, .string ⟨#[]⟩, .slice (some ⟨kb, 0, none⟩) 1 1]) := Lib.hid (show Blk (w4.alloc (.cells #[.string ⟨#[]⟩, .string ⟨#[]⟩, .int .i64 0, .int .u64 0, .string ⟨#[]⟩, .slice none 0 0] 27)) (kb + 1) 27 #[.string ⟨#[]⟩, .string ⟨#[]⟩, .int .i64 0, .int .u64 0, .string ⟨#[]⟩, .slice (some ⟨kb, 0, none⟩) 1 1] from Blk.alloc HXc.out _)
          replace HWc : Hid (Below w2.heap.size w2 (w4.alloc (.cells #[.string ⟨#[]⟩, .string ⟨#[]⟩, .int .i64 0, .int .u64 0, .string ⟨#[]⟩, .slice none 0 0] 27))) := Lib.hid (bal9 HWc.out _)
          refine wpAnyH_ready (rs := [9]) (by kernel_rfl) (by simp) ?_
          refine (AllReadyH.cons (o := ?or1_10_9) ?ir1_10_9 (fun K hK => ?str1_10_9) AllReadyH.nil)
          case ir1_10_9 => simp only [List.getElem?_toArray, List.getElem?_cons_succ, List.getElem?_cons_zero]; rfl
          rw [if_pos (by rfl)]
          go_simp
          refine hK.out _ _ ?sr1_10_9 (fun hS => ?_)
          case sr1_10_9 => (exact HX4.out.alloc _)
          clear hK K
          (try simp only [Act.put, List.setIfInBounds_toArray, List.set_cons_zero, List.set_cons_succ])
          have HFX := Lib.hid (HX4.out.alloc (.cells #[.string ⟨#[]⟩, .string ⟨#[]⟩, .int .i64 0, .int .u64 0, .string ⟨#[]⟩, .slice A4 2 c4] 27))
          have HFM := Lib.hid (Blk.new w4 27 #[.string ⟨#[]⟩, .string ⟨#[]⟩, .int .i64 0, .int .u64 0, .string ⟨#[]⟩, .slice A4 2 c4])
          have HFW := Lib.hid (HW4.out.alloc HW4.out.size (.cells #[.string ⟨#[]⟩, .string ⟨#[]⟩, .int .i64 0, .int .u64 0, .string ⟨#[]⟩, .slice A4 2 c4] 27))
          have HFL := Lib.hid (LieB.below (HL4.out.lies (Nat.zero_le _)) ((Below.refl _ _).alloc (Nat.le_refl _) (.cells #[.string ⟨#[]⟩, .string ⟨#[]⟩, .int .i64 0, .int .u64 0, .string ⟨#[]⟩, .slice A4 2 c4] 27)))
          refine wpAnyH_take (i := 10) (oi := ?o1_10_11) (v := ?v1_10_11) ?i1_10_11 (by kernel_rfl) (by kernel_rfl) (by kernel_rfl) (fun _ _ _ h => h) (Or.inl ⟨?g1_10_11, ?y1_10_11⟩) hS ?_
          case i1_10_11 => simp only [List.getElem?_toArray, List.getElem?_cons_succ, List.getElem?_cons_zero]; rfl
          case g1_10_11 => rfl
          case y1_10_11 => (intro w hSw; (go_simp <;> with_reducible rfl))
          (try simp only [Act.put, List.setIfInBounds_toArray, List.set_cons_zero, List.set_cons_succ])
          refine wpAnyH_done (by kernel_rfl) ?_ _
          refine NoPanic.normal ?_
        case' str1_5_8 =>
          rw [if_pos (by rfl)]
          go_simp
          refine hK.out _ _ ?sr1_5_8 (fun hS => ?_)
          case sr1_5_8 => (exact (show Blk (w3.alloc (.cells #[.string ⟨#[]⟩, .string ⟨#[]⟩, .int .i64 0, .int .u64 0, .string ⟨#[]⟩, .slice none 0 0] 27)) (kb + 1) 27 #[.string ⟨#[]⟩, .string ⟨#[]⟩, .int .i64 0, .int .u64 0, .string ⟨#[]⟩, .slice (some ⟨kb, 0, none⟩) 1 1] from Blk.alloc HXc.out _))
          clear hK K
          (try simp only [Act.put, List.setIfInBounds_toArray, List.set_cons_zero, List.set_cons_succ])
          have HM : Hid (Blk (w3.alloc (.cells #[.string ⟨#[]⟩, .string ⟨#[]⟩, .int .i64 0, .int .u64 0, .string ⟨#[]⟩, .slice none 0 0] 27)) (w3.heap.size) 27 #[.string ⟨#[]⟩, .string ⟨#[]⟩, .int .i64 0, .int .u64 0, .string ⟨#[]⟩, .slice none 0 0]) := Lib.hid (show Blk (w3.alloc (.cells #[.string ⟨#[]⟩, .string ⟨#[]⟩, .int .i64 0, .int .u64 0, .string ⟨#[]⟩, .slice none 0 0] 27)) (w3.heap.size) 27 #[.string ⟨#[]⟩, .string ⟨#[]⟩, .int .i64 0, .int .u64 0, .string ⟨#[]⟩, .slice none 0 0] from Blk.new_at9 (by simp) _ _)
          have HPM : Hid (kb + 1 < (w3.heap.size) ∧ w2.heap.size ≤ (w3.heap.size)) := Lib.hid (by have h1 := HNB.out.lt; (try have h3 := HS3.out); (try have h4 := HS4.out); omega)
          try replace HP : Hid (Blk (w3.alloc (.cells #[.string ⟨#[]⟩, .string ⟨#[]⟩, .int .i64 0, .int .u64 0, .string ⟨#[]⟩, .slice none 0 0] 27)) _ 43 #[.string ⟨#[98]⟩, .string ⟨#[]⟩]) := Lib.hid (show Blk (w3.alloc (.cells #[.string ⟨#[]⟩, .string ⟨#[]⟩, .int .i64 0, .int .u64 0, .string ⟨#[]⟩, .slice none 0 0] 27)) _ 43 #[.string ⟨#[98]⟩, .string ⟨#[]⟩] from Blk.alloc HP.out _)
          replace HXc : Hid (Blk (w3.alloc (.cells #[.string ⟨#[]⟩, .string ⟨#[]⟩, .int .i64 0, .int .u64 0, .string ⟨#[]⟩, .slice none 0 0] 27)) (kb + 1) 27 #[.string ⟨#[]⟩, .string ⟨#[]⟩, .int .i64 0, .int .u64 0, .string ⟨#[]⟩, .slice (some ⟨kb, 0, none⟩) 1 1]) := Lib.hid (show Blk (w3.alloc (.cells #[.string ⟨#[]⟩, .string ⟨#[]⟩, .int .i64 0, .int .u64 0, .string ⟨#[]⟩, .slice none 0 0] 27)) (kb + 1) 27 #[.string ⟨#[]⟩, .string ⟨#[]⟩, .int .i64 0, .int .u64 0, .string ⟨#[]⟩, .slice (some ⟨kb, 0, none⟩) 1 1] from Blk.alloc HXc.out _)
          replace HWc : Hid (Below w2.heap.size w2 (w3.alloc (.cells #[.string ⟨#[]⟩, .string ⟨#[]⟩, .int .i64 0, .int .u64 0, .string ⟨#[]⟩, .slice none 0 0] 27))) := Lib.hid (bal9 HWc.out _)
          refine wpAnyH_ready (rs := [4]) (by kernel_rfl) (by simp) ?_
          refine (AllReadyH.cons (o := ?or1_12_4) ?ir1_12_4 (fun K hK => ?str1_12_4) AllReadyH.nil)
          case ir1_12_4 => simp only [List.getElem?_toArray, List.getElem?_cons_succ, List.getElem?_cons_zero]; rfl
          rw [if_pos (by rfl)]
          go_simp
          refine (KS.out (w3.alloc (.cells #[.string ⟨#[]⟩, .string ⟨#[]⟩, .int .i64 0, .int .u64 0, .string ⟨#[]⟩, .slice none 0 0] 27)) _ HWc.out HP.out).mono ?_
          rintro r w4 ⟨cs4, rfl, hl4, hb4⟩
          obtain ⟨A4, c4, rfl⟩ := hl4.p.cells0 2 rfl
          have HL4 := Lib.hid hl4.p
          have HML := Lib.hid HM.out.lt
          try replace HM := Lib.hid ((show Blk (w3.alloc (.cells #[.string ⟨#[]⟩, .string ⟨#[]⟩, .int .i64 0, .int .u64 0, .string ⟨#[]⟩, .slice none 0 0] 27)) _ 27 #[.string ⟨#[]⟩, .string ⟨#[]⟩, .int .i64 0, .int .u64 0, .string ⟨#[]⟩, .slice none 0 0] from HM.out).below hb4 HM.out.lt)
          have HSZ4 := Lib.hid hb4.size
          replace HXc := Lib.hid ((show Blk (w3.alloc (.cells #[.string ⟨#[]⟩, .string ⟨#[]⟩, .int .i64 0, .int .u64 0, .string ⟨#[]⟩, .slice none 0 0] 27)) (kb + 1) 27 #[.string ⟨#[]⟩, .string ⟨#[]⟩, .int .i64 0, .int .u64 0, .string ⟨#[]⟩, .slice (some ⟨kb, 0, none⟩) 1 1] from HXc.out).below hb4 HXc.out.lt)
          replace HWc := Lib.hid ((show Below w2.heap.size w2 (w3.alloc (.cells #[.string ⟨#[]⟩, .string ⟨#[]⟩, .int .i64 0, .int .u64 0, .string ⟨#[]⟩, .slice none 0 0] 27)) from HWc.out).trans (hb4.mono HWc.out.size))
          have HS4 : Hid (w2.heap.size ≤ w4.heap.size) := Lib.hid HWc.out.size
          have HX4 := HXc
          have HW4 := HWc
          clear hb4 hl4
          go_wp2_with fail
          refine hK.out _ _ ?sr1_12_4 (fun hS => ?_)
          case sr1_12_4 => (exact HXc.out)
          clear hK K
          (try simp only [Act.put, List.setIfInBounds_toArray, List.set_cons_zero, List.set_cons_succ])
          refine wpAnyH_take (i := 5) (oi := ?o1_5_13) (v := ?v1_5_13) ?i1_5_13 (by kernel_rfl) (by kernel_rfl) (by kernel_rfl) (fun _ _ _ h => h) (Or.inl ⟨?g1_5_13, ?y1_5_13⟩) hS ?_
          case i1_5_13 => simp only [List.getElem?_toArray, List.getElem?_cons_succ, List.getElem?_cons_zero]; rfl
          case g1_5_13 => rfl
          case y1_5_13 => (intro w hSw; (go_simp <;> with_reducible rfl))
          (try simp only [Act.put, List.setIfInBounds_toArray, List.set_cons_zero, List.set_cons_succ])
          refine wpAnyH_take (i := 6) (oi := ?o1_6_14) (v := ?v1_6_14) ?i1_6_14 (by kernel_rfl) (by kernel_rfl) (by kernel_rfl) (fun _ _ _ h => h) (Or.inl ⟨?g1_6_14, ?y1_6_14⟩) hS ?_
          case i1_6_14 => simp only [List.getElem?_toArray, List.getElem?_cons_succ, List.getElem?_cons_zero]; rfl
          case g1_6_14 => rfl
          case y1_6_14 => (intro w hSw; (go_simp <;> with_reducible rfl))
          (try simp only [Act.put, List.setIfInBounds_toArray, List.set_cons_zero, List.set_cons_succ])
          refine wpAnyH_take (i := 7) (oi := ?o1_7_15) (v := ?v1_7_15) ?i1_7_15 (by kernel_rfl) (by kernel_rfl) (by kernel_rfl) (fun _ _ _ h => h) (Or.inl ⟨?g1_7_15, ?y1_7_15⟩) hS ?_
          case i1_7_15 => simp only [List.getElem?_toArray, List.getElem?_cons_succ, List.getElem?_cons_zero]; rfl
          case g1_7_15 => rfl
          case y1_7_15 => (intro w hSw; (go_simp <;> with_reducible rfl))
          (try simp only [Act.put, List.setIfInBounds_toArray, List.set_cons_zero, List.set_cons_succ])
          refine wpAnyH_ready (rs := [9]) (by kernel_rfl) (by simp) ?_
          refine (AllReadyH.cons (o := ?or1_16_9) ?ir1_16_9 (fun K hK => ?str1_16_9) AllReadyH.nil)
          case ir1_16_9 => simp only [List.getElem?_toArray, List.getElem?_cons_succ, List.getElem?_cons_zero]; rfl
          rw [if_pos (by rfl)]
          have fz0 := HM.out.frozen 0
          have fq0 := (HM.out.cell 0).trans rfl
          have fz1 := HM.out.frozen 1
          have fq1 := (HM.out.cell 1).trans rfl
          have fz2 := HM.out.frozen 2
          have fq2 := (HM.out.cell 2).trans rfl
          have fz3 := HM.out.frozen 3
          have fq3 := (HM.out.cell 3).trans rfl
          have fz4 := HM.out.frozen 4
          have fq4 := (HM.out.cell 4).trans rfl
          have fz5 := HM.out.frozen 5
          have fq5 := (HM.out.cell 5).trans rfl
          go_simp
          refine hK.out _ _ ?sr1_16_9 (fun hS => ?_)
          case sr1_16_9 => (exact ((set6_otherM HM.out (by have := HPM.out.1; omega) _ _ _ _ _ _).trans HX4.out))
          clear hK K
          (try simp only [Act.put, List.setIfInBounds_toArray, List.set_cons_zero, List.set_cons_succ])
          have HFX := Lib.hid (show Blk (set6 w4 _ (.string ⟨#[]⟩) (.string ⟨#[]⟩) (.int .i64 0) (.int .u64 0) (.string ⟨#[]⟩) (.slice A4 2 c4)) (kb + 1) 27 #[.string ⟨#[]⟩, .string ⟨#[]⟩, .int .i64 0, .int .u64 0, .string ⟨#[]⟩, .slice (some ⟨kb, 0, none⟩) 1 1] from (set6_otherM HM.out (by have := HPM.out.1; omega) (.string ⟨#[]⟩) (.string ⟨#[]⟩) (.int .i64 0) (.int .u64 0) (.string ⟨#[]⟩) (.slice A4 2 c4)).trans HX4.out)
          have HFM := Lib.hid (HM.out.set6 (.string ⟨#[]⟩) (.string ⟨#[]⟩) (.int .i64 0) (.int .u64 0) (.string ⟨#[]⟩) (.slice A4 2 c4))
          have HFW := Lib.hid (HW4.out.trans (set6_belowM HM.out HPM.out.2 (.string ⟨#[]⟩) (.string ⟨#[]⟩) (.int .i64 0) (.int .u64 0) (.string ⟨#[]⟩) (.slice A4 2 c4)))
          have HFL := Lib.hid ((HL4.out.set6 (Nat.zero_le _) HML.out (.string ⟨#[]⟩) (.string ⟨#[]⟩) (.int .i64 0) (.int .u64 0) (.string ⟨#[]⟩) (.slice A4 2 c4)).lies (Nat.zero_le _))
          refine wpAnyH_take (i := 10) (oi := ?o1_10_17) (v := ?v1_10_17) ?i1_10_17 (by kernel_rfl) (by kernel_rfl) (by kernel_rfl) (fun _ _ _ h => h) (Or.inl ⟨?g1_10_17, ?y1_10_17⟩) hS ?_
          case i1_10_17 => simp only [List.getElem?_toArray, List.getElem?_cons_succ, List.getElem?_cons_zero]; rfl
          case g1_10_17 => rfl
          case y1_10_17 => (intro w hSw; (go_simp <;> with_reducible rfl))
          (try simp only [Act.put, List.setIfInBounds_toArray, List.set_cons_zero, List.set_cons_succ])
          refine wpAnyH_done (by kernel_rfl) ?_ _
          refine NoPanic.normal ?_
      case' str1_4_8 =>
        rw [if_pos (by rfl)]
        go_simp
        refine hK.out _ _ ?sr1_4_8 (fun hS => ?_)
        case sr1_4_8 => (exact (show Blk ((w2.alloc (.cells #[.string ⟨#[98]⟩, .string ⟨#[]⟩] 43)).alloc (.cells #[.string ⟨#[]⟩, .string ⟨#[]⟩, .int .i64 0, .int .u64 0, .string ⟨#[]⟩, .slice none 0 0] 27)) (kb + 1) 27 #[.string ⟨#[]⟩, .string ⟨#[]⟩, .int .i64 0, .int .u64 0, .string ⟨#[]⟩, .slice (some ⟨kb, 0, none⟩) 1 1] from Blk.alloc HXc.out _))
        clear hK K
        (try simp only [Act.put, List.setIfInBounds_toArray, List.set_cons_zero, List.set_cons_succ])
        have HM : Hid (Blk ((w2.alloc (.cells #[.string ⟨#[98]⟩, .string ⟨#[]⟩] 43)).alloc (.cells #[.string ⟨#[]⟩, .string ⟨#[]⟩, .int .i64 0, .int .u64 0, .string ⟨#[]⟩, .slice none 0 0] 27)).drew (w2.heap.size + 1) 27 #[.string ⟨#[]⟩, .string ⟨#[]⟩, .int .i64 0, .int .u64 0, .string ⟨#[]⟩, .slice none 0 0]) := Lib.hid (show Blk ((w2.alloc (.cells #[.string ⟨#[98]⟩, .string ⟨#[]⟩] 43)).alloc (.cells #[.string ⟨#[]⟩, .string ⟨#[]⟩, .int .i64 0, .int .u64 0, .string ⟨#[]⟩, .slice none 0 0] 27)) (w2.heap.size + 1) 27 #[.string ⟨#[]⟩, .string ⟨#[]⟩, .int .i64 0, .int .u64 0, .string ⟨#[]⟩, .slice none 0 0] from Blk.new_at9 (by simp) _ _)
        have HPM : Hid (kb + 1 < (w2.heap.size + 1) ∧ w2.heap.size ≤ (w2.heap.size + 1)) := Lib.hid (by have h1 := HNB.out.lt; (try have h3 := HS3.out); (try have h4 := HS4.out); omega)
        try replace HP : Hid (Blk ((w2.alloc (.cells #[.string ⟨#[98]⟩, .string ⟨#[]⟩] 43)).alloc (.cells #[.string ⟨#[]⟩, .string ⟨#[]⟩, .int .i64 0, .int .u64 0, .string ⟨#[]⟩, .slice none 0 0] 27)).drew _ 43 #[.string ⟨#[98]⟩, .string ⟨#[]⟩]) := Lib.hid (show Blk ((w2.alloc (.cells #[.string ⟨#[98]⟩, .string ⟨#[]⟩] 43)).alloc (.cells #[.string ⟨#[]⟩, .string ⟨#[]⟩, .int .i64 0, .int .u64 0, .string ⟨#[]⟩, .slice none 0 0] 27)) _ 43 #[.string ⟨#[98]⟩, .string ⟨#[]⟩] from Blk.alloc HP.out _)
        replace HXc : Hid (Blk ((w2.alloc (.cells #[.string ⟨#[98]⟩, .string ⟨#[]⟩] 43)).alloc (.cells #[.string ⟨#[]⟩, .string ⟨#[]⟩, .int .i64 0, .int .u64 0, .string ⟨#[]⟩, .slice none 0 0] 27)).drew (kb + 1) 27 #[.string ⟨#[]⟩, .string ⟨#[]⟩, .int .i64 0, .int .u64 0, .string ⟨#[]⟩, .slice (some ⟨kb, 0, none⟩) 1 1]) := Lib.hid (show Blk ((w2.alloc (.cells #[.string ⟨#[98]⟩, .string ⟨#[]⟩] 43)).alloc (.cells #[.string ⟨#[]⟩, .string ⟨#[]⟩, .int .i64 0, .int .u64 0, .string ⟨#[]⟩, .slice none 0 0] 27)) (kb + 1) 27 #[.string ⟨#[]⟩, .string ⟨#[]⟩, .int .i64 0, .int .u64 0, .string ⟨#[]⟩, .slice (some ⟨kb, 0, none⟩) 1 1] from Blk.alloc HXc.out _)
        replace HWc : Hid (Below w2.heap.size w2 ((w2.alloc (.cells #[.string ⟨#[98]⟩, .string ⟨#[]⟩] 43)).alloc (.cells #[.string ⟨#[]⟩, .string ⟨#[]⟩, .int .i64 0, .int .u64 0, .string ⟨#[]⟩, .slice none 0 0] 27)).drew) := Lib.hid (bal9.drew HWc.out _)
        refine wpAnyH_ready (rs := [3]) (by kernel_rfl) (by simp) ?_
        refine (AllReadyH.cons (o := ?or1_18_3) ?ir1_18_3 (fun K hK => ?str1_18_3) AllReadyH.nil)
        case ir1_18_3 => simp only [List.getElem?_toArray, List.getElem?_cons_succ, List.getElem?_cons_zero]; rfl
        rw [if_pos (by rfl)]
        go_simp
        refine (leaf_any ⟨#[98]⟩ ((w2.alloc (.cells #[.string ⟨#[98]⟩, .string ⟨#[]⟩] 43)).alloc (.cells #[.string ⟨#[]⟩, .string ⟨#[]⟩, .int .i64 0, .int .u64 0, .string ⟨#[]⟩, .slice none 0 0] 27)).drew).mono ?_
        rintro r w3 ⟨rfl, hb3⟩
        try replace HP := Lib.hid ((show Blk ((w2.alloc (.cells #[.string ⟨#[98]⟩, .string ⟨#[]⟩] 43)).alloc (.cells #[.string ⟨#[]⟩, .string ⟨#[]⟩, .int .i64 0, .int .u64 0, .string ⟨#[]⟩, .slice none 0 0] 27)).drew _ 43 #[.string ⟨#[98]⟩, .string ⟨#[]⟩] from HP.out).below hb3 HP.out.lt)
        try replace HM := Lib.hid ((show Blk ((w2.alloc (.cells #[.string ⟨#[98]⟩, .string ⟨#[]⟩] 43)).alloc (.cells #[.string ⟨#[]⟩, .string ⟨#[]⟩, .int .i64 0, .int .u64 0, .string ⟨#[]⟩, .slice none 0 0] 27)).drew _ 27 #[.string ⟨#[]⟩, .string ⟨#[]⟩, .int .i64 0, .int .u64 0, .string ⟨#[]⟩, .slice none 0 0] from HM.out).below hb3 HM.out.lt)
        replace HXc := Lib.hid ((show Blk ((w2.alloc (.cells #[.string ⟨#[98]⟩, .string ⟨#[]⟩] 43)).alloc (.cells #[.string ⟨#[]⟩, .string ⟨#[]⟩, .int .i64 0, .int .u64 0, .string ⟨#[]⟩, .slice none 0 0] 27)).drew (kb + 1) 27 #[.string ⟨#[]⟩, .string ⟨#[]⟩, .int .i64 0, .int .u64 0, .string ⟨#[]⟩, .slice (some ⟨kb, 0, none⟩) 1 1] from HXc.out).below hb3 HXc.out.lt)
        replace HWc := Lib.hid ((show Below w2.heap.size w2 ((w2.alloc (.cells #[.string ⟨#[98]⟩, .string ⟨#[]⟩] 43)).alloc (.cells #[.string ⟨#[]⟩, .string ⟨#[]⟩, .int .i64 0, .int .u64 0, .string ⟨#[]⟩, .slice none 0 0] 27)).drew from HWc.out).trans (hb3.mono HWc.out.size))
        have HS3 : Hid (w2.heap.size ≤ w3.heap.size) := Lib.hid HWc.out.size
        clear hb3
        go_wp2_with fail
        refine hK.out _ _ ?sr1_18_3 (fun hS => ?_)
        case sr1_18_3 => (exact HXc.out)
        clear hK K
        (try simp only [Act.put, List.setIfInBounds_toArray, List.set_cons_zero, List.set_cons_succ])
        refine wpAnyH_ready (rs := [4]) (by kernel_rfl) (by simp) ?_
        refine (AllReadyH.cons (o := ?or1_19_4) ?ir1_19_4 (fun K hK => ?str1_19_4) AllReadyH.nil)
        case ir1_19_4 => simp only [List.getElem?_toArray, List.getElem?_cons_succ, List.getElem?_cons_zero]; rfl
        rw [if_pos (by rfl)]
        go_simp
        refine (KS.out w3 _ HWc.out HP.out).mono ?_
        rintro r w4 ⟨cs4, rfl, hl4, hb4⟩
        obtain ⟨A4, c4, rfl⟩ := hl4.p.cells0 2 rfl
        have HL4 := Lib.hid hl4.p
        have HML := Lib.hid HM.out.lt
        try replace HM := Lib.hid ((show Blk w3 _ 27 #[.string ⟨#[]⟩, .string ⟨#[]⟩, .int .i64 0, .int .u64 0, .string ⟨#[]⟩, .slice none 0 0] from HM.out).below hb4 HM.out.lt)
        have HSZ4 := Lib.hid hb4.size
        replace HXc := Lib.hid ((show Blk w3 (kb + 1) 27 #[.string ⟨#[]⟩, .string ⟨#[]⟩, .int .i64 0, .int .u64 0, .string ⟨#[]⟩, .slice (some ⟨kb, 0, none⟩) 1 1] from HXc.out).below hb4 HXc.out.lt)
        replace HWc := Lib.hid ((show Below w2.heap.size w2 w3 from HWc.out).trans (hb4.mono HWc.out.size))
        have HS4 : Hid (w2.heap.size ≤ w4.heap.size) := Lib.hid HWc.out.size
        have HX4 := HXc
        have HW4 := HWc
        clear hb4 hl4
        go_wp2_with fail
        refine hK.out _ _ ?sr1_19_4 (fun hS => ?_)
        case sr1_19_4 => (exact HXc.out)
        clear hK K
        (try simp only [Act.put, List.setIfInBounds_toArray, List.set_cons_zero, List.set_cons_succ])
        refine wpAnyH_take (i := 5) (oi := ?o1_5_20) (v := ?v1_5_20) ?i1_5_20 (by kernel_rfl) (by kernel_rfl) (by kernel_rfl) (fun _ _ _ h => h) (Or.inl ⟨?g1_5_20, ?y1_5_20⟩) hS ?_
        case i1_5_20 => simp only [List.getElem?_toArray, List.getElem?_cons_succ, List.getElem?_cons_zero]; rfl
        case g1_5_20 => rfl
        case y1_5_20 => (intro w hSw; (go_simp <;> with_reducible rfl))
        (try simp only [Act.put, List.setIfInBounds_toArray, List.set_cons_zero, List.set_cons_succ])
        refine wpAnyH_take (i := 6) (oi := ?o1_6_21) (v := ?v1_6_21) ?i1_6_21 (by kernel_rfl) (by kernel_rfl) (by kernel_rfl) (fun _ _ _ h => h) (Or.inl ⟨?g1_6_21, ?y1_6_21⟩) hS ?_
        case i1_6_21 => simp only [List.getElem?_toArray, List.getElem?_cons_succ, List.getElem?_cons_zero]; rfl
        case g1_6_21 => rfl
        case y1_6_21 => (intro w hSw; (go_simp <;> with_reducible rfl))
        (try simp only [Act.put, List.setIfInBounds_toArray, List.set_cons_zero, List.set_cons_succ])
        refine wpAnyH_take (i := 7) (oi := ?o1_7_22) (v := ?v1_7_22) ?i1_7_22 (by kernel_rfl) (by kernel_rfl) (by kernel_rfl) (fun _ _ _ h => h) (Or.inl ⟨?g1_7_22, ?y1_7_22⟩) hS ?_
        case i1_7_22 => simp only [List.getElem?_toArray, List.getElem?_cons_succ, List.getElem?_cons_zero]; rfl
        case g1_7_22 => rfl
        case y1_7_22 => (intro w hSw; (go_simp <;> with_reducible rfl))
        (try simp only [Act.put, List.setIfInBounds_toArray, List.set_cons_zero, List.set_cons_succ])
        refine wpAnyH_ready (rs := [9]) (by kernel_rfl) (by simp) ?_
        refine (AllReadyH.cons (o := ?or1_23_9) ?ir1_23_9 (fun K hK => ?str1_23_9) AllReadyH.nil)
        case ir1_23_9 => simp only [List.getElem?_toArray, List.getElem?_cons_succ, List.getElem?_cons_zero]; rfl
        rw [if_pos (by rfl)]
        have fz0 := HM.out.frozen 0
        have fq0 := (HM.out.cell 0).trans rfl
        have fz1 := HM.out.frozen 1
        have fq1 := (HM.out.cell 1).trans rfl
        have fz2 := HM.out.frozen 2
        have fq2 := (HM.out.cell 2).trans rfl
        have fz3 := HM.out.frozen 3
        have fq3 := (HM.out.cell 3).trans rfl
        have fz4 := HM.out.frozen 4
        have fq4 := (HM.out.cell 4).trans rfl
        have fz5 := HM.out.frozen 5
        have fq5 := (HM.out.cell 5).trans rfl
        go_simp
        refine hK.out _ _ ?sr1_23_9 (fun hS => ?_)
        case sr1_23_9 => (exact ((set6_otherM HM.out (by have := HPM.out.1; omega) _ _ _ _ _ _).trans HX4.out))
        clear hK K
        (try simp only [Act.put, List.setIfInBounds_toArray, List.set_cons_zero, List.set_cons_succ])
        have HFX := Lib.hid (show Blk (set6 w4 _ (.string ⟨#[]⟩) (.string ⟨#[]⟩) (.int .i64 0) (.int .u64 0) (.string ⟨#[]⟩) (.slice A4 2 c4)) (kb + 1) 27 #[.string ⟨#[]⟩, .string ⟨#[]⟩, .int .i64 0, .int .u64 0, .string ⟨#[]⟩, .slice (some ⟨kb, 0, none⟩) 1 1] from (set6_otherM HM.out (by have := HPM.out.1; omega) (.string ⟨#[]⟩) (.string ⟨#[]⟩) (.int .i64 0) (.int .u64 0) (.string ⟨#[]⟩) (.slice A4 2 c4)).trans HX4.out)
        have HFM := Lib.hid (HM.out.set6 (.string ⟨#[]⟩) (.string ⟨#[]⟩) (.int .i64 0) (.int .u64 0) (.string ⟨#[]⟩) (.slice A4 2 c4))
        have HFW := Lib.hid (HW4.out.trans (set6_belowM HM.out HPM.out.2 (.string ⟨#[]⟩) (.string ⟨#[]⟩) (.int .i64 0) (.int .u64 0) (.string ⟨#[]⟩) (.slice A4 2 c4)))
        have HFL := Lib.hid ((HL4.out.set6 (Nat.zero_le _) HML.out (.string ⟨#[]⟩) (.string ⟨#[]⟩) (.int .i64 0) (.int .u64 0) (.string ⟨#[]⟩) (.slice A4 2 c4)).lies (Nat.zero_le _))
        refine wpAnyH_take (i := 10) (oi := ?o1_10_24) (v := ?v1_10_24) ?i1_10_24 (by kernel_rfl) (by kernel_rfl) (by kernel_rfl) (fun _ _ _ h => h) (Or.inl ⟨?g1_10_24, ?y1_10_24⟩) hS ?_
        case i1_10_24 => simp only [List.getElem?_toArray, List.getElem?_cons_succ, List.getElem?_cons_zero]; rfl
        case g1_10_24 => rfl
        case y1_10_24 => (intro w hSw; (go_simp <;> with_reducible rfl))
        (try simp only [Act.put, List.setIfInBounds_toArray, List.set_cons_zero, List.set_cons_succ])
        refine wpAnyH_done (by kernel_rfl) ?_ _
        refine NoPanic.normal ?_
    case' str1_3_3 =>
      rw [if_pos (by rfl)]
      go_simp
      refine (leaf_any ⟨#[98]⟩ w2.drew).mono ?_
      rintro r w3 ⟨rfl, hb3⟩
      try replace HP := Lib.hid ((show Blk w2.drew _ 43 #[.string ⟨#[98]⟩, .string ⟨#[]⟩] from HP.out).below hb3 HP.out.lt)
      try replace HM := Lib.hid ((show Blk w2.drew _ 27 #[.string ⟨#[]⟩, .string ⟨#[]⟩, .int .i64 0, .int .u64 0, .string ⟨#[]⟩, .slice none 0 0] from HM.out).below hb3 HM.out.lt)
      replace HXc := Lib.hid ((show Blk w2.drew (kb + 1) 27 #[.string ⟨#[]⟩, .string ⟨#[]⟩, .int .i64 0, .int .u64 0, .string ⟨#[]⟩, .slice (some ⟨kb, 0, none⟩) 1 1] from HXc.out).below hb3 HXc.out.lt)
      replace HWc := Lib.hid ((show Below w2.heap.size w2 w2.drew from HWc.out).trans (hb3.mono HWc.out.size))
      have HS3 : Hid (w2.heap.size ≤ w3.heap.size) := Lib.hid HWc.out.size
      clear hb3
      go_wp2_with fail
      refine hK.out _ _ ?sr1_3_3 (fun hS => ?_)
      case sr1_3_3 => (exact HXc.out)
      clear hK K
      (try simp only [Act.put, List.setIfInBounds_toArray, List.set_cons_zero, List.set_cons_succ])
      refine wpAnyH_ready (rs := [2, 8]) (by kernel_rfl) (by simp) ?_
      refine (AllReadyH.cons (o := ?or1_25_2) ?ir1_25_2 (fun K hK => ?str1_25_2) (AllReadyH.cons (o := ?or1_25_8) ?ir1_25_8 (fun K hK => ?str1_25_8) AllReadyH.nil))
      case ir1_25_2 => simp only [List.getElem?_toArray, List.getElem?_cons_succ, List.getElem?_cons_zero]; rfl
      case ir1_25_8 => simp only [List.getElem?_toArray, List.getElem?_cons_succ, List.getElem?_cons_zero]; rfl
      case' str1_25_2 =>
        rw [if_pos (by rfl)]
        go_simp
        refine hK.out _ _ ?sr1_25_2 (fun hS => ?_)
        case sr1_25_2 => (exact (show Blk (w3.alloc (.cells #[.string ⟨#[98]⟩, .string ⟨#[]⟩] 43)) (kb + 1) 27 #[.string ⟨#[]⟩, .string ⟨#[]⟩, .int .i64 0, .int .u64 0, .string ⟨#[]⟩, .slice (some ⟨kb, 0, none⟩) 1 1] from Blk.alloc HXc.out _))
        clear hK K
        (try simp only [Act.put, List.setIfInBounds_toArray, List.set_cons_zero, List.set_cons_succ])
        have HP : Hid (Blk (w3.alloc (.cells #[.string ⟨#[98]⟩, .string ⟨#[]⟩] 43)) (w3.heap.size) 43 #[.string ⟨#[98]⟩, .string ⟨#[]⟩]) := Lib.hid (show Blk (w3.alloc (.cells #[.string ⟨#[98]⟩, .string ⟨#[]⟩] 43)) (w3.heap.size) 43 #[.string ⟨#[98]⟩, .string ⟨#[]⟩] from Blk.new_at9 (by simp) _ _)
        try replace HM : Hid (Blk (w3.alloc (.cells #[.string ⟨#[98]⟩, .string ⟨#[]⟩] 43)) _ 27 #[.string ⟨#[]⟩, .string ⟨#[]⟩, .int .i64 0, .int .u64 0, .string ⟨#[]⟩, .slice none 0 0]) := Lib.hid (show Blk (w3.alloc (.cells #[.string ⟨#[98]⟩, .string ⟨#[]⟩] 43)) _ 27 #[.string ⟨#[]⟩, .string ⟨#[]⟩, .int .i64 0, .int .u64 0, .string ⟨#[]⟩, .slice none 0 0] from Blk.alloc HM.out _)
        replace HXc : Hid (Blk (w3.alloc (.cells #[.string ⟨#[98]⟩, .string ⟨#[]⟩] 43)) (kb + 1) 27 #[.string ⟨#[]⟩, .string ⟨#[]⟩, .int .i64 0, .int .u64 0, .string ⟨#[]⟩, .slice (some ⟨kb, 0, none⟩) 1 1]) := Lib.hid (show Blk (w3.alloc (.cells #[.string ⟨#[98]⟩, .string ⟨#[]⟩] 43)) (kb + 1) 27 #[.string ⟨#[]⟩, .string ⟨#[]⟩, .int .i64 0, .int .u64 0, .string ⟨#[]⟩, .slice (some ⟨kb, 0, none⟩) 1 1] from Blk.alloc HXc.out _)
        replace HWc : Hid (Below w2.heap.size w2 (w3.alloc (.cells #[.string ⟨#[98]⟩, .string ⟨#[]⟩] 43))) := Lib.hid (bal9 HWc.out _)
        refine wpAnyH_ready (rs := [4, 8]) (by kernel_rfl) (by simp) ?_
        refine (AllReadyH.cons (o := ?or1_26_4) ?ir1_26_4 (fun K hK => ?str1_26_4) (AllReadyH.cons (o := ?or1_26_8) ?ir1_26_8 (fun K hK => ?str1_26_8) AllReadyH.nil))
        case ir1_26_4 => simp only [List.getElem?_toArray, List.getElem?_cons_succ, List.getElem?_cons_zero]; rfl
        case ir1_26_8 => simp only [List.getElem?_toArray, List.getElem?_cons_succ, List.getElem?_cons_zero]; rfl
        case' str1_26_4 =>
          rw [if_pos (by rfl)]
          go_simp
          refine (KS.out (w3.alloc (.cells #[.string ⟨#[98]⟩, .string ⟨#[]⟩] 43)) _ HWc.out HP.out).mono ?_
          rintro r w4 ⟨cs4, rfl, hl4, hb4⟩
          obtain ⟨A4, c4, rfl⟩ := hl4.p.cells0 2 rfl
          have HL4 := Lib.hid hl4.p
          try replace HM := Lib.hid ((show Blk (w3.alloc (.cells #[.string ⟨#[98]⟩, .string ⟨#[]⟩] 43)) _ 27 #[.string ⟨#[]⟩, .string ⟨#[]⟩, .int .i64 0, .int .u64 0, .string ⟨#[]⟩, .slice none 0 0] from HM.out).below hb4 HM.out.lt)
          have HSZ4 := Lib.hid hb4.size
          replace HXc := Lib.hid ((show Blk (w3.alloc (.cells #[.string ⟨#[98]⟩, .string ⟨#[]⟩] 43)) (kb + 1) 27 #[.string ⟨#[]⟩, .string ⟨#[]⟩, .int .i64 0, .int .u64 0, .string ⟨#[]⟩, .slice (some ⟨kb, 0, none⟩) 1 1] from HXc.out).below hb4 HXc.out.lt)
          replace HWc := Lib.hid ((show Below w2.heap.size w2 (w3.alloc (.cells #[.string ⟨#[98]⟩, .string ⟨#[]⟩] 43)) from HWc.out).trans (hb4.mono HWc.out.size))
          have HS4 : Hid (w2.heap.size ≤ w4.heap.size) := Lib.hid HWc.out.size
          have HX4 := HXc
          have HW4 := HWc
          clear hb4 hl4
          go_wp2_with fail
          refine hK.out _ _ ?sr1_26_4 (fun hS => ?_)
          case sr1_26_4 => (exact HXc.out)
          clear hK K
          (try simp only [Act.put, List.setIfInBounds_toArray, List.set_cons_zero, List.set_cons_succ])
          refine wpAnyH_take (i := 5) (oi := ?o1_5_27) (v := ?v1_5_27) ?i1_5_27 (by kernel_rfl) (by kernel_rfl) (by kernel_rfl) (fun _ _ _ h => h) (Or.inl ⟨?g1_5_27, ?y1_5_27⟩) hS ?_
          case i1_5_27 => simp only [List.getElem?_toArray, List.getElem?_cons_succ, List.getElem?_cons_zero]; rfl
          case g1_5_27 => rfl
          case y1_5_27 => (intro w hSw; (go_simp <;> with_reducible rfl))
          (try simp only [Act.put, List.setIfInBounds_toArray, List.set_cons_zero, List.set_cons_succ])
          refine wpAnyH_take (i := 6) (oi := ?o1_6_28) (v := ?v1_6_28) ?i1_6_28 (by kernel_rfl) (by kernel_rfl) (by kernel_rfl) (fun _ _ _ h => h) (Or.inl ⟨?g1_6_28, ?y1_6_28⟩) hS ?_
          case i1_6_28 => simp only [List.getElem?_toArray, List.getElem?_cons_succ, List.getElem?_cons_zero]; rfl
          case g1_6_28 => rfl
          case y1_6_28 => (intro w hSw; (go_simp <;> with_reducible rfl))
          (try simp only [Act.put, List.setIfInBounds_toArray, List.set_cons_zero, List.set_cons_succ])
          refine wpAnyH_take (i := 7) (oi := ?o1_7_29) (v := ?v1_7_29) ?i1_7_29 (by kernel_rfl) (by kernel_rfl) (by kernel_rfl) (fun _ _ _ h => h) (Or.inl ⟨?g1_7_29, ?y1_7_29⟩) hS ?_
          case i1_7_29 => simp only [List.getElem?_toArray, List.getElem?_cons_succ, List.getElem?_cons_zero]; rfl
          case g1_7_29 => rfl
          case y1_7_29 => (intro w hSw; (go_simp <;> with_reducible rfl))
          (try simp only [Act.put, List.setIfInBounds_toArray, List.set_cons_zero, List.set_cons_succ])
          refine wpAnyH_ready (rs := [8]) (by kernel_rfl) (by simp) ?_
          refine (AllReadyH.cons (o := ?or1_30_8) ?ir1_30_8 (fun K hK => ?str1_30_8) AllReadyH.nil)
          case ir1_30_8 => simp only [List.getElem?_toArray, List.getElem?_cons_succ, List.getElem?_cons_zero]; rfl
          rw [if_pos (by rfl)]
          go_simp
          refine hK.out _ _ ?sr1_30_8 (fun hS => ?_)
          case sr1_30_8 => (exact (show Blk (w4.alloc (.cells #[.string ⟨#[]⟩, .string ⟨#[]⟩, .int .i64 0, .int .u64 0, .string ⟨#[]⟩, .slice none 0 0] 27)) (kb + 1) 27 #[.string ⟨#[]⟩, .string ⟨#[]⟩, .int .i64 0, .int .u64 0, .string ⟨#[]⟩, .slice (some ⟨kb, 0, none⟩) 1 1] from Blk.alloc HXc.out _))
          clear hK K
          (try simp only [Act.put, List.setIfInBounds_toArray, List.set_cons_zero, List.set_cons_succ])
          have HM : Hid (Blk (w4.alloc (.cells #[.string ⟨#[]⟩, .string ⟨#[]⟩, .int .i64 0, .int .u64 0, .string ⟨#[]⟩, .slice none 0 0] 27)) (w4.heap.size) 27 #[.string ⟨#[]⟩, .string ⟨#[]⟩, .int .i64 0, .int .u64 0, .string ⟨#[]⟩, .slice none 0 0]) := Lib.hid (show Blk (w4.alloc (.cells #[.string ⟨#[]⟩, .string ⟨#[]⟩, .int .i64 0, .int .u64 0, .string ⟨#[]⟩, .slice none 0 0] 27)) (w4.heap.size) 27 #[.string ⟨#[]⟩, .string ⟨#[]⟩, .int .i64 0, .int .u64 0, .string ⟨#[]⟩, .slice none 0 0] from Blk.new_at9 (by simp) _ _)
          have HPM : Hid (kb + 1 < (w4.heap.size) ∧ w2.heap.size ≤ (w4.heap.size)) := Lib.hid (by have h1 := HNB.out.lt; (try have h3 := HS3.out); (try have h4 := HS4.out); omega)
          try replace HP : Hid (Blk (w4.alloc (.cells #[.string ⟨#[]⟩, .string ⟨#[]⟩, .int .i64 0, .int .u64 0, .string ⟨#[]⟩, .slice none 0 0] 27)) _ 43 #[.string ⟨#[98]⟩, .string ⟨#[]⟩]) := Lib.hid (show Blk (w4.alloc (.cells #[.string ⟨#[]⟩, .string ⟨#[]⟩, .int .i64 0, .int .u64 0, .string ⟨#[]⟩, .slice none 0 0] 27)) _ 43 #[.string ⟨#[98]⟩, .string ⟨#[]⟩] from Blk.alloc HP.out _)
          replace HXc : Hid (Blk (w4.alloc (.cells #[.string ⟨#[]⟩, .string ⟨#[]⟩, .int .i64 0, .int .u64 0, .string ⟨#[]⟩, .slice none 0 0] 27)) (kb + 1) 27 #[.string ⟨#[]⟩, .string ⟨#[]⟩, .int .i64 0, .int .u64 0, .string ⟨#[]⟩, .slice (some ⟨kb, 0, none⟩) 1 1]) := Lib.hid (show Blk (w4.alloc (.cells #[.string ⟨#[]⟩, .string ⟨#[]⟩, .int .i64 0, .int .u64 0, .string ⟨#[]⟩, .slice none 0 0] 27)) (kb + 1) 27 #[.string ⟨#[]⟩, .string ⟨#[]⟩, .int .i64 0, .int .u64 0, .string ⟨#[]⟩, .slice (some ⟨kb, 0, none⟩) 1 1] from Blk.alloc HXc.out _)
          replace HWc : Hid (Below w2.heap.size w2 (w4.alloc (.cells #[.string ⟨#[]⟩, .string ⟨#[]⟩, .int .i64 0, .int .u64 0, .string ⟨#[]⟩, .slice none 0 0] 27))) := Lib.hid (bal9 HWc.out _)
          refine wpAnyH_ready (rs := [9]) (by kernel_rfl) (by simp) ?_
          refine (AllReadyH.cons (o := ?or1_31_9) ?ir1_31_9 (fun K hK => ?str1_31_9) AllReadyH.nil)
          case ir1_31_9 => simp only [List.getElem?_toArray, List.getElem?_cons_succ, List.getElem?_cons_zero]; rfl
          rw [if_pos (by rfl)]
          go_simp
          refine hK.out _ _ ?sr1_31_9 (fun hS => ?_)
          case sr1_31_9 => (exact HX4.out.alloc _)
          clear hK K
          (try simp only [Act.put, List.setIfInBounds_toArray, List.set_cons_zero, List.set_cons_succ])
          have HFX := Lib.hid (HX4.out.alloc (.cells #[.string ⟨#[]⟩, .string ⟨#[]⟩, .int .i64 0, .int .u64 0, .string ⟨#[]⟩, .slice A4 2 c4] 27))
          have HFM := Lib.hid (Blk.new w4 27 #[.string ⟨#[]⟩, .string ⟨#[]⟩, .int .i64 0, .int .u64 0, .string ⟨#[]⟩, .slice A4 2 c4])
          have HFW := Lib.hid (HW4.out.alloc HW4.out.size (.cells #[.string ⟨#[]⟩, .string ⟨#[]⟩, .int .i64 0, .int .u64 0, .string ⟨#[]⟩, .slice A4 2 c4] 27))
          have HFL := Lib.hid (LieB.below (HL4.out.lies (Nat.zero_le _)) ((Below.refl _ _).alloc (Nat.le_refl _) (.cells #[.string ⟨#[]⟩, .string ⟨#[]⟩, .int .i64 0, .int .u64 0, .string ⟨#[]⟩, .slice A4 2 c4] 27)))
          refine wpAnyH_take (i := 10) (oi := ?o1_10_32) (v := ?v1_10_32) ?i1_10_32 (by kernel_rfl) (by kernel_rfl) (by kernel_rfl) (fun _ _ _ h => h) (Or.inl ⟨?g1_10_32, ?y1_10_32⟩) hS ?_
          case i1_10_32 => simp only [List.getElem?_toArray, List.getElem?_cons_succ, List.getElem?_cons_zero]; rfl
          case g1_10_32 => rfl
          case y1_10_32 => (intro w hSw; (go_simp <;> with_reducible rfl))
          (try simp only [Act.put, List.setIfInBounds_toArray, List.set_cons_zero, List.set_cons_succ])
          refine wpAnyH_done (by kernel_rfl) ?_ _
          refine NoPanic.normal ?_
        case' str1_26_8 =>
          rw [if_pos (by rfl)]
          go_simp
          refine hK.out _ _ ?sr1_26_8 (fun hS => ?_)
          case sr1_26_8 => (exact (show Blk ((w3.alloc (.cells #[.string ⟨#[98]⟩, .string ⟨#[]⟩] 43)).alloc (.cells #[.string ⟨#[]⟩, .string ⟨#[]⟩, .int .i64 0, .int .u64 0, .string ⟨#[]⟩, .slice none 0 0] 27)) (kb + 1) 27 #[.string ⟨#[]⟩, .string ⟨#[]⟩, .int .i64 0, .int .u64 0, .string ⟨#[]⟩, .slice (some ⟨kb, 0, none⟩) 1 1] from Blk.alloc HXc.out _))
          clear hK K
          (try simp only [Act.put, List.setIfInBounds_toArray, List.set_cons_zero, List.set_cons_succ])
          have HM : Hid (Blk ((w3.alloc (.cells #[.string ⟨#[98]⟩, .string ⟨#[]⟩] 43)).alloc (.cells #[.string ⟨#[]⟩, .string ⟨#[]⟩, .int .i64 0, .int .u64 0, .string ⟨#[]⟩, .slice none 0 0] 27)) (w3.heap.size + 1) 27 #[.string ⟨#[]⟩, .string ⟨#[]⟩, .int .i64 0, .int .u64 0, .string ⟨#[]⟩, .slice none 0 0]) := Lib.hid (show Blk ((w3.alloc (.cells #[.string ⟨#[98]⟩, .string ⟨#[]⟩] 43)).alloc (.cells #[.string ⟨#[]⟩, .string ⟨#[]⟩, .int .i64 0, .int .u64 0, .string ⟨#[]⟩, .slice none 0 0] 27)) (w3.heap.size + 1) 27 #[.string ⟨#[]⟩, .string ⟨#[]⟩, .int .i64 0, .int .u64 0, .string ⟨#[]⟩, .slice none 0 0] from Blk.new_at9 (by simp) _ _)
          have HPM : Hid (kb + 1 < (w3.heap.size + 1) ∧ w2.heap.size ≤ (w3.heap.size + 1)) := Lib.hid (by have h1 := HNB.out.lt; (try have h3 := HS3.out); (try have h4 := HS4.out); omega)
          try replace HP : Hid (Blk ((w3.alloc (.cells #[.string ⟨#[98]⟩, .string ⟨#[]⟩] 43)).alloc (.cells #[.string ⟨#[]⟩, .string ⟨#[]⟩, .int .i64 0, .int .u64 0, .string ⟨#[]⟩, .slice none 0 0] 27)) _ 43 #[.string ⟨#[98]⟩, .string ⟨#[]⟩]) := Lib.hid (show Blk ((w3.alloc (.cells #[.string ⟨#[98]⟩, .string ⟨#[]⟩] 43)).alloc (.cells #[.string ⟨#[]⟩, .string ⟨#[]⟩, .int .i64 0, .int .u64 0, .string ⟨#[]⟩, .slice none 0 0] 27)) _ 43 #[.string ⟨#[98]⟩, .string ⟨#[]⟩] from Blk.alloc HP.out _)
          replace HXc : Hid (Blk ((w3.alloc (.cells #[.string ⟨#[98]⟩, .string ⟨#[]⟩] 43)).alloc (.cells #[.string ⟨#[]⟩, .string ⟨#[]⟩, .int .i64 0, .int .u64 0, .string ⟨#[]⟩, .slice none 0 0] 27)) (kb + 1) 27 #[.string ⟨#[]⟩, .string ⟨#[]⟩, .int .i64 0, .int .u64 0, .string ⟨#[]⟩, .slice (some ⟨kb, 0, none⟩) 1 1]) := Lib.hid (show Blk ((w3.alloc (.cells #[.string ⟨#[98]⟩, .string ⟨#[]⟩] 43)).alloc (.cells #[.string ⟨#[]⟩, .string ⟨#[]⟩, .int .i64 0, .int .u64 0, .string ⟨#[]⟩, .slice none 0 0] 27)) (kb + 1) 27 #[.string ⟨#[]⟩, .string ⟨#[]⟩, .int .i64 0, .int .u64 0, .string ⟨#[]⟩, .slice (some ⟨kb, 0, none⟩) 1 1] from Blk.alloc HXc.out _)
          replace HWc : Hid (Below w2.heap.size w2 ((w3.alloc (.cells #[.string ⟨#[98]⟩, .string ⟨#[]⟩] 43)).alloc (.cells #[.string ⟨#[]⟩, .string ⟨#[]⟩, .int .i64 0, .int .u64 0, .string ⟨#[]⟩, .slice none 0 0] 27))) := Lib.hid (bal9 HWc.out _)
          refine wpAnyH_ready (rs := [4]) (by kernel_rfl) (by simp) ?_
          refine (AllReadyH.cons (o := ?or1_33_4) ?ir1_33_4 (fun K hK => ?str1_33_4) AllReadyH.nil)
          case ir1_33_4 => simp only [List.getElem?_toArray, List.getElem?_cons_succ, List.getElem?_cons_zero]; rfl
          rw [if_pos (by rfl)]
          go_simp
          refine (KS.out ((w3.alloc (.cells #[.string ⟨#[98]⟩, .string ⟨#[]⟩] 43)).alloc (.cells #[.string ⟨#[]⟩, .string ⟨#[]⟩, .int .i64 0, .int .u64 0, .string ⟨#[]⟩, .slice none 0 0] 27)) _ HWc.out HP.out).mono ?_
          rintro r w4 ⟨cs4, rfl, hl4, hb4⟩
          obtain ⟨A4, c4, rfl⟩ := hl4.p.cells0 2 rfl
          have HL4 := Lib.hid hl4.p
          have HML := Lib.hid HM.out.lt
          try replace HM := Lib.hid ((show Blk ((w3.alloc (.cells #[.string ⟨#[98]⟩, .string ⟨#[]⟩] 43)).alloc (.cells #[.string ⟨#[]⟩, .string ⟨#[]⟩, .int .i64 0, .int .u64 0, .string ⟨#[]⟩, .slice none 0 0] 27)) _ 27 #[.string ⟨#[]⟩, .string ⟨#[]⟩, .int .i64 0, .int .u64 0, .string ⟨#[]⟩, .slice none 0 0] from HM.out).below hb4 HM.out.lt)
          have HSZ4 := Lib.hid hb4.size
          replace HXc := Lib.hid ((show Blk ((w3.alloc (.cells #[.string ⟨#[98]⟩, .string ⟨#[]⟩] 43)).alloc (.cells #[.string ⟨#[]⟩, .string ⟨#[]⟩, .int .i64 0, .int .u64 0, .string ⟨#[]⟩, .slice none 0 0] 27)) (kb + 1) 27 #[.string ⟨#[]⟩, .string ⟨#[]⟩, .int .i64 0, .int .u64 0, .string ⟨#[]⟩, .slice (some ⟨kb, 0, none⟩) 1 1] from HXc.out).below hb4 HXc.out.lt)
          replace HWc := Lib.hid ((show Below w2.heap.size w2 ((w3.alloc (.cells #[.string ⟨#[98]⟩, .string ⟨#[]⟩] 43)).alloc (.cells #[.string ⟨#[]⟩, .string ⟨#[]⟩, .int .i64 0, .int .u64 0, .string ⟨#[]⟩, .slice none 0 0] 27)) from HWc.out).trans (hb4.mono HWc.out.size))
          have HS4 : Hid (w2.heap.size ≤ w4.heap.size) := Lib.hid HWc.out.size
          have HX4 := HXc
          have HW4 := HWc
          clear hb4 hl4
          go_wp2_with fail
          refine hK.out _ _ ?sr1_33_4 (fun hS => ?_)
          case sr1_33_4 => (exact HXc.out)
          clear hK K
          (try simp only [Act.put, List.setIfInBounds_toArray, List.set_cons_zero, List.set_cons_succ])
          refine wpAnyH_take (i := 5) (oi := ?o1_5_34) (v := ?v1_5_34) ?i1_5_34 (by kernel_rfl) (by kernel_rfl) (by kernel_rfl) (fun _ _ _ h => h) (Or.inl ⟨?g1_5_34, ?y1_5_34⟩) hS ?_
          case i1_5_34 => simp only [List.getElem?_toArray, List.getElem?_cons_succ, List.getElem?_cons_zero]; rfl
          case g1_5_34 => rfl
          case y1_5_34 => (intro w hSw; (go_simp <;> with_reducible rfl))
          (try simp only [Act.put, List.setIfInBounds_toArray, List.set_cons_zero, List.set_cons_succ])
          refine wpAnyH_take (i := 6) (oi := ?o1_6_35) (v := ?v1_6_35) ?i1_6_35 (by kernel_rfl) (by kernel_rfl) (by kernel_rfl) (fun _ _ _ h => h) (Or.inl ⟨?g1_6_35, ?y1_6_35⟩) hS ?_
          case i1_6_35 => simp only [List.getElem?_toArray, List.getElem?_cons_succ, List.getElem?_cons_zero]; rfl
          case g1_6_35 => rfl
          case y1_6_35 => (intro w hSw; (go_simp <;> with_reducible rfl))
          (try simp only [Act.put, List.setIfInBounds_toArray, List.set_cons_zero, List.set_cons_succ])
          refine wpAnyH_take (i := 7) (oi := ?o1_7_36) (v := ?v1_7_36) ?i1_7_36 (by kernel_rfl) (by kernel_rfl) (by kernel_rfl) (fun _ _ _ h => h) (Or.inl ⟨?g1_7_36, ?y1_7_36⟩) hS ?_
          case i1_7_36 => simp only [List.getElem?_toArray, List.getElem?_cons_succ, List.getElem?_cons_zero]; rfl
          case g1_7_36 => rfl
          case y1_7_36 => (intro w hSw; (go_simp <;> with_reducible rfl))
          (try simp only [Act.put, List.setIfInBounds_toArray, List.set_cons_zero, List.set_cons_succ])
          refine wpAnyH_ready (rs := [9]) (by kernel_rfl) (by simp) ?_
          refine (AllReadyH.cons (o := ?or1_37_9) ?ir1_37_9 (fun K hK => ?str1_37_9) AllReadyH.nil)
          case ir1_37_9 => simp only [List.getElem?_toArray, List.getElem?_cons_succ, List.getElem?_cons_zero]; rfl
          rw [if_pos (by rfl)]
          have fz0 := HM.out.frozen 0
          have fq0 := (HM.out.cell 0).trans rfl
          have fz1 := HM.out.frozen 1
          have fq1 := (HM.out.cell 1).trans rfl
          have fz2 := HM.out.frozen 2
          have fq2 := (HM.out.cell 2).trans rfl
          have fz3 := HM.out.frozen 3
          have fq3 := (HM.out.cell 3).trans rfl
          have fz4 := HM.out.frozen 4
          have fq4 := (HM.out.cell 4).trans rfl
          have fz5 := HM.out.frozen 5
          have fq5 := (HM.out.cell 5).trans rfl
          go_simp
          refine hK.out _ _ ?sr1_37_9 (fun hS => ?_)
          case sr1_37_9 => (exact ((set6_otherM HM.out (by have := HPM.out.1; omega) _ _ _ _ _ _).trans HX4.out))
          clear hK K
          (try simp only [Act.put, List.setIfInBounds_toArray, List.set_cons_zero, List.set_cons_succ])
          have HFX := Lib.hid (show Blk (set6 w4 _ (.string ⟨#[]⟩) (.string ⟨#[]⟩) (.int .i64 0) (.int .u64 0) (.string ⟨#[]⟩) (.slice A4 2 c4)) (kb + 1) 27 #[.string ⟨#[]⟩, .string ⟨#[]⟩, .int .i64 0, .int .u64 0, .string ⟨#[]⟩, .slice (some ⟨kb, 0, none⟩) 1 1] from (set6_otherM HM.out (by have := HPM.out.1; omega) (.string ⟨#[]⟩) (.string ⟨#[]⟩) (.int .i64 0) (.int .u64 0) (.string ⟨#[]⟩) (.slice A4 2 c4)).trans HX4.out)
          have HFM := Lib.hid (HM.out.set6 (.string ⟨#[]⟩) (.string ⟨#[]⟩) (.int .i64 0) (.int .u64 0) (.string ⟨#[]⟩) (.slice A4 2 c4))
          have HFW := Lib.hid (HW4.out.trans (set6_belowM HM.out HPM.out.2 (.string ⟨#[]⟩) (.string ⟨#[]⟩) (.int .i64 0) (.int .u64 0) (.string ⟨#[]⟩) (.slice A4 2 c4)))
          have HFL := Lib.hid ((HL4.out.set6 (Nat.zero_le _) HML.out (.string ⟨#[]⟩) (.string ⟨#[]⟩) (.int .i64 0) (.int .u64 0) (.string ⟨#[]⟩) (.slice A4 2 c4)).lies (Nat.zero_le _))
          refine wpAnyH_take (i := 10) (oi := ?o1_10_38) (v := ?v1_10_38) ?i1_10_38 (by kernel_rfl) (by kernel_rfl) (by kernel_rfl) (fun _ _ _ h => h) (Or.inl ⟨?g1_10_38, ?y1_10_38⟩) hS ?_
          case i1_10_38 => simp only [List.getElem?_toArray, List.getElem?_cons_succ, List.getElem?_cons_zero]; rfl
          case g1_10_38 => rfl
          case y1_10_38 => (intro w hSw; (go_simp <;> with_reducible rfl))
          (try simp only [Act.put, List.setIfInBounds_toArray, List.set_cons_zero, List.set_cons_succ])
          refine wpAnyH_done (by kernel_rfl) ?_ _
          refine NoPanic.normal ?_
      case' str1_25_8 =>
        rw [if_pos (by rfl)]
        go_simp
        refine hK.out _ _ ?sr1_25_8 (fun hS => ?_)
        case sr1_25_8 => (exact (show Blk (w3.alloc (.cells #[.string ⟨#[]⟩, .string ⟨#[]⟩, .int .i64 0, .int .u64 0, .string ⟨#[]⟩, .slice none 0 0] 27)) (kb + 1) 27 #[.string ⟨#[]⟩, .string ⟨#[]⟩, .int .i64 0, .int .u64 0, .string ⟨#[]⟩, .slice (some ⟨kb, 0, none⟩) 1 1] from Blk.alloc HXc.out _))
        clear hK K
        (try simp only [Act.put, List.setIfInBounds_toArray, List.set_cons_zero, List.set_cons_succ])
        have HM : Hid (Blk (w3.alloc (.cells #[.string ⟨#[]⟩, .string ⟨#[]⟩, .int .i64 0, .int .u64 0, .string ⟨#[]⟩, .slice none 0 0] 27)) (w3.heap.size) 27 #[.string ⟨#[]⟩, .string ⟨#[]⟩, .int .i64 0, .int .u64 0, .string ⟨#[]⟩, .slice none 0 0]) := Lib.hid (show Blk (w3.alloc (.cells #[.string ⟨#[]⟩, .string ⟨#[]⟩, .int .i64 0, .int .u64 0, .string ⟨#[]⟩, .slice none 0 0] 27)) (w3.heap.size) 27 #[.string ⟨#[]⟩, .string ⟨#[]⟩, .int .i64 0, .int .u64 0, .string ⟨#[]⟩, .slice none 0 0] from Blk.new_at9 (by simp) _ _)
        have HPM : Hid (kb + 1 < (w3.heap.size) ∧ w2.heap.size ≤ (w3.heap.size)) := Lib.hid (by have h1 := HNB.out.lt; (try have h3 := HS3.out); (try have h4 := HS4.out); omega)
        try replace HP : Hid (Blk (w3.alloc (.cells #[.string ⟨#[]⟩, .string ⟨#[]⟩, .int .i64 0, .int .u64 0, .string ⟨#[]⟩, .slice none 0 0] 27)) _ 43 #[.string ⟨#[98]⟩, .string ⟨#[]⟩]) := Lib.hid (show Blk (w3.alloc (.cells #[.string ⟨#[]⟩, .string ⟨#[]⟩, .int .i64 0, .int .u64 0, .string ⟨#[]⟩, .slice none 0 0] 27)) _ 43 #[.string ⟨#[98]⟩, .string ⟨#[]⟩] from Blk.alloc HP.out _)
        replace HXc : Hid (Blk (w3.alloc (.cells #[.string ⟨#[]⟩, .string ⟨#[]⟩, .int .i64 0, .int .u64 0, .string ⟨#[]⟩, .slice none 0 0] 27)) (kb + 1) 27 #[.string ⟨#[]⟩, .string ⟨#[]⟩, .int .i64 0, .int .u64 0, .string ⟨#[]⟩, .slice (some ⟨kb, 0, none⟩) 1 1]) := Lib.hid (show Blk (w3.alloc (.cells #[.string ⟨#[]⟩, .string ⟨#[]⟩, .int .i64 0, .int .u64 0, .string ⟨#[]⟩, .slice none 0 0] 27)) (kb + 1) 27 #[.string ⟨#[]⟩, .string ⟨#[]⟩, .int .i64 0, .int .u64 0, .string ⟨#[]⟩, .slice (some ⟨kb, 0, none⟩) 1 1] from Blk.alloc HXc.out _)
        replace HWc : Hid (Below w2.heap.size w2 (w3.alloc (.cells #[.string ⟨#[]⟩, .string ⟨#[]⟩, .int .i64 0, .int .u64 0, .string ⟨#[]⟩, .slice none 0 0] 27))) := Lib.hid (bal9 HWc.out _)
        refine wpAnyH_ready (rs := [2]) (by kernel_rfl) (by simp) ?_
        refine (AllReadyH.cons (o := ?or1_39_2) ?ir1_39_2 (fun K hK => ?str1_39_2) AllReadyH.nil)
        case ir1_39_2 => simp only [List.getElem?_toArray, List.getElem?_cons_succ, List.getElem?_cons_zero]; rfl
        rw [if_pos (by rfl)]
        go_simp
        refine hK.out _ _ ?sr1_39_2 (fun hS => ?_)
        case sr1_39_2 => (exact (show Blk ((w3.alloc (.cells #[.string ⟨#[]⟩, .string ⟨#[]⟩, .int .i64 0, .int .u64 0, .string ⟨#[]⟩, .slice none 0 0] 27)).alloc (.cells #[.string ⟨#[98]⟩, .string ⟨#[]⟩] 43)) (kb + 1) 27 #[.string ⟨#[]⟩, .string ⟨#[]⟩, .int .i64 0, .int .u64 0, .string ⟨#[]⟩, .slice (some ⟨kb, 0, none⟩) 1 1] from Blk.alloc HXc.out _))
        clear hK K
        (try simp only [Act.put, List.setIfInBounds_toArray, List.set_cons_zero, List.set_cons_succ])
        have HP : Hid (Blk ((w3.alloc (.cells #[.string ⟨#[]⟩, .string ⟨#[]⟩, .int .i64 0, .int .u64 0, .string ⟨#[]⟩, .slice none 0 0] 27)).alloc (.cells #[.string ⟨#[98]⟩, .string ⟨#[]⟩] 43)) (w3.heap.size + 1) 43 #[.string ⟨#[98]⟩, .string ⟨#[]⟩]) := Lib.hid (show Blk ((w3.alloc (.cells #[.string ⟨#[]⟩, .string ⟨#[]⟩, .int .i64 0, .int .u64 0, .string ⟨#[]⟩, .slice none 0 0] 27)).alloc (.cells #[.string ⟨#[98]⟩, .string ⟨#[]⟩] 43)) (w3.heap.size + 1) 43 #[.string ⟨#[98]⟩, .string ⟨#[]⟩] from Blk.new_at9 (by simp) _ _)
        try replace HM : Hid (Blk ((w3.alloc (.cells #[.string ⟨#[]⟩, .string ⟨#[]⟩, .int .i64 0, .int .u64 0, .string ⟨#[]⟩, .slice none 0 0] 27)).alloc (.cells #[.string ⟨#[98]⟩, .string ⟨#[]⟩] 43)) _ 27 #[.string ⟨#[]⟩, .string ⟨#[]⟩, .int .i64 0, .int .u64 0, .string ⟨#[]⟩, .slice none 0 0]) := Lib.hid (show Blk ((w3.alloc (.cells #[.string ⟨#[]⟩, .string ⟨#[]⟩, .int .i64 0, .int .u64 0, .string ⟨#[]⟩, .slice none 0 0] 27)).alloc (.cells #[.string ⟨#[98]⟩, .string ⟨#[]⟩] 43)) _ 27 #[.string ⟨#[]⟩, .string ⟨#[]⟩, .int .i64 0, .int .u64 0, .string ⟨#[]⟩, .slice none 0 0] from Blk.alloc HM.out _)
        replace HXc : Hid (Blk ((w3.alloc (.cells #[.string ⟨#[]⟩, .string ⟨#[]⟩, .int .i64 0, .int .u64 0, .string ⟨#[]⟩, .slice none 0 0] 27)).alloc (.cells #[.string ⟨#[98]⟩, .string ⟨#[]⟩] 43)) (kb + 1) 27 #[.string ⟨#[]⟩, .string ⟨#[]⟩, .int .i64 0, .int .u64 0, .string ⟨#[]⟩, .slice (some ⟨kb, 0, none⟩) 1 1]) := Lib.hid (show Blk ((w3.alloc (.cells #[.string ⟨#[]⟩, .string ⟨#[]⟩, .int .i64 0, .int .u64 0, .string ⟨#[]⟩, .slice none 0 0] 27)).alloc (.cells #[.string ⟨#[98]⟩, .string ⟨#[]⟩] 43)) (kb + 1) 27 #[.string ⟨#[]⟩, .string ⟨#[]⟩, .int .i64 0, .int .u64 0, .string ⟨#[]⟩, .slice (some ⟨kb, 0, none⟩) 1 1] from Blk.alloc HXc.out _)
        replace HWc : Hid (Below w2.heap.size w2 ((w3.alloc (.cells #[.string ⟨#[]⟩, .string ⟨#[]⟩, .int .i64 0, .int .u64 0, .string ⟨#[]⟩, .slice none 0 0] 27)).alloc (.cells #[.string ⟨#[98]⟩, .string ⟨#[]⟩] 43))) := Lib.hid (bal9 HWc.out _)
        refine wpAnyH_ready (rs := [4]) (by kernel_rfl) (by simp) ?_
        refine (AllReadyH.cons (o := ?or1_40_4) ?ir1_40_4 (fun K hK => ?str1_40_4) AllReadyH.nil)
        case ir1_40_4 => simp only [List.getElem?_toArray, List.getElem?_cons_succ, List.getElem?_cons_zero]; rfl
        rw [if_pos (by rfl)]
        go_simp
        refine (KS.out ((w3.alloc (.cells #[.string ⟨#[]⟩, .string ⟨#[]⟩, .int .i64 0, .int .u64 0, .string ⟨#[]⟩, .slice none 0 0] 27)).alloc (.cells #[.string ⟨#[98]⟩, .string ⟨#[]⟩] 43)) _ HWc.out HP.out).mono ?_
        rintro r w4 ⟨cs4, rfl, hl4, hb4⟩
        obtain ⟨A4, c4, rfl⟩ := hl4.p.cells0 2 rfl
        have HL4 := Lib.hid hl4.p
        have HML := Lib.hid HM.out.lt
        try replace HM := Lib.hid ((show Blk ((w3.alloc (.cells #[.string ⟨#[]⟩, .string ⟨#[]⟩, .int .i64 0, .int .u64 0, .string ⟨#[]⟩, .slice none 0 0] 27)).alloc (.cells #[.string ⟨#[98]⟩, .string ⟨#[]⟩] 43)) _ 27 #[.string ⟨#[]⟩, .string ⟨#[]⟩, .int .i64 0, .int .u64 0, .string ⟨#[]⟩, .slice none 0 0] from HM.out).below hb4 HM.out.lt)
        have HSZ4 := Lib.hid hb4.size
        replace HXc := Lib.hid ((show Blk ((w3.alloc (.cells #[.string ⟨#[]⟩, .string ⟨#[]⟩, .int .i64 0, .int .u64 0, .string ⟨#[]⟩, .slice none 0 0] 27)).alloc (.cells #[.string ⟨#[98]⟩, .string ⟨#[]⟩] 43)) (kb + 1) 27 #[.string ⟨#[]⟩, .string ⟨#[]⟩, .int .i64 0, .int .u64 0, .string ⟨#[]⟩, .slice (some ⟨kb, 0, none⟩) 1 1] from HXc.out).below hb4 HXc.out.lt)
        replace HWc := Lib.hid ((show Below w2.heap.size w2 ((w3.alloc (.cells #[.string ⟨#[]⟩, .string ⟨#[]⟩, .int .i64 0, .int .u64 0, .string ⟨#[]⟩, .slice none 0 0] 27)).alloc (.cells #[.string ⟨#[98]⟩, .string ⟨#[]⟩] 43)) from HWc.out).trans (hb4.mono HWc.out.size))
        have HS4 : Hid (w2.heap.size ≤ w4.heap.size) := Lib.hid HWc.out.size
        have HX4 := HXc
        have HW4 := HWc
        clear hb4 hl4
        go_wp2_with fail
        refine hK.out _ _ ?sr1_40_4 (fun hS => ?_)
        case sr1_40_4 => (exact HXc.out)
        clear hK K
        (try simp only [Act.put, List.setIfInBounds_toArray, List.set_cons_zero, List.set_cons_succ])
        refine wpAnyH_take (i := 5) (oi := ?o1_5_41) (v := ?v1_5_41) ?i1_5_41 (by kernel_rfl) (by kernel_rfl) (by kernel_rfl) (fun _ _ _ h => h) (Or.inl ⟨?g1_5_41, ?y1_5_41⟩) hS ?_
        case i1_5_41 => simp only [List.getElem?_toArray, List.getElem?_cons_succ, List.getElem?_cons_zero]; rfl
        case g1_5_41 => rfl
        case y1_5_41 => (intro w hSw; (go_simp <;> with_reducible rfl))
        (try simp only [Act.put, List.setIfInBounds_toArray, List.set_cons_zero, List.set_cons_succ])
        refine wpAnyH_take (i := 6) (oi := ?o1_6_42) (v := ?v1_6_42) ?i1_6_42 (by kernel_rfl) (by kernel_rfl) (by kernel_rfl) (fun _ _ _ h => h) (Or.inl ⟨?g1_6_42, ?y1_6_42⟩) hS ?_
        case i1_6_42 => simp only [List.getElem?_toArray, List.getElem?_cons_succ, List.getElem?_cons_zero]; rfl
        case g1_6_42 => rfl
        case y1_6_42 => (intro w hSw; (go_simp <;> with_reducible rfl))
        (try simp only [Act.put, List.setIfInBounds_toArray, List.set_cons_zero, List.set_cons_succ])
        refine wpAnyH_take (i := 7) (oi := ?o1_7_43) (v := ?v1_7_43) ?i1_7_43 (by kernel_rfl) (by kernel_rfl) (by kernel_rfl) (fun _ _ _ h => h) (Or.inl ⟨?g1_7_43, ?y1_7_43⟩) hS ?_
        case i1_7_43 => simp only [List.getElem?_toArray, List.getElem?_cons_succ, List.getElem?_cons_zero]; rfl
        case g1_7_43 => rfl
        case y1_7_43 => (intro w hSw; (go_simp <;> with_reducible rfl))
        (try simp only [Act.put, List.setIfInBounds_toArray, List.set_cons_zero, List.set_cons_succ])
        refine wpAnyH_ready (rs := [9]) (by kernel_rfl) (by simp) ?_
        refine (AllReadyH.cons (o := ?or1_44_9) ?ir1_44_9 (fun K hK => ?str1_44_9) AllReadyH.nil)
        case ir1_44_9 => simp only [List.getElem?_toArray, List.getElem?_cons_succ, List.getElem?_cons_zero]; rfl
        rw [if_pos (by rfl)]
        have fz0 := HM.out.frozen 0
        have fq0 := (HM.out.cell 0).trans rfl
        have fz1 := HM.out.frozen 1
        have fq1 := (HM.out.cell 1).trans rfl
        have fz2 := HM.out.frozen 2
        have fq2 := (HM.out.cell 2).trans rfl
        have fz3 := HM.out.frozen 3
        have fq3 := (HM.out.cell 3).trans rfl
        have fz4 := HM.out.frozen 4
        have fq4 := (HM.out.cell 4).trans rfl
        have fz5 := HM.out.frozen 5
        have fq5 := (HM.out.cell 5).trans rfl
        go_simp
        refine hK.out _ _ ?sr1_44_9 (fun hS => ?_)
        case sr1_44_9 => (exact ((set6_otherM HM.out (by have := HPM.out.1; omega) _ _ _ _ _ _).trans HX4.out))
        clear hK K
        (try simp only [Act.put, List.setIfInBounds_toArray, List.set_cons_zero, List.set_cons_succ])
        have HFX := Lib.hid (show Blk (set6 w4 _ (.string ⟨#[]⟩) (.string ⟨#[]⟩) (.int .i64 0) (.int .u64 0) (.string ⟨#[]⟩) (.slice A4 2 c4)) (kb + 1) 27 #[.string ⟨#[]⟩, .string ⟨#[]⟩, .int .i64 0, .int .u64 0, .string ⟨#[]⟩, .slice (some ⟨kb, 0, none⟩) 1 1] from (set6_otherM HM.out (by have := HPM.out.1; omega) (.string ⟨#[]⟩) (.string ⟨#[]⟩) (.int .i64 0) (.int .u64 0) (.string ⟨#[]⟩) (.slice A4 2 c4)).trans HX4.out)
        have HFM := Lib.hid (HM.out.set6 (.string ⟨#[]⟩) (.string ⟨#[]⟩) (.int .i64 0) (.int .u64 0) (.string ⟨#[]⟩) (.slice A4 2 c4))
        have HFW := Lib.hid (HW4.out.trans (set6_belowM HM.out HPM.out.2 (.string ⟨#[]⟩) (.string ⟨#[]⟩) (.int .i64 0) (.int .u64 0) (.string ⟨#[]⟩) (.slice A4 2 c4)))
        have HFL := Lib.hid ((HL4.out.set6 (Nat.zero_le _) HML.out (.string ⟨#[]⟩) (.string ⟨#[]⟩) (.int .i64 0) (.int .u64 0) (.string ⟨#[]⟩) (.slice A4 2 c4)).lies (Nat.zero_le _))
        refine wpAnyH_take (i := 10) (oi := ?o1_10_45) (v := ?v1_10_45) ?i1_10_45 (by kernel_rfl) (by kernel_rfl) (by kernel_rfl) (fun _ _ _ h => h) (Or.inl ⟨?g1_10_45, ?y1_10_45⟩) hS ?_
        case i1_10_45 => simp only [List.getElem?_toArray, List.getElem?_cons_succ, List.getElem?_cons_zero]; rfl
        case g1_10_45 => rfl
        case y1_10_45 => (intro w hSw; (go_simp <;> with_reducible rfl))
        (try simp only [Act.put, List.setIfInBounds_toArray, List.set_cons_zero, List.set_cons_succ])
        refine wpAnyH_done (by kernel_rfl) ?_ _
        refine NoPanic.normal ?_
    case' str1_3_8 =>
      rw [if_pos (by rfl)]
      go_simp
      refine hK.out _ _ ?sr1_3_8 (fun hS => ?_)
      case sr1_3_8 => (exact (show Blk (w2.alloc (.cells #[.string ⟨#[]⟩, .string ⟨#[]⟩, .int .i64 0, .int .u64 0, .string ⟨#[]⟩, .slice none 0 0] 27)) (kb + 1) 27 #[.string ⟨#[]⟩, .string ⟨#[]⟩, .int .i64 0, .int .u64 0, .string ⟨#[]⟩, .slice (some ⟨kb, 0, none⟩) 1 1] from Blk.alloc HXc.out _))
      clear hK K
      (try simp only [Act.put, List.setIfInBounds_toArray, List.set_cons_zero, List.set_cons_succ])
      have HM : Hid (Blk (w2.alloc (.cells #[.string ⟨#[]⟩, .string ⟨#[]⟩, .int .i64 0, .int .u64 0, .string ⟨#[]⟩, .slice none 0 0] 27)).drew (w2.heap.size) 27 #[.string ⟨#[]⟩, .string ⟨#[]⟩, .int .i64 0, .int .u64 0, .string ⟨#[]⟩, .slice none 0 0]) := Lib.hid (show Blk (w2.alloc (.cells #[.string ⟨#[]⟩, .string ⟨#[]⟩, .int .i64 0, .int .u64 0, .string ⟨#[]⟩, .slice none 0 0] 27)) (w2.heap.size) 27 #[.string ⟨#[]⟩, .string ⟨#[]⟩, .int .i64 0, .int .u64 0, .string ⟨#[]⟩, .slice none 0 0] from Blk.new_at9 (by simp) _ _)
      have HPM : Hid (kb + 1 < (w2.heap.size) ∧ w2.heap.size ≤ (w2.heap.size)) := Lib.hid (by have h1 := HNB.out.lt; (try have h3 := HS3.out); (try have h4 := HS4.out); omega)
      try replace HP : Hid (Blk (w2.alloc (.cells #[.string ⟨#[]⟩, .string ⟨#[]⟩, .int .i64 0, .int .u64 0, .string ⟨#[]⟩, .slice none 0 0] 27)).drew _ 43 #[.string ⟨#[98]⟩, .string ⟨#[]⟩]) := Lib.hid (show Blk (w2.alloc (.cells #[.string ⟨#[]⟩, .string ⟨#[]⟩, .int .i64 0, .int .u64 0, .string ⟨#[]⟩, .slice none 0 0] 27)) _ 43 #[.string ⟨#[98]⟩, .string ⟨#[]⟩] from Blk.alloc HP.out _)
      replace HXc : Hid (Blk (w2.alloc (.cells #[.string ⟨#[]⟩, .string ⟨#[]⟩, .int .i64 0, .int .u64 0, .string ⟨#[]⟩, .slice none 0 0] 27)).drew (kb + 1) 27 #[.string ⟨#[]⟩, .string ⟨#[]⟩, .int .i64 0, .int .u64 0, .string ⟨#[]⟩, .slice (some ⟨kb, 0, none⟩) 1 1]) := Lib.hid (show Blk (w2.alloc (.cells #[.string ⟨#[]⟩, .string ⟨#[]⟩, .int .i64 0, .int .u64 0, .string ⟨#[]⟩, .slice none 0 0] 27)) (kb + 1) 27 #[.string ⟨#[]⟩, .string ⟨#[]⟩, .int .i64 0, .int .u64 0, .string ⟨#[]⟩, .slice (some ⟨kb, 0, none⟩) 1 1] from Blk.alloc HXc.out _)
      replace HWc : Hid (Below w2.heap.size w2 (w2.alloc (.cells #[.string ⟨#[]⟩, .string ⟨#[]⟩, .int .i64 0, .int .u64 0, .string ⟨#[]⟩, .slice none 0 0] 27)).drew) := Lib.hid (bal9.drew HWc.out _)
      refine wpAnyH_ready (rs := [2, 3]) (by kernel_rfl) (by simp) ?_
      refine (AllReadyH.cons (o := ?or1_46_2) ?ir1_46_2 (fun K hK => ?str1_46_2) (AllReadyH.cons (o := ?or1_46_3) ?ir1_46_3 (fun K hK => ?str1_46_3) AllReadyH.nil))
      case ir1_46_2 => simp only [List.getElem?_toArray, List.getElem?_cons_succ, List.getElem?_cons_zero]; rfl
      case ir1_46_3 => simp only [List.getElem?_toArray, List.getElem?_cons_succ, List.getElem?_cons_zero]; rfl
      case' str1_46_2 =>
        rw [if_pos (by rfl)]
        go_simp
        refine hK.out _ _ ?sr1_46_2 (fun hS => ?_)
        case sr1_46_2 => (exact (show Blk ((w2.alloc (.cells #[.string ⟨#[]⟩, .string ⟨#[]⟩, .int .i64 0, .int .u64 0, .string ⟨#[]⟩, .slice none 0 0] 27)).alloc (.cells #[.string ⟨#[98]⟩, .string ⟨#[]⟩] 43)) (kb + 1) 27 #[.string ⟨#[]⟩, .string ⟨#[]⟩, .int .i64 0, .int .u64 0, .string ⟨#[]⟩, .slice (some ⟨kb, 0, none⟩) 1 1] from Blk.alloc HXc.out _))
        clear hK K
        (try simp only [Act.put, List.setIfInBounds_toArray, List.set_cons_zero, List.set_cons_succ])
        have HP : Hid (Blk ((w2.alloc (.cells #[.string ⟨#[]⟩, .string ⟨#[]⟩, .int .i64 0, .int .u64 0, .string ⟨#[]⟩, .slice none 0 0] 27)).alloc (.cells #[.string ⟨#[98]⟩, .string ⟨#[]⟩] 43)).drew (w2.heap.size + 1) 43 #[.string ⟨#[98]⟩, .string ⟨#[]⟩]) := Lib.hid (show Blk ((w2.alloc (.cells #[.string ⟨#[]⟩, .string ⟨#[]⟩, .int .i64 0, .int .u64 0, .string ⟨#[]⟩, .slice none 0 0] 27)).alloc (.cells #[.string ⟨#[98]⟩, .string ⟨#[]⟩] 43)) (w2.heap.size + 1) 43 #[.string ⟨#[98]⟩, .string ⟨#[]⟩] from Blk.new_at9 (by simp) _ _)
        try replace HM : Hid (Blk ((w2.alloc (.cells #[.string ⟨#[]⟩, .string ⟨#[]⟩, .int .i64 0, .int .u64 0, .string ⟨#[]⟩, .slice none 0 0] 27)).alloc (.cells #[.string ⟨#[98]⟩, .string ⟨#[]⟩] 43)).drew _ 27 #[.string ⟨#[]⟩, .string ⟨#[]⟩, .int .i64 0, .int .u64 0, .string ⟨#[]⟩, .slice none 0 0]) := Lib.hid (show Blk ((w2.alloc (.cells #[.string ⟨#[]⟩, .string ⟨#[]⟩, .int .i64 0, .int .u64 0, .string ⟨#[]⟩, .slice none 0 0] 27)).alloc (.cells #[.string ⟨#[98]⟩, .string ⟨#[]⟩] 43)) _ 27 #[.string ⟨#[]⟩, .string ⟨#[]⟩, .int .i64 0, .int .u64 0, .string ⟨#[]⟩, .slice none 0 0] from Blk.alloc HM.out _)
        replace HXc : Hid (Blk ((w2.alloc (.cells #[.string ⟨#[]⟩, .string ⟨#[]⟩, .int .i64 0, .int .u64 0, .string ⟨#[]⟩, .slice none 0 0] 27)).alloc (.cells #[.string ⟨#[98]⟩, .string ⟨#[]⟩] 43)).drew (kb + 1) 27 #[.string ⟨#[]⟩, .string ⟨#[]⟩, .int .i64 0, .int .u64 0, .string ⟨#[]⟩, .slice (some ⟨kb, 0, none⟩) 1 1]) := Lib.hid (show Blk ((w2.alloc (.cells #[.string ⟨#[]⟩, .string ⟨#[]⟩, .int .i64 0, .int .u64 0, .string ⟨#[]⟩, .slice none 0 0] 27)).alloc (.cells #[.string ⟨#[98]⟩, .string ⟨#[]⟩] 43)) (kb + 1) 27 #[.string ⟨#[]⟩, .string ⟨#[]⟩, .int .i64 0, .int .u64 0, .string ⟨#[]⟩, .slice (some ⟨kb, 0, none⟩) 1 1] from Blk.alloc HXc.out _)
        replace HWc : Hid (Below w2.heap.size w2 ((w2.alloc (.cells #[.string ⟨#[]⟩, .string ⟨#[]⟩, .int .i64 0, .int .u64 0, .string ⟨#[]⟩, .slice none 0 0] 27)).alloc (.cells #[.string ⟨#[98]⟩, .string ⟨#[]⟩] 43)).drew) := Lib.hid (bal9.drew HWc.out _)
        refine wpAnyH_ready (rs := [3]) (by kernel_rfl) (by simp) ?_
        refine (AllReadyH.cons (o := ?or1_47_3) ?ir1_47_3 (fun K hK => ?str1_47_3) AllReadyH.nil)
        case ir1_47_3 => simp only [List.getElem?_toArray, List.getElem?_cons_succ, List.getElem?_cons_zero]; rfl
        rw [if_pos (by rfl)]
        go_simp
        refine (leaf_any ⟨#[98]⟩ ((w2.alloc (.cells #[.string ⟨#[]⟩, .string ⟨#[]⟩, .int .i64 0, .int .u64 0, .string ⟨#[]⟩, .slice none 0 0] 27)).alloc (.cells #[.string ⟨#[98]⟩, .string ⟨#[]⟩] 43)).drew).mono ?_
        rintro r w3 ⟨rfl, hb3⟩
        try replace HP := Lib.hid ((show Blk ((w2.alloc (.cells #[.string ⟨#[]⟩, .string ⟨#[]⟩, .int .i64 0, .int .u64 0, .string ⟨#[]⟩, .slice none 0 0] 27)).alloc (.cells #[.string ⟨#[98]⟩, .string ⟨#[]⟩] 43)).drew _ 43 #[.string ⟨#[98]⟩, .string ⟨#[]⟩] from HP.out).below hb3 HP.out.lt)
        try replace HM := Lib.hid ((show Blk ((w2.alloc (.cells #[.string ⟨#[]⟩, .string ⟨#[]⟩, .int .i64 0, .int .u64 0, .string ⟨#[]⟩, .slice none 0 0] 27)).alloc (.cells #[.string ⟨#[98]⟩, .string ⟨#[]⟩] 43)).drew _ 27 #[.string ⟨#[]⟩, .string ⟨#[]⟩, .int .i64 0, .int .u64 0, .string ⟨#[]⟩, .slice none 0 0] from HM.out).below hb3 HM.out.lt)
        replace HXc := Lib.hid ((show Blk ((w2.alloc (.cells #[.string ⟨#[]⟩, .string ⟨#[]⟩, .int .i64 0, .int .u64 0, .string ⟨#[]⟩, .slice none 0 0] 27)).alloc (.cells #[.string ⟨#[98]⟩, .string ⟨#[]⟩] 43)).drew (kb + 1) 27 #[.string ⟨#[]⟩, .string ⟨#[]⟩, .int .i64 0, .int .u64 0, .string ⟨#[]⟩, .slice (some ⟨kb, 0, none⟩) 1 1] from HXc.out).below hb3 HXc.out.lt)
        replace HWc := Lib.hid ((show Below w2.heap.size w2 ((w2.alloc (.cells #[.string ⟨#[]⟩, .string ⟨#[]⟩, .int .i64 0, .int .u64 0, .string ⟨#[]⟩, .slice none 0 0] 27)).alloc (.cells #[.string ⟨#[98]⟩, .string ⟨#[]⟩] 43)).drew from HWc.out).trans (hb3.mono HWc.out.size))
        have HS3 : Hid (w2.heap.size ≤ w3.heap.size) := Lib.hid HWc.out.size
        clear hb3
        go_wp2_with fail
        refine hK.out _ _ ?sr1_47_3 (fun hS => ?_)
        case sr1_47_3 => (exact HXc.out)
        clear hK K
        (try simp only [Act.put, List.setIfInBounds_toArray, List.set_cons_zero, List.set_cons_succ])
        refine wpAnyH_ready (rs := [4]) (by kernel_rfl) (by simp) ?_
        refine (AllReadyH.cons (o := ?or1_48_4) ?ir1_48_4 (fun K hK => ?str1_48_4) AllReadyH.nil)
        case ir1_48_4 => simp only [List.getElem?_toArray, List.getElem?_cons_succ, List.getElem?_cons_zero]; rfl
        rw [if_pos (by rfl)]
        go_simp
        refine (KS.out w3 _ HWc.out HP.out).mono ?_
        rintro r w4 ⟨cs4, rfl, hl4, hb4⟩
        obtain ⟨A4, c4, rfl⟩ := hl4.p.cells0 2 rfl
        have HL4 := Lib.hid hl4.p
        have HML := Lib.hid HM.out.lt
        try replace HM := Lib.hid ((show Blk w3 _ 27 #[.string ⟨#[]⟩, .string ⟨#[]⟩, .int .i64 0, .int .u64 0, .string ⟨#[]⟩, .slice none 0 0] from HM.out).below hb4 HM.out.lt)
        have HSZ4 := Lib.hid hb4.size
        replace HXc := Lib.hid ((show Blk w3 (kb + 1) 27 #[.string ⟨#[]⟩, .string ⟨#[]⟩, .int .i64 0, .int .u64 0, .string ⟨#[]⟩, .slice (some ⟨kb, 0, none⟩) 1 1] from HXc.out).below hb4 HXc.out.lt)
        replace HWc := Lib.hid ((show Below w2.heap.size w2 w3 from HWc.out).trans (hb4.mono HWc.out.size))
        have HS4 : Hid (w2.heap.size ≤ w4.heap.size) := Lib.hid HWc.out.size
        have HX4 := HXc
        have HW4 := HWc
        clear hb4 hl4
        go_wp2_with fail
        refine hK.out _ _ ?sr1_48_4 (fun hS => ?_)
        case sr1_48_4 => (exact HXc.out)
        clear hK K
        (try simp only [Act.put, List.setIfInBounds_toArray, List.set_cons_zero, List.set_cons_succ])
        refine wpAnyH_take (i := 5) (oi := ?o1_5_49) (v := ?v1_5_49) ?i1_5_49 (by kernel_rfl) (by kernel_rfl) (by kernel_rfl) (fun _ _ _ h => h) (Or.inl ⟨?g1_5_49, ?y1_5_49⟩) hS ?_
        case i1_5_49 => simp only [List.getElem?_toArray, List.getElem?_cons_succ, List.getElem?_cons_zero]; rfl
        case g1_5_49 => rfl
        case y1_5_49 => (intro w hSw; (go_simp <;> with_reducible rfl))
        (try simp only [Act.put, List.setIfInBounds_toArray, List.set_cons_zero, List.set_cons_succ])
        refine wpAnyH_take (i := 6) (oi := ?o1_6_50) (v := ?v1_6_50) ?i1_6_50 (by kernel_rfl) (by kernel_rfl) (by kernel_rfl) (fun _ _ _ h => h) (Or.inl ⟨?g1_6_50, ?y1_6_50⟩) hS ?_
        case i1_6_50 => simp only [List.getElem?_toArray, List.getElem?_cons_succ, List.getElem?_cons_zero]; rfl
        case g1_6_50 => rfl
        case y1_6_50 => (intro w hSw; (go_simp <;> with_reducible rfl))
        (try simp only [Act.put, List.setIfInBounds_toArray, List.set_cons_zero, List.set_cons_succ])
        refine wpAnyH_take (i := 7) (oi := ?o1_7_51) (v := ?v1_7_51) ?i1_7_51 (by kernel_rfl) (by kernel_rfl) (by kernel_rfl) (fun _ _ _ h => h) (Or.inl ⟨?g1_7_51, ?y1_7_51⟩) hS ?_
        case i1_7_51 => simp only [List.getElem?_toArray, List.getElem?_cons_succ, List.getElem?_cons_zero]; rfl
        case g1_7_51 => rfl
        case y1_7_51 => (intro w hSw; (go_simp <;> with_reducible rfl))
        (try simp only [Act.put, List.setIfInBounds_toArray, List.set_cons_zero, List.set_cons_succ])
        refine wpAnyH_ready (rs := [9]) (by kernel_rfl) (by simp) ?_
        refine (AllReadyH.cons (o := ?or1_52_9) ?ir1_52_9 (fun K hK => ?str1_52_9) AllReadyH.nil)
        case ir1_52_9 => simp only [List.getElem?_toArray, List.getElem?_cons_succ, List.getElem?_cons_zero]; rfl
        rw [if_pos (by rfl)]
        have fz0 := HM.out.frozen 0
        have fq0 := (HM.out.cell 0).trans rfl
        have fz1 := HM.out.frozen 1
        have fq1 := (HM.out.cell 1).trans rfl
        have fz2 := HM.out.frozen 2
        have fq2 := (HM.out.cell 2).trans rfl
        have fz3 := HM.out.frozen 3
        have fq3 := (HM.out.cell 3).trans rfl
        have fz4 := HM.out.frozen 4
        have fq4 := (HM.out.cell 4).trans rfl
        have fz5 := HM.out.frozen 5
        have fq5 := (HM.out.cell 5).trans rfl
        go_simp
        refine hK.out _ _ ?sr1_52_9 (fun hS => ?_)
        case sr1_52_9 => (exact ((set6_otherM HM.out (by have := HPM.out.1; omega) _ _ _ _ _ _).trans HX4.out))
        clear hK K
        (try simp only [Act.put, List.setIfInBounds_toArray, List.set_cons_zero, List.set_cons_succ])
        have HFX := Lib.hid (show Blk (set6 w4 _ (.string ⟨#[]⟩) (.string ⟨#[]⟩) (.int .i64 0) (.int .u64 0) (.string ⟨#[]⟩) (.slice A4 2 c4)) (kb + 1) 27 #[.string ⟨#[]⟩, .string ⟨#[]⟩, .int .i64 0, .int .u64 0, .string ⟨#[]⟩, .slice (some ⟨kb, 0, none⟩) 1 1] from (set6_otherM HM.out (by have := HPM.out.1; omega) (.string ⟨#[]⟩) (.string ⟨#[]⟩) (.int .i64 0) (.int .u64 0) (.string ⟨#[]⟩) (.slice A4 2 c4)).trans HX4.out)
        have HFM := Lib.hid (HM.out.set6 (.string ⟨#[]⟩) (.string ⟨#[]⟩) (.int .i64 0) (.int .u64 0) (.string ⟨#[]⟩) (.slice A4 2 c4))
        have HFW := Lib.hid (HW4.out.trans (set6_belowM HM.out HPM.out.2 (.string ⟨#[]⟩) (.string ⟨#[]⟩) (.int .i64 0) (.int .u64 0) (.string ⟨#[]⟩) (.slice A4 2 c4)))
        have HFL := Lib.hid ((HL4.out.set6 (Nat.zero_le _) HML.out (.string ⟨#[]⟩) (.string ⟨#[]⟩) (.int .i64 0) (.int .u64 0) (.string ⟨#[]⟩) (.slice A4 2 c4)).lies (Nat.zero_le _))
        refine wpAnyH_take (i := 10) (oi := ?o1_10_53) (v := ?v1_10_53) ?i1_10_53 (by kernel_rfl) (by kernel_rfl) (by kernel_rfl) (fun _ _ _ h => h) (Or.inl ⟨?g1_10_53, ?y1_10_53⟩) hS ?_
        case i1_10_53 => simp only [List.getElem?_toArray, List.getElem?_cons_succ, List.getElem?_cons_zero]; rfl
        case g1_10_53 => rfl
        case y1_10_53 => (intro w hSw; (go_simp <;> with_reducible rfl))
        (try simp only [Act.put, List.setIfInBounds_toArray, List.set_cons_zero, List.set_cons_succ])
        refine wpAnyH_done (by kernel_rfl) ?_ _
        refine NoPanic.normal ?_
      case' str1_46_3 =>
        rw [if_pos (by rfl)]
        go_simp
        refine (leaf_any ⟨#[98]⟩ (w2.alloc (.cells #[.string ⟨#[]⟩, .string ⟨#[]⟩, .int .i64 0, .int .u64 0, .string ⟨#[]⟩, .slice none 0 0] 27)).drew).mono ?_
        rintro r w3 ⟨rfl, hb3⟩
        try replace HP := Lib.hid ((show Blk (w2.alloc (.cells #[.string ⟨#[]⟩, .string ⟨#[]⟩, .int .i64 0, .int .u64 0, .string ⟨#[]⟩, .slice none 0 0] 27)).drew _ 43 #[.string ⟨#[98]⟩, .string ⟨#[]⟩] from HP.out).below hb3 HP.out.lt)
        try replace HM := Lib.hid ((show Blk (w2.alloc (.cells #[.string ⟨#[]⟩, .string ⟨#[]⟩, .int .i64 0, .int .u64 0, .string ⟨#[]⟩, .slice none 0 0] 27)).drew _ 27 #[.string ⟨#[]⟩, .string ⟨#[]⟩, .int .i64 0, .int .u64 0, .string ⟨#[]⟩, .slice none 0 0] from HM.out).below hb3 HM.out.lt)
        replace HXc := Lib.hid ((show Blk (w2.alloc (.cells #[.string ⟨#[]⟩, .string ⟨#[]⟩, .int .i64 0, .int .u64 0, .string ⟨#[]⟩, .slice none 0 0] 27)).drew (kb + 1) 27 #[.string ⟨#[]⟩, .string ⟨#[]⟩, .int .i64 0, .int .u64 0, .string ⟨#[]⟩, .slice (some ⟨kb, 0, none⟩) 1 1] from HXc.out).below hb3 HXc.out.lt)
        replace HWc := Lib.hid ((show Below w2.heap.size w2 (w2.alloc (.cells #[.string ⟨#[]⟩, .string ⟨#[]⟩, .int .i64 0, .int .u64 0, .string ⟨#[]⟩, .slice none 0 0] 27)).drew from HWc.out).trans (hb3.mono HWc.out.size))
        have HS3 : Hid (w2.heap.size ≤ w3.heap.size) := Lib.hid HWc.out.size
        clear hb3
        go_wp2_with fail
        refine hK.out _ _ ?sr1_46_3 (fun hS => ?_)
        case sr1_46_3 => (exact HXc.out)
        clear hK K
        (try simp only [Act.put, List.setIfInBounds_toArray, List.set_cons_zero, List.set_cons_succ])
        refine wpAnyH_ready (rs := [2]) (by kernel_rfl) (by simp) ?_
        refine (AllReadyH.cons (o := ?or1_54_2) ?ir1_54_2 (fun K hK => ?str1_54_2) AllReadyH.nil)
        case ir1_54_2 => simp only [List.getElem?_toArray, List.getElem?_cons_succ, List.getElem?_cons_zero]; rfl
        rw [if_pos (by rfl)]
        go_simp
        refine hK.out _ _ ?sr1_54_2 (fun hS => ?_)
        case sr1_54_2 => (exact (show Blk (w3.alloc (.cells #[.string ⟨#[98]⟩, .string ⟨#[]⟩] 43)) (kb + 1) 27 #[.string ⟨#[]⟩, .string ⟨#[]⟩, .int .i64 0, .int .u64 0, .string ⟨#[]⟩, .slice (some ⟨kb, 0, none⟩) 1 1] from Blk.alloc HXc.out _))
        clear hK K
        (try simp only [Act.put, List.setIfInBounds_toArray, List.set_cons_zero, List.set_cons_succ])
        have HP : Hid (Blk (w3.alloc (.cells #[.string ⟨#[98]⟩, .string ⟨#[]⟩] 43)) (w3.heap.size) 43 #[.string ⟨#[98]⟩, .string ⟨#[]⟩]) := Lib.hid (show Blk (w3.alloc (.cells #[.string ⟨#[98]⟩, .string ⟨#[]⟩] 43)) (w3.heap.size) 43 #[.string ⟨#[98]⟩, .string ⟨#[]⟩] from Blk.new_at9 (by simp) _ _)
        try replace HM : Hid (Blk (w3.alloc (.cells #[.string ⟨#[98]⟩, .string ⟨#[]⟩] 43)) _ 27 #[.string ⟨#[]⟩, .string ⟨#[]⟩, .int .i64 0, .int .u64 0, .string ⟨#[]⟩, .slice none 0 0]) := Lib.hid (show Blk (w3.alloc (.cells #[.string ⟨#[98]⟩, .string ⟨#[]⟩] 43)) _ 27 #[.string ⟨#[]⟩, .string ⟨#[]⟩, .int .i64 0, .int .u64 0, .string ⟨#[]⟩, .slice none 0 0] from Blk.alloc HM.out _)
        replace HXc : Hid (Blk (w3.alloc (.cells #[.string ⟨#[98]⟩, .string ⟨#[]⟩] 43)) (kb + 1) 27 #[.string ⟨#[]⟩, .string ⟨#[]⟩, .int .i64 0, .int .u64 0, .string ⟨#[]⟩, .slice (some ⟨kb, 0, none⟩) 1 1]) := Lib.hid (show Blk (w3.alloc (.cells #[.string ⟨#[98]⟩, .string ⟨#[]⟩] 43)) (kb + 1) 27 #[.string ⟨#[]⟩, .string ⟨#[]⟩, .int .i64 0, .int .u64 0, .string ⟨#[]⟩, .slice (some ⟨kb, 0, none⟩) 1 1] from Blk.alloc HXc.out _)
        replace HWc : Hid (Below w2.heap.size w2 (w3.alloc (.cells #[.string ⟨#[98]⟩, .string ⟨#[]⟩] 43))) := Lib.hid (bal9 HWc.out _)
        refine wpAnyH_ready (rs := [4]) (by kernel_rfl) (by simp) ?_
        refine (AllReadyH.cons (o := ?or1_55_4) ?ir1_55_4 (fun K hK => ?str1_55_4) AllReadyH.nil)
        case ir1_55_4 => simp only [List.getElem?_toArray, List.getElem?_cons_succ, List.getElem?_cons_zero]; rfl
        rw [if_pos (by rfl)]
        go_simp
        refine (KS.out (w3.alloc (.cells #[.string ⟨#[98]⟩, .string ⟨#[]⟩] 43)) _ HWc.out HP.out).mono ?_
        rintro r w4 ⟨cs4, rfl, hl4, hb4⟩
        obtain ⟨A4, c4, rfl⟩ := hl4.p.cells0 2 rfl
        have HL4 := Lib.hid hl4.p
        have HML := Lib.hid HM.out.lt
        try replace HM := Lib.hid ((show Blk (w3.alloc (.cells #[.string ⟨#[98]⟩, .string ⟨#[]⟩] 43)) _ 27 #[.string ⟨#[]⟩, .string ⟨#[]⟩, .int .i64 0, .int .u64 0, .string ⟨#[]⟩, .slice none 0 0] from HM.out).below hb4 HM.out.lt)
        have HSZ4 := Lib.hid hb4.size
        replace HXc := Lib.hid ((show Blk (w3.alloc (.cells #[.string ⟨#[98]⟩, .string ⟨#[]⟩] 43)) (kb + 1) 27 #[.string ⟨#[]⟩, .string ⟨#[]⟩, .int .i64 0, .int .u64 0, .string ⟨#[]⟩, .slice (some ⟨kb, 0, none⟩) 1 1] from HXc.out).below hb4 HXc.out.lt)
        replace HWc := Lib.hid ((show Below w2.heap.size w2 (w3.alloc (.cells #[.string ⟨#[98]⟩, .string ⟨#[]⟩] 43)) from HWc.out).trans (hb4.mono HWc.out.size))
        have HS4 : Hid (w2.heap.size ≤ w4.heap.size) := Lib.hid HWc.out.size
        have HX4 := HXc
        have HW4 := HWc
        clear hb4 hl4
        go_wp2_with fail
        refine hK.out _ _ ?sr1_55_4 (fun hS => ?_)
        case sr1_55_4 => (exact HXc.out)
        clear hK K
        (try simp only [Act.put, List.setIfInBounds_toArray, List.set_cons_zero, List.set_cons_succ])
        refine wpAnyH_take (i := 5) (oi := ?o1_5_56) (v := ?v1_5_56) ?i1_5_56 (by kernel_rfl) (by kernel_rfl) (by kernel_rfl) (fun _ _ _ h => h) (Or.inl ⟨?g1_5_56, ?y1_5_56⟩) hS ?_
        case i1_5_56 => simp only [List.getElem?_toArray, List.getElem?_cons_succ, List.getElem?_cons_zero]; rfl
        case g1_5_56 => rfl
        case y1_5_56 => (intro w hSw; (go_simp <;> with_reducible rfl))
        (try simp only [Act.put, List.setIfInBounds_toArray, List.set_cons_zero, List.set_cons_succ])
        refine wpAnyH_take (i := 6) (oi := ?o1_6_57) (v := ?v1_6_57) ?i1_6_57 (by kernel_rfl) (by kernel_rfl) (by kernel_rfl) (fun _ _ _ h => h) (Or.inl ⟨?g1_6_57, ?y1_6_57⟩) hS ?_
        case i1_6_57 => simp only [List.getElem?_toArray, List.getElem?_cons_succ, List.getElem?_cons_zero]; rfl
        case g1_6_57 => rfl
        case y1_6_57 => (intro w hSw; (go_simp <;> with_reducible rfl))
        (try simp only [Act.put, List.setIfInBounds_toArray, List.set_cons_zero, List.set_cons_succ])
        refine wpAnyH_take (i := 7) (oi := ?o1_7_58) (v := ?v1_7_58) ?i1_7_58 (by kernel_rfl) (by kernel_rfl) (by kernel_rfl) (fun _ _ _ h => h) (Or.inl ⟨?g1_7_58, ?y1_7_58⟩) hS ?_
        case i1_7_58 => simp only [List.getElem?_toArray, List.getElem?_cons_succ, List.getElem?_cons_zero]; rfl
        case g1_7_58 => rfl
        case y1_7_58 => (intro w hSw; (go_simp <;> with_reducible rfl))
        (try simp only [Act.put, List.setIfInBounds_toArray, List.set_cons_zero, List.set_cons_succ])
        refine wpAnyH_ready (rs := [9]) (by kernel_rfl) (by simp) ?_
        refine (AllReadyH.cons (o := ?or1_59_9) ?ir1_59_9 (fun K hK => ?str1_59_9) AllReadyH.nil)
        case ir1_59_9 => simp only [List.getElem?_toArray, List.getElem?_cons_succ, List.getElem?_cons_zero]; rfl
        rw [if_pos (by rfl)]
        have fz0 := HM.out.frozen 0
        have fq0 := (HM.out.cell 0).trans rfl
        have fz1 := HM.out.frozen 1
        have fq1 := (HM.out.cell 1).trans rfl
        have fz2 := HM.out.frozen 2
        have fq2 := (HM.out.cell 2).trans rfl
        have fz3 := HM.out.frozen 3
        have fq3 := (HM.out.cell 3).trans rfl
        have fz4 := HM.out.frozen 4
        have fq4 := (HM.out.cell 4).trans rfl
        have fz5 := HM.out.frozen 5
        have fq5 := (HM.out.cell 5).trans rfl
        go_simp
        refine hK.out _ _ ?sr1_59_9 (fun hS => ?_)
        case sr1_59_9 => (exact ((set6_otherM HM.out (by have := HPM.out.1; omega) _ _ _ _ _ _).trans HX4.out))
        clear hK K
        (try simp only [Act.put, List.setIfInBounds_toArray, List.set_cons_zero, List.set_cons_succ])
        have HFX := Lib.hid (show Blk (set6 w4 _ (.string ⟨#[]⟩) (.string ⟨#[]⟩) (.int .i64 0) (.int .u64 0) (.string ⟨#[]⟩) (.slice A4 2 c4)) (kb + 1) 27 #[.string ⟨#[]⟩, .string ⟨#[]⟩, .int .i64 0, .int .u64 0, .string ⟨#[]⟩, .slice (some ⟨kb, 0, none⟩) 1 1] from (set6_otherM HM.out (by have := HPM.out.1; omega) (.string ⟨#[]⟩) (.string ⟨#[]⟩) (.int .i64 0) (.int .u64 0) (.string ⟨#[]⟩) (.slice A4 2 c4)).trans HX4.out)
        have HFM := Lib.hid (HM.out.set6 (.string ⟨#[]⟩) (.string ⟨#[]⟩) (.int .i64 0) (.int .u64 0) (.string ⟨#[]⟩) (.slice A4 2 c4))
        have HFW := Lib.hid (HW4.out.trans (set6_belowM HM.out HPM.out.2 (.string ⟨#[]⟩) (.string ⟨#[]⟩) (.int .i64 0) (.int .u64 0) (.string ⟨#[]⟩) (.slice A4 2 c4)))
        have HFL := Lib.hid ((HL4.out.set6 (Nat.zero_le _) HML.out (.string ⟨#[]⟩) (.string ⟨#[]⟩) (.int .i64 0) (.int .u64 0) (.string ⟨#[]⟩) (.slice A4 2 c4)).lies (Nat.zero_le _))
        refine wpAnyH_take (i := 10) (oi := ?o1_10_60) (v := ?v1_10_60) ?i1_10_60 (by kernel_rfl) (by kernel_rfl) (by kernel_rfl) (fun _ _ _ h => h) (Or.inl ⟨?g1_10_60, ?y1_10_60⟩) hS ?_
        case i1_10_60 => simp only [List.getElem?_toArray, List.getElem?_cons_succ, List.getElem?_cons_zero]; rfl
        case g1_10_60 => rfl
        case y1_10_60 => (intro w hSw; (go_simp <;> with_reducible rfl))
        (try simp only [Act.put, List.setIfInBounds_toArray, List.set_cons_zero, List.set_cons_succ])
        refine wpAnyH_done (by kernel_rfl) ?_ _
        refine NoPanic.normal ?_
    all_goals clear hS
    all_goals go_wp2_with fail
    all_goals go_meet
    all_goals exact ⟨_, _, _, rfl, rfl, HFX.out, HFM.out, HLN.out.below HFW.out, HFL.out, HB.out.trans (HFW.out.mono HB.out.size)⟩
  case rest =>
    obtain ⟨pm, Am, cm, rfl, rfl, hX, hM, hLN, hLM, hB⟩ := hcut
    have HX : Hid (Blk wc (kb + 1) 27 #[.string ⟨#[]⟩, .string ⟨#[]⟩, .int .i64 0, .int .u64 0, .string ⟨#[]⟩, .slice (some ⟨kb, 0, none⟩) 1 1]) := Lib.hid hX
    have HM := Lib.hid hM
    replace HLN := Lib.hid hLN
    have HLM := Lib.hid hLM
    replace HB := Lib.hid hB
    clear hX hM hLN hLM hB KS HXc HWc HW2
    have ld0_0 := (HM.out.cell 0).trans rfl
    have ld0_1 := (HM.out.cell 1).trans rfl
    have ld0_2 := (HM.out.cell 2).trans rfl
    have ld0_3 := (HM.out.cell 3).trans rfl
    have ld0_4 := (HM.out.cell 4).trans rfl
    have ld0_5 := (HM.out.cell 5).trans rfl
    have hst : Below wc.heap.size wc (wc.alloc (.cells #[.string ⟨#[97]⟩, .string ⟨#[]⟩] 43)) := (Below.refl _ _).alloc (Nat.le_refl _) _
    have HP : Hid (Blk (wc.alloc (.cells #[.string ⟨#[97]⟩, .string ⟨#[]⟩] 43)) wc.heap.size 43 #[.string ⟨#[97]⟩, .string ⟨#[]⟩]) := Lib.hid (Blk.new_at9 (by simp) _ _)
    replace HX := Lib.hid (HX.out.below hst HX.out.lt)
    replace HM := Lib.hid (HM.out.below hst HM.out.lt)
    replace HLN := Lib.hid (HLN.out.below hst)
    replace HLM := Lib.hid (HLM.out.below hst)
    replace HB := Lib.hid (HB.out.trans (hst.mono HB.out.size))
    clear hst
    have K3 : Hid (Calls Try.prog 24 #[.agg #[.string ⟨#[]⟩, .string ⟨#[]⟩, .int .i64 0, .int .u64 0, .string ⟨#[]⟩, .slice Am 2 cm], .slice (some ⟨wc.heap.size, 0, none⟩) 1 1] (wc.alloc (.cells #[.string ⟨#[97]⟩, .string ⟨#[]⟩] 43)) (RTreP (zeroT, oF9) (.int .i64 0) (wc.alloc (.cells #[.string ⟨#[97]⟩, .string ⟨#[]⟩] 43)))) := Lib.hid (by have h := HC.out.cut (zeroT, mF9) [([97], [])] _ _ _ HLM.out (way_lit (s := ([97], [])) HP.out) (by show mF9.size ≤ 1000000; decide) ex9r.2 (by decide) (HW0.out.trans (HB.out.mono HW0.out.size)); rw [ex9c] at h; exact h.mono fun _ _ h => h.r)
    go_wp2_with fail
    refine K3.out.mono ?_
    intro r u1 hr
    obtain ⟨Ao, co, rfl, hl, hb⟩ := hr.flat0 1 rfl
    have hal : Below u1.heap.size u1 (u1.alloc (.cells #[.string ⟨#[]⟩, .string ⟨#[]⟩, .int .i64 0, .int .u64 0, .string ⟨#[]⟩, .slice Ao 1 co] 27)) := (Below.refl _ _).alloc (Nat.le_refl _) _
    have hb2 := hb.trans (hal.mono hb.size)
    replace HX := Lib.hid (HX.out.below hb2 HX.out.lt)
    replace HM := Lib.hid (HM.out.below hb2 HM.out.lt)
    replace HLN := Lib.hid (HLN.out.below hb2)
    replace HLM := Lib.hid (HLM.out.below hb2)
    replace HB := Lib.hid (HB.out.trans (hb2.mono HB.out.size))
    have HXo := Lib.hid (Blk.new u1 27 #[.string ⟨#[]⟩, .string ⟨#[]⟩, .int .i64 0, .int .u64 0, .string ⟨#[]⟩, .slice Ao 1 co])
    have HLo := Lib.hid (LieB.below hl hal)
    clear ld0_0 ld0_1 ld0_2 ld0_3 ld0_4 ld0_5 hr hl hb hal hb2 HP
    have ld0_0 := (HXo.out.cell 0).trans rfl
    have ld0_1 := (HXo.out.cell 1).trans rfl
    have ld0_2 := (HXo.out.cell 2).trans rfl
    have ld0_3 := (HXo.out.cell 3).trans rfl
    have ld0_4 := (HXo.out.cell 4).trans rfl
    have ld0_5 := (HXo.out.cell 5).trans rfl
    have hst : Below (u1.alloc (.cells #[.string ⟨#[]⟩, .string ⟨#[]⟩, .int .i64 0, .int .u64 0, .string ⟨#[]⟩, .slice Ao 1 co] 27)).heap.size (u1.alloc (.cells #[.string ⟨#[]⟩, .string ⟨#[]⟩, .int .i64 0, .int .u64 0, .string ⟨#[]⟩, .slice Ao 1 co] 27)) ((u1.alloc (.cells #[.string ⟨#[]⟩, .string ⟨#[]⟩, .int .i64 0, .int .u64 0, .string ⟨#[]⟩, .slice Ao 1 co] 27)).alloc (.cells #[.string ⟨#[98]⟩, .string ⟨#[]⟩] 43)) := (Below.refl _ _).alloc (Nat.le_refl _) _
    have HP : Hid (Blk ((u1.alloc (.cells #[.string ⟨#[]⟩, .string ⟨#[]⟩, .int .i64 0, .int .u64 0, .string ⟨#[]⟩, .slice Ao 1 co] 27)).alloc (.cells #[.string ⟨#[98]⟩, .string ⟨#[]⟩] 43)) (u1.heap.size + 1) 43 #[.string ⟨#[98]⟩, .string ⟨#[]⟩]) := Lib.hid (Blk.new_at9 (by simp) _ _)
    replace HX := Lib.hid (HX.out.below hst HX.out.lt)
    replace HM := Lib.hid (HM.out.below hst HM.out.lt)
    replace HXo := Lib.hid (HXo.out.below hst HXo.out.lt)
    replace HLN := Lib.hid (HLN.out.below hst)
    replace HLM := Lib.hid (HLM.out.below hst)
    replace HLo := Lib.hid (HLo.out.below hst)
    replace HB := Lib.hid (HB.out.trans (hst.mono HB.out.size))
    clear hst
    have K4 : Hid (Calls Try.prog 20 #[.agg #[.string ⟨#[]⟩, .string ⟨#[]⟩, .int .i64 0, .int .u64 0, .string ⟨#[]⟩, .slice Ao 1 co], .slice (some ⟨(u1.heap.size + 1), 0, none⟩) 1 1] ((u1.alloc (.cells #[.string ⟨#[]⟩, .string ⟨#[]⟩, .int .i64 0, .int .u64 0, .string ⟨#[]⟩, .slice Ao 1 co] 27)).alloc (.cells #[.string ⟨#[98]⟩, .string ⟨#[]⟩] 43)) (RTreP (lbD, .nil) (.bool true) ((u1.alloc (.cells #[.string ⟨#[]⟩, .string ⟨#[]⟩, .int .i64 0, .int .u64 0, .string ⟨#[]⟩, .slice Ao 1 co] 27)).alloc (.cells #[.string ⟨#[98]⟩, .string ⟨#[]⟩] 43)))) := Lib.hid (by have h := HC.out.get (zeroT, oF9) [([98], [])] _ _ _ HLo.out (way_lit (s := ([98], [])) HP.out) (by show oF9.size ≤ 1000000; decide) (by decide) (HW0.out.trans (HB.out.mono HW0.out.size)); rw [ex9g] at h; exact h.mono fun _ _ h => h.r)
    go_wp2_with fail
    refine K4.out.mono ?_
    intro r u2 hr
    obtain ⟨Ax, cx, rfl, hl, hb⟩ := hr.flatB
    have hal : Below u2.heap.size u2 (u2.alloc (.cells #[.string ⟨#[98]⟩, .string ⟨#[]⟩, .int .i64 1, .int .u64 5, .string ⟨#[]⟩, .slice Ax 0 cx] 27)) := (Below.refl _ _).alloc (Nat.le_refl _) _
    have hb2 := hb.trans (hal.mono hb.size)
    replace HX := Lib.hid (HX.out.below hb2 HX.out.lt)
    replace HM := Lib.hid (HM.out.below hb2 HM.out.lt)
    replace HXo := Lib.hid (HXo.out.below hb2 HXo.out.lt)
    replace HLN := Lib.hid (HLN.out.below hb2)
    replace HLM := Lib.hid (HLM.out.below hb2)
    replace HLo := Lib.hid (HLo.out.below hb2)
    replace HB := Lib.hid (HB.out.trans (hb2.mono HB.out.size))
    have HXx := Lib.hid (Blk.new u2 27 #[.string ⟨#[98]⟩, .string ⟨#[]⟩, .int .i64 1, .int .u64 5, .string ⟨#[]⟩, .slice Ax 0 cx])
    have HLx := Lib.hid (LieB.below hl hal)
    clear ld0_0 ld0_1 ld0_2 ld0_3 ld0_4 ld0_5 hr hl hb hal hb2 HP
    have ld0_0 := (HXo.out.cell 0).trans rfl
    have ld0_1 := (HXo.out.cell 1).trans rfl
    have ld0_2 := (HXo.out.cell 2).trans rfl
    have ld0_3 := (HXo.out.cell 3).trans rfl
    have ld0_4 := (HXo.out.cell 4).trans rfl
    have ld0_5 := (HXo.out.cell 5).trans rfl
    have hst : Below (u2.alloc (.cells #[.string ⟨#[98]⟩, .string ⟨#[]⟩, .int .i64 1, .int .u64 5, .string ⟨#[]⟩, .slice Ax 0 cx] 27)).heap.size (u2.alloc (.cells #[.string ⟨#[98]⟩, .string ⟨#[]⟩, .int .i64 1, .int .u64 5, .string ⟨#[]⟩, .slice Ax 0 cx] 27)) ((u2.alloc (.cells #[.string ⟨#[98]⟩, .string ⟨#[]⟩, .int .i64 1, .int .u64 5, .string ⟨#[]⟩, .slice Ax 0 cx] 27)).alloc (.cells #[.string ⟨#[97]⟩, .string ⟨#[]⟩] 43)) := (Below.refl _ _).alloc (Nat.le_refl _) _
    have HP : Hid (Blk ((u2.alloc (.cells #[.string ⟨#[98]⟩, .string ⟨#[]⟩, .int .i64 1, .int .u64 5, .string ⟨#[]⟩, .slice Ax 0 cx] 27)).alloc (.cells #[.string ⟨#[97]⟩, .string ⟨#[]⟩] 43)) (u2.heap.size + 1) 43 #[.string ⟨#[97]⟩, .string ⟨#[]⟩]) := Lib.hid (Blk.new_at9 (by simp) _ _)
    replace HX := Lib.hid (HX.out.below hst HX.out.lt)
    replace HM := Lib.hid (HM.out.below hst HM.out.lt)
    replace HXo := Lib.hid (HXo.out.below hst HXo.out.lt)
    replace HXx := Lib.hid (HXx.out.below hst HXx.out.lt)
    replace HLN := Lib.hid (HLN.out.below hst)
    replace HLM := Lib.hid (HLM.out.below hst)
    replace HLo := Lib.hid (HLo.out.below hst)
    replace HLx := Lib.hid (HLx.out.below hst)
    replace HB := Lib.hid (HB.out.trans (hst.mono HB.out.size))
    clear hst
    have K5 : Hid (Calls Try.prog 20 #[.agg #[.string ⟨#[]⟩, .string ⟨#[]⟩, .int .i64 0, .int .u64 0, .string ⟨#[]⟩, .slice Ao 1 co], .slice (some ⟨(u2.heap.size + 1), 0, none⟩) 1 1] ((u2.alloc (.cells #[.string ⟨#[98]⟩, .string ⟨#[]⟩, .int .i64 1, .int .u64 5, .string ⟨#[]⟩, .slice Ax 0 cx] 27)).alloc (.cells #[.string ⟨#[97]⟩, .string ⟨#[]⟩] 43)) (RTreP (zeroT, .nil) (.bool false) ((u2.alloc (.cells #[.string ⟨#[98]⟩, .string ⟨#[]⟩, .int .i64 1, .int .u64 5, .string ⟨#[]⟩, .slice Ax 0 cx] 27)).alloc (.cells #[.string ⟨#[97]⟩, .string ⟨#[]⟩] 43)))) := Lib.hid (by have h := HC.out.get (zeroT, oF9) [([97], [])] _ _ _ HLo.out (way_lit (s := ([97], [])) HP.out) (by show oF9.size ≤ 1000000; decide) (by decide) (HW0.out.trans (HB.out.mono HW0.out.size)); rw [ex9n] at h; exact h.mono fun _ _ h => h.r)
    go_wp2_with fail
    refine K5.out.mono ?_
    intro r u3 hr
    obtain ⟨Aq, cq, rfl, hl, hb⟩ := hr.flat0 0 rfl
    have hal : Below u3.heap.size u3 (u3.alloc (.cells #[.string ⟨#[]⟩, .string ⟨#[]⟩, .int .i64 0, .int .u64 0, .string ⟨#[]⟩, .slice Aq 0 cq] 27)) := (Below.refl _ _).alloc (Nat.le_refl _) _
    have hb2 := hb.trans (hal.mono hb.size)
    replace HX := Lib.hid (HX.out.below hb2 HX.out.lt)
    replace HM := Lib.hid (HM.out.below hb2 HM.out.lt)
    replace HXo := Lib.hid (HXo.out.below hb2 HXo.out.lt)
    replace HXx := Lib.hid (HXx.out.below hb2 HXx.out.lt)
    replace HLN := Lib.hid (HLN.out.below hb2)
    replace HLM := Lib.hid (HLM.out.below hb2)
    replace HLo := Lib.hid (HLo.out.below hb2)
    replace HLx := Lib.hid (HLx.out.below hb2)
    replace HB := Lib.hid (HB.out.trans (hb2.mono HB.out.size))
    have HXq := Lib.hid (Blk.new u3 27 #[.string ⟨#[]⟩, .string ⟨#[]⟩, .int .i64 0, .int .u64 0, .string ⟨#[]⟩, .slice Aq 0 cq])
    have HLq := Lib.hid (LieB.below hl hal)
    clear ld0_0 ld0_1 ld0_2 ld0_3 ld0_4 ld0_5 hr hl hb hal hb2 HP
    have o5 := (HXo.out.cell 5).trans rfl
    have x3 := (HXx.out.cell 3).trans rfl
    have Z1 : Hid (Calls Try.prog 13 #[.agg #[.string ⟨#[]⟩, .string ⟨#[]⟩, .int .i64 0, .int .u64 0, .string ⟨#[]⟩, .slice Am 2 cm]] (u3.alloc (.cells #[.string ⟨#[]⟩, .string ⟨#[]⟩, .int .i64 0, .int .u64 0, .string ⟨#[]⟩, .slice Aq 0 cq] 27)) (Ans9 (.int .i64 3) (u3.alloc (.cells #[.string ⟨#[]⟩, .string ⟨#[]⟩, .int .i64 0, .int .u64 0, .string ⟨#[]⟩, .slice Aq 0 cq] 27)))) := Lib.hid (by exact HC.out.size (zeroT, mF9) _ _ HLM.out (by show mF9.size ≤ 1000000; decide) (HW0.out.trans (HB.out.mono HW0.out.size)))
    have ld0_0 := (HM.out.cell 0).trans rfl
    have ld0_1 := (HM.out.cell 1).trans rfl
    have ld0_2 := (HM.out.cell 2).trans rfl
    have ld0_3 := (HM.out.cell 3).trans rfl
    have ld0_4 := (HM.out.cell 4).trans rfl
    have ld0_5 := (HM.out.cell 5).trans rfl
    go_wp2_with fail
    refine Z1.out.mono ?_
    rintro r w4 ⟨rfl, hb⟩
    replace HX := Lib.hid (HX.out.below hb HX.out.lt)
    replace HM := Lib.hid (HM.out.below hb HM.out.lt)
    replace HXo := Lib.hid (HXo.out.below hb HXo.out.lt)
    replace HXx := Lib.hid (HXx.out.below hb HXx.out.lt)
    replace HXq := Lib.hid (HXq.out.below hb HXq.out.lt)
    replace HLN := Lib.hid (HLN.out.below hb)
    replace HLM := Lib.hid (HLM.out.below hb)
    replace HLo := Lib.hid (HLo.out.below hb)
    replace HLx := Lib.hid (HLx.out.below hb)
    replace HLq := Lib.hid (HLq.out.below hb)
    replace HB := Lib.hid (HB.out.trans (hb.mono HB.out.size))
    clear ld0_0 ld0_1 ld0_2 ld0_3 ld0_4 ld0_5 hb
    have Z2 : Hid (Calls Try.prog 11 #[.agg #[.string ⟨#[]⟩, .string ⟨#[]⟩, .int .i64 0, .int .u64 0, .string ⟨#[]⟩, .slice Am 2 cm]] w4 (Ans9 (.bool true) w4)) := Lib.hid (by have h := HC.out.right (zeroT, mF9) _ _ HLM.out (by show mF9.size ≤ 1000000; decide) (HW0.out.trans (HB.out.mono HW0.out.size)); rwa [ex9r.2] at h)
    have ld0_0 := (HM.out.cell 0).trans rfl
    have ld0_1 := (HM.out.cell 1).trans rfl
    have ld0_2 := (HM.out.cell 2).trans rfl
    have ld0_3 := (HM.out.cell 3).trans rfl
    have ld0_4 := (HM.out.cell 4).trans rfl
    have ld0_5 := (HM.out.cell 5).trans rfl
    go_wp2_with fail
    refine Z2.out.mono ?_
    rintro r w5 ⟨rfl, hb⟩
    replace HX := Lib.hid (HX.out.below hb HX.out.lt)
    replace HM := Lib.hid (HM.out.below hb HM.out.lt)
    replace HXo := Lib.hid (HXo.out.below hb HXo.out.lt)
    replace HXx := Lib.hid (HXx.out.below hb HXx.out.lt)
    replace HXq := Lib.hid (HXq.out.below hb HXq.out.lt)
    replace HLN := Lib.hid (HLN.out.below hb)
    replace HLM := Lib.hid (HLM.out.below hb)
    replace HLo := Lib.hid (HLo.out.below hb)
    replace HLx := Lib.hid (HLx.out.below hb)
    replace HLq := Lib.hid (HLq.out.below hb)
    replace HB := Lib.hid (HB.out.trans (hb.mono HB.out.size))
    clear ld0_0 ld0_1 ld0_2 ld0_3 ld0_4 ld0_5 hb
    go_wp2_with fail
    refine (leaf_any ⟨#[97]⟩ _).mono ?_
    rintro r w6 ⟨rfl, hb⟩
    replace HX := Lib.hid (HX.out.below hb HX.out.lt)
    replace HM := Lib.hid (HM.out.below hb HM.out.lt)
    replace HXo := Lib.hid (HXo.out.below hb HXo.out.lt)
    replace HXx := Lib.hid (HXx.out.below hb HXx.out.lt)
    replace HXq := Lib.hid (HXq.out.below hb HXq.out.lt)
    replace HLN := Lib.hid (HLN.out.below hb)
    replace HLM := Lib.hid (HLM.out.below hb)
    replace HLo := Lib.hid (HLo.out.below hb)
    replace HLx := Lib.hid (HLx.out.below hb)
    replace HLq := Lib.hid (HLq.out.below hb)
    replace HB := Lib.hid (HB.out.trans (hb.mono HB.out.size))
    clear hb
    go_wp2_with fail
    refine (leaf_any ⟨#[98]⟩ _).mono ?_
    rintro r w7 ⟨rfl, hb⟩
    replace HX := Lib.hid (HX.out.below hb HX.out.lt)
    replace HM := Lib.hid (HM.out.below hb HM.out.lt)
    replace HXo := Lib.hid (HXo.out.below hb HXo.out.lt)
    replace HXx := Lib.hid (HXx.out.below hb HXx.out.lt)
    replace HXq := Lib.hid (HXq.out.below hb HXq.out.lt)
    replace HLN := Lib.hid (HLN.out.below hb)
    replace HLM := Lib.hid (HLM.out.below hb)
    replace HLo := Lib.hid (HLo.out.below hb)
    replace HLx := Lib.hid (HLx.out.below hb)
    replace HLq := Lib.hid (HLq.out.below hb)
    replace HB := Lib.hid (HB.out.trans (hb.mono HB.out.size))
    clear hb
    have Z3 : Hid (Calls Try.prog 18 #[.agg #[.string ⟨#[97]⟩, .string ⟨#[]⟩, .int .i64 1, .int .u64 5, .string ⟨#[]⟩, .slice none 0 0], .agg #[.string ⟨#[98]⟩, .string ⟨#[]⟩, .int .i64 1, .int .u64 5, .string ⟨#[]⟩, .slice none 0 0]] w7 (Ans9 (.bool true) w7)) := Lib.hid (by have h := HC.out.less (laD, .nil) (lbD, .nil) [.string ⟨#[97]⟩, .string ⟨#[]⟩, .int .i64 1, .int .u64 5, .string ⟨#[]⟩, .slice none 0 0] [.string ⟨#[98]⟩, .string ⟨#[]⟩, .int .i64 1, .int .u64 5, .string ⟨#[]⟩, .slice none 0 0] _ (leaf_lies [97] _) (leaf_lies [98] _) (HW0.out.trans (HB.out.mono HW0.out.size)); rwa [ex9l.1] at h)
    go_wp2_with fail
    refine Z3.out.mono ?_
    rintro r w8 ⟨rfl, hb⟩
    replace HX := Lib.hid (HX.out.below hb HX.out.lt)
    replace HM := Lib.hid (HM.out.below hb HM.out.lt)
    replace HXo := Lib.hid (HXo.out.below hb HXo.out.lt)
    replace HXx := Lib.hid (HXx.out.below hb HXx.out.lt)
    replace HXq := Lib.hid (HXq.out.below hb HXq.out.lt)
    replace HLN := Lib.hid (HLN.out.below hb)
    replace HLM := Lib.hid (HLM.out.below hb)
    replace HLo := Lib.hid (HLo.out.below hb)
    replace HLx := Lib.hid (HLx.out.below hb)
    replace HLq := Lib.hid (HLq.out.below hb)
    replace HB := Lib.hid (HB.out.trans (hb.mono HB.out.size))
    clear hb
    go_wp2_with fail
    refine (leaf_any ⟨#[97]⟩ _).mono ?_
    rintro r w9 ⟨rfl, hb⟩
    replace HX := Lib.hid (HX.out.below hb HX.out.lt)
    replace HM := Lib.hid (HM.out.below hb HM.out.lt)
    replace HXo := Lib.hid (HXo.out.below hb HXo.out.lt)
    replace HXx := Lib.hid (HXx.out.below hb HXx.out.lt)
    replace HXq := Lib.hid (HXq.out.below hb HXq.out.lt)
    replace HLN := Lib.hid (HLN.out.below hb)
    replace HLM := Lib.hid (HLM.out.below hb)
    replace HLo := Lib.hid (HLo.out.below hb)
    replace HLx := Lib.hid (HLx.out.below hb)
    replace HLq := Lib.hid (HLq.out.below hb)
    replace HB := Lib.hid (HB.out.trans (hb.mono HB.out.size))
    clear hb
    go_wp2_with fail
    refine (leaf_any ⟨#[97]⟩ _).mono ?_
    rintro r w10 ⟨rfl, hb⟩
    replace HX := Lib.hid (HX.out.below hb HX.out.lt)
    replace HM := Lib.hid (HM.out.below hb HM.out.lt)
    replace HXo := Lib.hid (HXo.out.below hb HXo.out.lt)
    replace HXx := Lib.hid (HXx.out.below hb HXx.out.lt)
    replace HXq := Lib.hid (HXq.out.below hb HXq.out.lt)
    replace HLN := Lib.hid (HLN.out.below hb)
    replace HLM := Lib.hid (HLM.out.below hb)
    replace HLo := Lib.hid (HLo.out.below hb)
    replace HLx := Lib.hid (HLx.out.below hb)
    replace HLq := Lib.hid (HLq.out.below hb)
    replace HB := Lib.hid (HB.out.trans (hb.mono HB.out.size))
    clear hb
    have Z4 : Hid (Calls Try.prog 18 #[.agg #[.string ⟨#[97]⟩, .string ⟨#[]⟩, .int .i64 1, .int .u64 5, .string ⟨#[]⟩, .slice none 0 0], .agg #[.string ⟨#[97]⟩, .string ⟨#[]⟩, .int .i64 1, .int .u64 5, .string ⟨#[]⟩, .slice none 0 0]] w10 (Ans9 (.bool false) w10)) := Lib.hid (by have h := HC.out.less (laD, .nil) (laD, .nil) [.string ⟨#[97]⟩, .string ⟨#[]⟩, .int .i64 1, .int .u64 5, .string ⟨#[]⟩, .slice none 0 0] [.string ⟨#[97]⟩, .string ⟨#[]⟩, .int .i64 1, .int .u64 5, .string ⟨#[]⟩, .slice none 0 0] _ (leaf_lies [97] _) (leaf_lies [97] _) (HW0.out.trans (HB.out.mono HW0.out.size)); rwa [ex9l.2] at h)
    go_wp2_with fail
    refine Z4.out.mono ?_
    rintro r w11 ⟨rfl, hb⟩
    replace HX := Lib.hid (HX.out.below hb HX.out.lt)
    replace HM := Lib.hid (HM.out.below hb HM.out.lt)
    replace HXo := Lib.hid (HXo.out.below hb HXo.out.lt)
    replace HXx := Lib.hid (HXx.out.below hb HXx.out.lt)
    replace HXq := Lib.hid (HXq.out.below hb HXq.out.lt)
    replace HLN := Lib.hid (HLN.out.below hb)
    replace HLM := Lib.hid (HLM.out.below hb)
    replace HLo := Lib.hid (HLo.out.below hb)
    replace HLx := Lib.hid (HLx.out.below hb)
    replace HLq := Lib.hid (HLq.out.below hb)
    replace HB := Lib.hid (HB.out.trans (hb.mono HB.out.size))
    clear hb
    have Z5 : Hid (Calls Try.prog 17 #[.agg #[.string ⟨#[]⟩, .string ⟨#[]⟩, .int .i64 0, .int .u64 0, .string ⟨#[]⟩, .slice (some ⟨kb, 0, none⟩) 1 1], .agg #[.string ⟨#[]⟩, .string ⟨#[]⟩, .int .i64 0, .int .u64 0, .string ⟨#[]⟩, .slice (some ⟨kb, 0, none⟩) 1 1]] w11 (Ans9 (.bool true) w11)) := Lib.hid (by have h := HC.out.same (zeroT, nF9) (zeroT, nF9) _ _ _ HLN.out HLN.out (by show nF9.size ≤ 1000000; decide) (by show nF9.size ≤ 1000000; decide) (HW0.out.trans (HB.out.mono HW0.out.size)); rwa [decide_eq_true rfl] at h)
    have ld0_0 := (HX.out.cell 0).trans rfl
    have ld0_1 := (HX.out.cell 1).trans rfl
    have ld0_2 := (HX.out.cell 2).trans rfl
    have ld0_3 := (HX.out.cell 3).trans rfl
    have ld0_4 := (HX.out.cell 4).trans rfl
    have ld0_5 := (HX.out.cell 5).trans rfl
    go_wp2_with fail
    refine Z5.out.mono ?_
    rintro r w12 ⟨rfl, hb⟩
    replace HX := Lib.hid (HX.out.below hb HX.out.lt)
    replace HM := Lib.hid (HM.out.below hb HM.out.lt)
    replace HXo := Lib.hid (HXo.out.below hb HXo.out.lt)
    replace HXx := Lib.hid (HXx.out.below hb HXx.out.lt)
    replace HXq := Lib.hid (HXq.out.below hb HXq.out.lt)
    replace HLN := Lib.hid (HLN.out.below hb)
    replace HLM := Lib.hid (HLM.out.below hb)
    replace HLo := Lib.hid (HLo.out.below hb)
    replace HLx := Lib.hid (HLx.out.below hb)
    replace HLq := Lib.hid (HLq.out.below hb)
    replace HB := Lib.hid (HB.out.trans (hb.mono HB.out.size))
    clear ld0_0 ld0_1 ld0_2 ld0_3 ld0_4 ld0_5 hb
    have Z6 : Hid (Calls Try.prog 17 #[.agg #[.string ⟨#[]⟩, .string ⟨#[]⟩, .int .i64 0, .int .u64 0, .string ⟨#[]⟩, .slice (some ⟨kb, 0, none⟩) 1 1], .agg #[.string ⟨#[]⟩, .string ⟨#[]⟩, .int .i64 0, .int .u64 0, .string ⟨#[]⟩, .slice Am 2 cm]] w12 (Ans9 (.bool false) w12)) := Lib.hid (by have h := HC.out.same (zeroT, nF9) (zeroT, mF9) _ _ _ HLN.out HLM.out (by show nF9.size ≤ 1000000; decide) (by show mF9.size ≤ 1000000; decide) (HW0.out.trans (HB.out.mono HW0.out.size)); rwa [ex9m] at h)
    have ld0_0 := (HX.out.cell 0).trans rfl
    have ld0_1 := (HX.out.cell 1).trans rfl
    have ld0_2 := (HX.out.cell 2).trans rfl
    have ld0_3 := (HX.out.cell 3).trans rfl
    have ld0_4 := (HX.out.cell 4).trans rfl
    have ld0_5 := (HX.out.cell 5).trans rfl
    have ld1_0 := (HM.out.cell 0).trans rfl
    have ld1_1 := (HM.out.cell 1).trans rfl
    have ld1_2 := (HM.out.cell 2).trans rfl
    have ld1_3 := (HM.out.cell 3).trans rfl
    have ld1_4 := (HM.out.cell 4).trans rfl
    have ld1_5 := (HM.out.cell 5).trans rfl
    go_wp2_with fail
    refine Z6.out.mono ?_
    rintro r w13 ⟨rfl, hb⟩
    replace HX := Lib.hid (HX.out.below hb HX.out.lt)
    replace HM := Lib.hid (HM.out.below hb HM.out.lt)
    replace HXo := Lib.hid (HXo.out.below hb HXo.out.lt)
    replace HXx := Lib.hid (HXx.out.below hb HXx.out.lt)
    replace HXq := Lib.hid (HXq.out.below hb HXq.out.lt)
    replace HLN := Lib.hid (HLN.out.below hb)
    replace HLM := Lib.hid (HLM.out.below hb)
    replace HLo := Lib.hid (HLo.out.below hb)
    replace HLx := Lib.hid (HLx.out.below hb)
    replace HLq := Lib.hid (HLq.out.below hb)
    replace HB := Lib.hid (HB.out.trans (hb.mono HB.out.size))
    clear ld0_0 ld0_1 ld0_2 ld0_3 ld0_4 ld0_5 ld1_0 ld1_1 ld1_2 ld1_3 ld1_4 ld1_5 hb
    have Z7 : Hid (Calls Try.prog 10 #[.agg #[.string ⟨#[]⟩, .string ⟨#[]⟩, .int .i64 0, .int .u64 0, .string ⟨#[]⟩, .slice Am 2 cm]] w13 (RTreP1 (zeroT, mF9) w13)) := Lib.hid (by have h := HC.out.sort (zeroT, mF9) _ _ HLM.out (by show mF9.size ≤ 1000000; decide) (HW0.out.trans (HB.out.mono HW0.out.size)); rw [show sortX (zeroT, mF9) = (zeroT, mF9) from by unfold sortX; rw [ex9t]] at h; exact h.mono fun _ _ h => h.r)
    have ld0_0 := (HM.out.cell 0).trans rfl
    have ld0_1 := (HM.out.cell 1).trans rfl
    have ld0_2 := (HM.out.cell 2).trans rfl
    have ld0_3 := (HM.out.cell 3).trans rfl
    have ld0_4 := (HM.out.cell 4).trans rfl
    have ld0_5 := (HM.out.cell 5).trans rfl
    go_wp2_with fail
    refine Z7.out.mono ?_
    intro r v7 hr
    obtain ⟨cs7, rfl, hl7, hb7⟩ := hr
    obtain ⟨A7, c7, rfl⟩ := (LieB.p hl7 0).cells0 2 rfl
    have HBZ := Lib.hid (HB.out.trans (hb7.mono HB.out.size))
    clear ld0_0 ld0_1 ld0_2 ld0_3 ld0_4 ld0_5 hl7 hb7
    have hfd := field9
    go_wp2
    go_ret
    exact ⟨rfl, HBZ.out⟩
end Go.Proofs.Ytgipnemcmiohlaa

