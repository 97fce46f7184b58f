/-
  SpecOwn where what was told is a leaf without names, if package spec answers as it is to and the law is awake. Written by wip/tools/mk07own.py.
-/
import Derived.Test.YtkpbjgjflabloaaLaw07F
namespace Go.Proofs.Ytkpbjgjflabloaa
open Go.RowKit
set_option linter.unusedSimpArgs false
set_option linter.unusedVariables false

set_option maxRecDepth 100000 in
set_option maxHeartbeats 4000000 in
theorem specOwn_leaf (v : Int) (hv0 : -9223372036854775808 ≤ v) (hv1 : v ≤ 9223372036854775807) (l : List (List UInt8)) (An : Option Addr) (cn L d : Nat) (w : World) (hn : Vals w d (.slice An l.length cn) (txts l)) (hL : L = l.length) (hc : L ≤ 20) (nm : List UInt8) (ty lo hi : Nat) (mu : Bool) (mo : Nat) (hX : atX v l = ((⟨nm, 1, ty, lo, hi, [], mu, mo⟩, .nil), 0)) (C : SpcC w) (HA : Awake7 w) :
    Calls Try.prog 6 #[.int .i64 v, .slice An L cn] w fun e w' => e = .returned (.bool true) ∧ Below w.heap.size w w' := by
  have HAW := Lib.hid (HA w (Below.refl _ _))
  have i0 : ¬ (20 : Int) < (L : Int) := by omega
  have M := Lib.hid (fun (W : World) (h : Below w.heap.size w W) => show Calls Try.prog 10 #[.int .i64 v, .slice An L cn] W (LieP ((⟨nm, 1, ty, lo, hi, [], mu, mo⟩, .nil), 0) W) from by
      rw [hL]
      have h3 := C.at_ v l d _ W hv0 hv1 (by omega) (hn.kept_ h) h
      rw [hX] at h3
      exact h3.mono fun _ _ h => h.lie)
  have FX : Hid (Few ((⟨nm, 1, ty, lo, hi, [], mu, mo⟩, .nil))) := Lib.hid (by have h := few_at v l; rw [hX] at h; exact h)
  clear HA C hn hL hX hc hv0 hv1
  go_enter Try.func6, Try.ntmps6
  go_wp2_with fail
  refine HAW.out.mono ?_
  rintro r w1 ⟨rfl, hB1⟩
  have H1 := Lib.hid hB1
  clear hB1
  go_wp2_with fail
  refine (M.out _ H1.out).mono ?_
  intro r w2 hr
  obtain ⟨B2, m2, A2, c2, rfl, hl, hb⟩ := hr.flat2 0 rfl 0 rfl 0 rfl
  have H2 := Lib.hid (H1.out.trans (hb.mono H1.out.size))
  have H3 : Hid (Below w.heap.size w (w2.alloc (.cells #[.string (txt nm), .int .i64 1, .int .i64 (ty : Int), .int .u64 (lo : Int), .int .u64 (hi : Int), .slice B2 0 m2, .bool mu, .int .i64 (mo : Int), .slice A2 0 c2] 27))) := Lib.hid (H2.out.alloc H2.out.size _)
  have L3 : Hid (Lies (w2.alloc (.cells #[.string (txt nm), .int .i64 1, .int .i64 (ty : Int), .int .u64 (lo : Int), .int .u64 (hi : Int), .slice B2 0 m2, .bool mu, .int .i64 (mo : Int), .slice A2 0 c2] 27)) [.string (txt nm), .int .i64 1, .int .i64 (ty : Int), .int .u64 (lo : Int), .int .u64 (hi : Int), .slice B2 0 m2, .bool mu, .int .i64 (mo : Int), .slice A2 0 c2] ((⟨nm, 1, ty, lo, hi, [], mu, mo⟩, .nil))) := Lib.hid (hl.below ((Below.refl _ _).alloc (Nat.le_refl _) _))
  have X3 : Hid (Blk (w2.alloc (.cells #[.string (txt nm), .int .i64 1, .int .i64 (ty : Int), .int .u64 (lo : Int), .int .u64 (hi : Int), .slice B2 0 m2, .bool mu, .int .i64 (mo : Int), .slice A2 0 c2] 27)) w2.heap.size 27 #[.string (txt nm), .int .i64 1, .int .i64 (ty : Int), .int .u64 (lo : Int), .int .u64 (hi : Int), .slice B2 0 m2, .bool mu, .int .i64 (mo : Int), .slice A2 0 c2]) := Lib.hid (Blk.new _ _ _)
  clear hr hl hb H2
  go_wp2
  go_loopw [8] (fun i wr => i = .int .i64 0 ∧ wr = (w2.alloc (.cells #[.string (txt nm), .int .i64 1, .int .i64 (ty : Int), .int .u64 (lo : Int), .int .u64 (hi : Int), .slice B2 0 m2, .bool mu, .int .i64 (mo : Int), .slice A2 0 c2] 27))) (fun _ _ => 0)
  case atStart => exact ⟨rfl, rfl⟩
  case round =>
    obtain ⟨rfl, rfl⟩ := hrel
    have q0 := (X3.out.cell 0).trans rfl
    have q1 := (X3.out.cell 1).trans rfl
    have q2 := (X3.out.cell 2).trans rfl
    have q3 := (X3.out.cell 3).trans rfl
    have q4 := (X3.out.cell 4).trans rfl
    have q5 := (X3.out.cell 5).trans rfl
    have q6 := (X3.out.cell 6).trans rfl
    have q7 := (X3.out.cell 7).trans rfl
    have q8 := (X3.out.cell 8).trans rfl
    go_wp2_with fail
    refine (plain_f 0 rfl 0 rfl L3.out FX.out).mono ?_
    rintro r w4 ⟨B4, m4, A4, c4, rfl, hl, hb⟩
    have hk : Below (w2.alloc (.cells #[.string (txt nm), .int .i64 1, .int .i64 (ty : Int), .int .u64 (lo : Int), .int .u64 (hi : Int), .slice B2 0 m2, .bool mu, .int .i64 (mo : Int), .slice A2 0 c2] 27)).heap.size (w2.alloc (.cells #[.string (txt nm), .int .i64 1, .int .i64 (ty : Int), .int .u64 (lo : Int), .int .u64 (hi : Int), .slice B2 0 m2, .bool mu, .int .i64 (mo : Int), .slice A2 0 c2] 27)) (w4.alloc (.cells #[.string (txt nm), .int .i64 1, .int .i64 (ty : Int), .int .u64 (lo : Int), .int .u64 (hi : Int), .slice B4 0 m4, .bool mu, .int .i64 (mo : Int), .slice A4 0 c4] 33)) := hb.alloc hb.size _
    have H5 : Hid (Below w.heap.size w (w4.alloc (.cells #[.string (txt nm), .int .i64 1, .int .i64 (ty : Int), .int .u64 (lo : Int), .int .u64 (hi : Int), .slice B4 0 m4, .bool mu, .int .i64 (mo : Int), .slice A4 0 c4] 33))) := Lib.hid (H3.out.trans (hk.mono H3.out.size))
    have X5 := Lib.hid (X3.out.below hk X3.out.lt)
    have L5 : Hid (Lies (w4.alloc (.cells #[.string (txt nm), .int .i64 1, .int .i64 (ty : Int), .int .u64 (lo : Int), .int .u64 (hi : Int), .slice B4 0 m4, .bool mu, .int .i64 (mo : Int), .slice A4 0 c4] 33)) [.string (txt nm), .int .i64 1, .int .i64 (ty : Int), .int .u64 (lo : Int), .int .u64 (hi : Int), .slice B4 0 m4, .bool mu, .int .i64 (mo : Int), .slice A4 0 c4] ((⟨nm, 1, ty, lo, hi, [], mu, mo⟩, .nil))) := Lib.hid (hl.below ((Below.refl _ _).alloc (Nat.le_refl _) _))
    have Y5 : Hid (Blk (w4.alloc (.cells #[.string (txt nm), .int .i64 1, .int .i64 (ty : Int), .int .u64 (lo : Int), .int .u64 (hi : Int), .slice B4 0 m4, .bool mu, .int .i64 (mo : Int), .slice A4 0 c4] 33)) w4.heap.size 33 #[.string (txt nm), .int .i64 1, .int .i64 (ty : Int), .int .u64 (lo : Int), .int .u64 (hi : Int), .slice B4 0 m4, .bool mu, .int .i64 (mo : Int), .slice A4 0 c4]) := Lib.hid (Blk.new _ _ _)
    clear hl hb hk q0 q1 q2 q3 q4 q5 q6 q7 q8 X3 L3 H3
    go_wp2
    go_loopw [11] (fun i wr => i = .int .i64 0 ∧ wr = (w4.alloc (.cells #[.string (txt nm), .int .i64 1, .int .i64 (ty : Int), .int .u64 (lo : Int), .int .u64 (hi : Int), .slice B4 0 m4, .bool mu, .int .i64 (mo : Int), .slice A4 0 c4] 33))) (fun _ _ => 0)
    case atStart => exact ⟨rfl, rfl⟩
    case round =>
      obtain ⟨rfl, rfl⟩ := hrel
      have q5 := (X5.out.cell 5).trans rfl
      have q8 := (X5.out.cell 8).trans rfl
      go_wp2
      go_loopw [12] (fun i wr => i = .int .i64 0 ∧ wr = (w4.alloc (.cells #[.string (txt nm), .int .i64 1, .int .i64 (ty : Int), .int .u64 (lo : Int), .int .u64 (hi : Int), .slice B4 0 m4, .bool mu, .int .i64 (mo : Int), .slice A4 0 c4] 33))) (fun _ _ => 0)
      case atStart => exact ⟨rfl, rfl⟩
      case round =>
        obtain ⟨rfl, rfl⟩ := hrel
        go_wp2_with fail
        refine (M.out _ H5.out).mono ?_
        intro r w6 hr
        obtain ⟨B6, m6, A6, c6, rfl, hl, hb⟩ := hr.flat2 0 rfl 0 rfl 0 rfl
        have hk : Below (w4.alloc (.cells #[.string (txt nm), .int .i64 1, .int .i64 (ty : Int), .int .u64 (lo : Int), .int .u64 (hi : Int), .slice B4 0 m4, .bool mu, .int .i64 (mo : Int), .slice A4 0 c4] 33)).heap.size (w4.alloc (.cells #[.string (txt nm), .int .i64 1, .int .i64 (ty : Int), .int .u64 (lo : Int), .int .u64 (hi : Int), .slice B4 0 m4, .bool mu, .int .i64 (mo : Int), .slice A4 0 c4] 33)) (w6.alloc (.cells #[.string (txt nm), .int .i64 1, .int .i64 (ty : Int), .int .u64 (lo : Int), .int .u64 (hi : Int), .slice B6 0 m6, .bool mu, .int .i64 (mo : Int), .slice A6 0 c6] 27)) := hb.alloc hb.size _
        have H7 : Hid (Below w.heap.size w (w6.alloc (.cells #[.string (txt nm), .int .i64 1, .int .i64 (ty : Int), .int .u64 (lo : Int), .int .u64 (hi : Int), .slice B6 0 m6, .bool mu, .int .i64 (mo : Int), .slice A6 0 c6] 27))) := Lib.hid (H5.out.trans (hk.mono H5.out.size))
        have XA := Lib.hid (X5.out.below hk X5.out.lt)
        have XW := Lib.hid (Y5.out.below hk Y5.out.lt)
        have LW := Lib.hid (L5.out.below hk)
        have XB : Hid (Blk (w6.alloc (.cells #[.string (txt nm), .int .i64 1, .int .i64 (ty : Int), .int .u64 (lo : Int), .int .u64 (hi : Int), .slice B6 0 m6, .bool mu, .int .i64 (mo : Int), .slice A6 0 c6] 27)) w6.heap.size 27 #[.string (txt nm), .int .i64 1, .int .i64 (ty : Int), .int .u64 (lo : Int), .int .u64 (hi : Int), .slice B6 0 m6, .bool mu, .int .i64 (mo : Int), .slice A6 0 c6]) := Lib.hid (Blk.new _ _ _)
        have LB : Hid (Lies (w6.alloc (.cells #[.string (txt nm), .int .i64 1, .int .i64 (ty : Int), .int .u64 (lo : Int), .int .u64 (hi : Int), .slice B6 0 m6, .bool mu, .int .i64 (mo : Int), .slice A6 0 c6] 27)) [.string (txt nm), .int .i64 1, .int .i64 (ty : Int), .int .u64 (lo : Int), .int .u64 (hi : Int), .slice B6 0 m6, .bool mu, .int .i64 (mo : Int), .slice A6 0 c6] ((⟨nm, 1, ty, lo, hi, [], mu, mo⟩, .nil))) := Lib.hid (hl.below ((Below.refl _ _).alloc (Nat.le_refl _) _))
        have p5 := (XW.out.cell 5).trans rfl
        clear hr hl hb hk q5 q8 X5 Y5 L5 H5
        go_wp2_with fail
        clear p5
        have HD : Hid (Below (w6.alloc (.cells #[.string (txt nm), .int .i64 1, .int .i64 (ty : Int), .int .u64 (lo : Int), .int .u64 (hi : Int), .slice B6 0 m6, .bool mu, .int .i64 (mo : Int), .slice A6 0 c6] 27)).heap.size (w6.alloc (.cells #[.string (txt nm), .int .i64 1, .int .i64 (ty : Int), .int .u64 (lo : Int), .int .u64 (hi : Int), .slice B6 0 m6, .bool mu, .int .i64 (mo : Int), .slice A6 0 c6] 27)) (w6.alloc (.cells #[.string (txt nm), .int .i64 1, .int .i64 (ty : Int), .int .u64 (lo : Int), .int .u64 (hi : Int), .slice B6 0 m6, .bool mu, .int .i64 (mo : Int), .slice A6 0 c6] 27)).drew) := Lib.hid (Below.refl _ _).drew
        have LB8 := Lib.hid (LB.out.below HD.out)
        have LW8 := Lib.hid (LW.out.below HD.out)
        have XA8 := Lib.hid (XA.out.below HD.out XA.out.lt)
        have XB8 := Lib.hid (XB.out.below HD.out XB.out.lt)
        have XW8 := Lib.hid (XW.out.below HD.out XW.out.lt)
        have H8 := Lib.hid (H7.out.trans (HD.out.mono H7.out.size))
        clear LB LW XA XB XW HD
        refine wp_region_noPanic ?_
        refine wp_region_held_drew (S := fun _ => True) (by kernel_rfl) trivial (fun hS => ?_)
        refine wpAnyH_take (i := 0) (oi := ?o1_0_1) (v := ?v1_0_1) ?i1_0_1 (by kernel_rfl) (by kernel_rfl) (by kernel_rfl) (fun _ _ _ h => h) (Or.inl ⟨?g1_0_1, ?y1_0_1⟩) hS ?_
        case i1_0_1 => simp only [List.getElem?_toArray, List.getElem?_cons_succ, List.getElem?_cons_zero]; rfl
        case g1_0_1 => rfl
        case y1_0_1 => (intro w hSw; (go_simp <;> with_reducible rfl))
        (try simp only [Act.put, List.setIfInBounds_toArray, List.set_cons_zero, List.set_cons_succ])
        refine wpAnyH_take (i := 1) (oi := ?o1_1_2) (v := ?v1_1_2) ?i1_1_2 (by kernel_rfl) (by kernel_rfl) (by kernel_rfl) (fun _ _ _ h => h) (Or.inl ⟨?g1_1_2, ?y1_1_2⟩) hS ?_
        case i1_1_2 => simp only [List.getElem?_toArray, List.getElem?_cons_succ, List.getElem?_cons_zero]; rfl
        case g1_1_2 => rfl
        case y1_1_2 => (intro w hSw; (go_simp <;> with_reducible rfl))
        (try simp only [Act.put, List.setIfInBounds_toArray, List.set_cons_zero, List.set_cons_succ])
        refine wpAnyH_take (i := 2) (oi := ?o1_2_3) (v := ?v1_2_3) ?i1_2_3 (by kernel_rfl) (by kernel_rfl) (by kernel_rfl) (fun _ _ _ h => h) (Or.inl ⟨?g1_2_3, ?y1_2_3⟩) hS ?_
        case i1_2_3 => simp only [List.getElem?_toArray, List.getElem?_cons_succ, List.getElem?_cons_zero]; rfl
        case g1_2_3 => rfl
        case y1_2_3 => (intro w hSw; (go_simp <;> with_reducible rfl))
        (try simp only [Act.put, List.setIfInBounds_toArray, List.set_cons_zero, List.set_cons_succ])
        refine wpAnyH_take (i := 3) (oi := ?o1_3_4) (v := ?v1_3_4) ?i1_3_4 (by kernel_rfl) (by kernel_rfl) (by kernel_rfl) (fun _ _ _ h => h) (Or.inl ⟨?g1_3_4, ?y1_3_4⟩) hS ?_
        case i1_3_4 => simp only [List.getElem?_toArray, List.getElem?_cons_succ, List.getElem?_cons_zero]; rfl
        case g1_3_4 => rfl
        case y1_3_4 => (intro w hSw; (go_simp <;> with_reducible rfl))
        (try simp only [Act.put, List.setIfInBounds_toArray, List.set_cons_zero, List.set_cons_succ])
        refine held_more (S' := fun w' => Blk w' w2.heap.size 27 #[.string (txt nm), .int .i64 1, .int .i64 (ty : Int), .int .u64 (lo : Int), .int .u64 (hi : Int), .slice B2 0 m2, .bool mu, .int .i64 (mo : Int), .slice A2 0 c2] ∧ Blk w' w6.heap.size 27 #[.string (txt nm), .int .i64 1, .int .i64 (ty : Int), .int .u64 (lo : Int), .int .u64 (hi : Int), .slice B6 0 m6, .bool mu, .int .i64 (mo : Int), .slice A6 0 c6] ∧ Blk w' w4.heap.size 33 #[.string (txt nm), .int .i64 1, .int .i64 (ty : Int), .int .u64 (lo : Int), .int .u64 (hi : Int), .slice B4 0 m4, .bool mu, .int .i64 (mo : Int), .slice A4 0 c4]) (fun _ _ => trivial) _ _ _ _ ?_
        replace hS := And.intro XA8.out (And.intro XB8.out XW8.out)
        refine wpAnyH_take (i := 4) (oi := ?o1_4_5) (v := ?v1_4_5) ?i1_4_5 (by kernel_rfl) (by kernel_rfl) (by kernel_rfl) (fun _ _ _ h => h) (Or.inl ⟨?g1_4_5, ?y1_4_5⟩) hS ?_
        case i1_4_5 => simp only [List.getElem?_toArray, List.getElem?_cons_succ, List.getElem?_cons_zero]; rfl
        case g1_4_5 => rfl
        case y1_4_5 => (intro w hSw; have q0 := (hSw.2.1.cell 0).trans rfl; have q1 := (hSw.2.1.cell 1).trans rfl; have q2 := (hSw.2.1.cell 2).trans rfl; have q3 := (hSw.2.1.cell 3).trans rfl; have q4 := (hSw.2.1.cell 4).trans rfl; have q5 := (hSw.2.1.cell 5).trans rfl; have q6 := (hSw.2.1.cell 6).trans rfl; have q7 := (hSw.2.1.cell 7).trans rfl; have q8 := (hSw.2.1.cell 8).trans rfl; (go_simp <;> with_reducible rfl))
        (try simp only [Act.put, List.setIfInBounds_toArray, List.set_cons_zero, List.set_cons_succ])
        refine wpAnyH_take (i := 6) (oi := ?o1_6_6) (v := ?v1_6_6) ?i1_6_6 (by kernel_rfl) (by kernel_rfl) (by kernel_rfl) (fun _ _ _ h => h) (Or.inl ⟨?g1_6_6, ?y1_6_6⟩) hS ?_
        case i1_6_6 => simp only [List.getElem?_toArray, List.getElem?_cons_succ, List.getElem?_cons_zero]; rfl
        case g1_6_6 => rfl
        case y1_6_6 => (intro w hSw; have q0 := (hSw.2.2.cell 0).trans rfl; have q1 := (hSw.2.2.cell 1).trans rfl; have q2 := (hSw.2.2.cell 2).trans rfl; have q3 := (hSw.2.2.cell 3).trans rfl; have q4 := (hSw.2.2.cell 4).trans rfl; have q5 := (hSw.2.2.cell 5).trans rfl; have q6 := (hSw.2.2.cell 6).trans rfl; have q7 := (hSw.2.2.cell 7).trans rfl; have q8 := (hSw.2.2.cell 8).trans rfl; (go_simp <;> with_reducible rfl))
        (try simp only [Act.put, List.setIfInBounds_toArray, List.set_cons_zero, List.set_cons_succ])
        refine wpAnyH_ready (rs := [5]) (by kernel_rfl) (by simp) ?_
        refine (AllReadyH.cons (o := ?or1_7_5) ?ir1_7_5 (fun K hK => ?str1_7_5) AllReadyH.nil)
        case ir1_7_5 => simp only [List.getElem?_toArray, List.getElem?_cons_succ, List.getElem?_cons_zero]; rfl
        rw [if_pos (by rfl)]
        go_simp
        refine (plain_f 0 rfl 0 rfl LB8.out FX.out).mono ?_
        rintro r w9 ⟨B9, m9, A9, c9, rfl, hl, hb⟩
        have LP := Lib.hid hl
        have LW9 := Lib.hid (LW8.out.below hb)
        have XA9 := Lib.hid (XA8.out.below hb XA8.out.lt)
        have XB9 := Lib.hid (XB8.out.below hb XB8.out.lt)
        have XW9 := Lib.hid (XW8.out.below hb XW8.out.lt)
        have H9 := Lib.hid (H8.out.trans (hb.mono H8.out.size))
        clear hl hb
        go_wp2_with fail
        refine hK.out _ _ ?sr1_7_5 (fun hS => ?_)
        case sr1_7_5 => (exact And.intro XA9.out (And.intro XB9.out XW9.out))
        clear hK K
        (try simp only [Act.put, List.setIfInBounds_toArray, List.set_cons_zero, List.set_cons_succ])
        refine wpAnyH_ready (rs := [7]) (by kernel_rfl) (by simp) ?_
        refine (AllReadyH.cons (o := ?or1_8_7) ?ir1_8_7 (fun K hK => ?str1_8_7) AllReadyH.nil)
        case ir1_8_7 => simp only [List.getElem?_toArray, List.getElem?_cons_succ, List.getElem?_cons_zero]; rfl
        rw [if_pos (by rfl)]
        go_simp
        refine (same_l LP.out LW9.out FX.out).mono ?_
        rintro r w10 ⟨rfl, hb⟩
        have XA10 := Lib.hid (XA9.out.below hb XA9.out.lt)
        have XB10 := Lib.hid (XB9.out.below hb XB9.out.lt)
        have XW10 := Lib.hid (XW9.out.below hb XW9.out.lt)
        have H10 := Lib.hid (H9.out.trans (hb.mono H9.out.size))
        clear hb
        go_wp2_with fail
        refine hK.out _ _ ?sr1_8_7 (fun hS => ?_)
        case sr1_8_7 => (exact And.intro XA10.out (And.intro XB10.out XW10.out))
        clear hK K
        (try simp only [Act.put, List.setIfInBounds_toArray, List.set_cons_zero, List.set_cons_succ])
        refine wpAnyH_take (i := 8) (oi := ?o1_8_9) (v := ?v1_8_9) ?i1_8_9 (by kernel_rfl) (by kernel_rfl) (by kernel_rfl) (fun _ _ _ h => h) (Or.inl ⟨?g1_8_9, ?y1_8_9⟩) hS ?_
        case i1_8_9 => simp only [List.getElem?_toArray, List.getElem?_cons_succ, List.getElem?_cons_zero]; rfl
        case g1_8_9 => rfl
        case y1_8_9 => (intro w hSw; (go_simp <;> with_reducible rfl))
        (try simp only [Act.put, List.setIfInBounds_toArray, List.set_cons_zero, List.set_cons_succ])
        refine wpAnyH_take (i := 9) (oi := ?o1_9_10) (v := ?v1_9_10) ?i1_9_10 (by kernel_rfl) (by kernel_rfl) (by kernel_rfl) (fun _ _ _ h => h) (Or.inl ⟨?g1_9_10, ?y1_9_10⟩) hS ?_
        case i1_9_10 => simp only [List.getElem?_toArray, List.getElem?_cons_succ, List.getElem?_cons_zero]; rfl
        case g1_9_10 => rfl
        case y1_9_10 => (intro w hSw; (go_simp <;> with_reducible rfl))
        (try simp only [Act.put, List.setIfInBounds_toArray, List.set_cons_zero, List.set_cons_succ])
        refine wpAnyH_take (i := 10) (oi := ?o1_10_11) (v := ?v1_10_11) ?i1_10_11 (by kernel_rfl) (by kernel_rfl) (by kernel_rfl) (fun _ _ _ h => h) (Or.inl ⟨?g1_10_11, ?y1_10_11⟩) hS ?_
        case i1_10_11 => simp only [List.getElem?_toArray, List.getElem?_cons_succ, List.getElem?_cons_zero]; rfl
        case g1_10_11 => rfl
        case y1_10_11 => (intro w hSw; (go_simp <;> with_reducible rfl))
        (try simp only [Act.put, List.setIfInBounds_toArray, List.set_cons_zero, List.set_cons_succ])
        refine wpAnyH_take (i := 11) (oi := ?o1_11_12) (v := ?v1_11_12) ?i1_11_12 (by kernel_rfl) (by kernel_rfl) (by kernel_rfl) (fun _ _ _ h => h) (Or.inl ⟨?g1_11_12, ?y1_11_12⟩) hS ?_
        case i1_11_12 => simp only [List.getElem?_toArray, List.getElem?_cons_succ, List.getElem?_cons_zero]; rfl
        case g1_11_12 => rfl
        case y1_11_12 => (intro w hSw; have q1 := (hSw.1.cell 1).trans rfl; (go_simp <;> with_reducible rfl))
        (try simp only [Act.put, List.setIfInBounds_toArray, List.set_cons_zero, List.set_cons_succ])
        refine wpAnyH_take (i := 12) (oi := ?o1_12_13) (v := ?v1_12_13) ?i1_12_13 (by kernel_rfl) (by kernel_rfl) (by kernel_rfl) (fun _ _ _ h => h) (Or.inl ⟨?g1_12_13, ?y1_12_13⟩) hS ?_
        case i1_12_13 => simp only [List.getElem?_toArray, List.getElem?_cons_succ, List.getElem?_cons_zero]; rfl
        case g1_12_13 => rfl
        case y1_12_13 => (intro w hSw; (go_simp <;> with_reducible rfl))
        (try simp only [Act.put, List.setIfInBounds_toArray, List.set_cons_zero, List.set_cons_succ])
        refine wpAnyH_take (i := 13) (oi := ?o1_13_14) (v := ?v1_13_14) ?i1_13_14 (by kernel_rfl) (by kernel_rfl) (by kernel_rfl) (fun _ _ _ h => h) (Or.inl ⟨?g1_13_14, ?y1_13_14⟩) hS ?_
        case i1_13_14 => simp only [List.getElem?_toArray, List.getElem?_cons_succ, List.getElem?_cons_zero]; rfl
        case g1_13_14 => rfl
        case y1_13_14 => (intro w hSw; (go_simp <;> with_reducible rfl))
        (try simp only [Act.put, List.setIfInBounds_toArray, List.set_cons_zero, List.set_cons_succ])
        refine wpAnyH_take (i := 14) (oi := ?o1_14_15) (v := ?v1_14_15) ?i1_14_15 (by kernel_rfl) (by kernel_rfl) (by kernel_rfl) (fun _ _ _ h => h) (Or.inl ⟨?g1_14_15, ?y1_14_15⟩) hS ?_
        case i1_14_15 => simp only [List.getElem?_toArray, List.getElem?_cons_succ, List.getElem?_cons_zero]; rfl
        case g1_14_15 => rfl
        case y1_14_15 => (intro w hSw; have q8 := (hSw.1.cell 8).trans rfl; (go_simp <;> with_reducible rfl))
        (try simp only [Act.put, List.setIfInBounds_toArray, List.set_cons_zero, List.set_cons_succ])
        refine wpAnyH_take (i := 15) (oi := ?o1_15_16) (v := ?v1_15_16) ?i1_15_16 (by kernel_rfl) (by kernel_rfl) (by kernel_rfl) (fun _ _ _ h => h) (Or.inl ⟨?g1_15_16, ?y1_15_16⟩) hS ?_
        case i1_15_16 => simp only [List.getElem?_toArray, List.getElem?_cons_succ, List.getElem?_cons_zero]; rfl
        case g1_15_16 => rfl
        case y1_15_16 => (intro w hSw; (go_simp <;> with_reducible rfl))
        (try simp only [Act.put, List.setIfInBounds_toArray, List.set_cons_zero, List.set_cons_succ])
        refine wpAnyH_take (i := 16) (oi := ?o1_16_17) (v := ?v1_16_17) ?i1_16_17 (by kernel_rfl) (by kernel_rfl) (by kernel_rfl) (fun _ _ _ h => h) (Or.inl ⟨?g1_16_17, ?y1_16_17⟩) hS ?_
        case i1_16_17 => simp only [List.getElem?_toArray, List.getElem?_cons_succ, List.getElem?_cons_zero]; rfl
        case g1_16_17 => rfl
        case y1_16_17 => (intro w hSw; (go_simp <;> with_reducible rfl))
        (try simp only [Act.put, List.setIfInBounds_toArray, List.set_cons_zero, List.set_cons_succ])
        refine wpAnyH_take (i := 17) (oi := ?o1_17_18) (v := ?v1_17_18) ?i1_17_18 (by kernel_rfl) (by kernel_rfl) (by kernel_rfl) (fun _ _ _ h => h) (Or.inl ⟨?g1_17_18, ?y1_17_18⟩) hS ?_
        case i1_17_18 => simp only [List.getElem?_toArray, List.getElem?_cons_succ, List.getElem?_cons_zero]; rfl
        case g1_17_18 => rfl
        case y1_17_18 => (intro w hSw; (go_simp <;> with_reducible rfl))
        (try simp only [Act.put, List.setIfInBounds_toArray, List.set_cons_zero, List.set_cons_succ])
        refine wpAnyH_take (i := 18) (oi := ?o1_18_19) (v := ?v1_18_19) ?i1_18_19 (by kernel_rfl) (by kernel_rfl) (by kernel_rfl) (fun _ _ _ h => h) (Or.inl ⟨?g1_18_19, ?y1_18_19⟩) hS ?_
        case i1_18_19 => simp only [List.getElem?_toArray, List.getElem?_cons_succ, List.getElem?_cons_zero]; rfl
        case g1_18_19 => rfl
        case y1_18_19 => (intro w hSw; (go_simp <;> with_reducible rfl))
        (try simp only [Act.put, List.setIfInBounds_toArray, List.set_cons_zero, List.set_cons_succ])
        refine wpAnyH_take (i := 19) (oi := ?o1_19_20) (v := ?v1_19_20) ?i1_19_20 (by kernel_rfl) (by kernel_rfl) (by kernel_rfl) (fun _ _ _ h => h) (Or.inl ⟨?g1_19_20, ?y1_19_20⟩) hS ?_
        case i1_19_20 => simp only [List.getElem?_toArray, List.getElem?_cons_succ, List.getElem?_cons_zero]; rfl
        case g1_19_20 => rfl
        case y1_19_20 => (intro w hSw; (go_simp <;> with_reducible rfl))
        (try simp only [Act.put, List.setIfInBounds_toArray, List.set_cons_zero, List.set_cons_succ])
        refine wpAnyH_done (by kernel_rfl) ?_ _
        refine NoPanic.normal ?_
        clear hS
        go_wp2
        go_ret
        exact ⟨rfl, H10.out⟩

end Go.Proofs.Ytkpbjgjflabloaa
