/-
  What package spec's closure of a kid more does. No condition but those of each theorem.
-/
import Derived.Test.YtkpbjgjflabloaaSpvFnD
import Derived.Test.YtkpbjgjflabloaaDrawn
namespace Go.Proofs.Ytkpbjgjflabloaa
open Go.RowKit
set_option linter.unusedSimpArgs false
set_option linter.unusedVariables false

theorem Blk.later {w0 w w' : World} {g : Nat} {t : TypeId} {cs : Array Value} (h : Blk w0 g t cs) (hb : Below w.heap.size w w') (e : w.heap = w0.heap) : Blk w' g t cs := by
  have h2 : Blk w g t cs := by unfold Blk at h ⊢; rw [e]; exact h
  exact h2.below hb h2.lt
theorem add_find {n : List UInt8} {f : SpF} {i : Nat} (h : findX n f = some i) : findI n f = (i : Int) := by unfold findI; rw [h]
set_option maxRecDepth 100000 in
set_option maxHeartbeats 4000000 in
theorem after1_any (n : List UInt8) (d : SpD) (base B p q : Nat) (R : Nat → Prop) (F : List Nat) (cs lc : List Value) (x : Sp) (w : World) (h : Sit w base R B F cs x) (hp : Blk w p 9 #[.string (txt n)]) (hq : Blk w q 27 lc.toArray)
    (hld : SpcD w R lc d) (hl8 : lc[8]? = some (.slice none 0 0)) (hRp : R p) (hRq : R q) (hRl : ∀ g, R g → g < w.heap.size) (i : Nat) (hfi : findX n x.2 = some i) (hil : i + 1 = x.2.len) (hfew : x.2.len ≤ 100) :
    Calls Try.prog 38 #[.pointer (some ⟨B, 0, none⟩), .pointer (some ⟨p, 0, none⟩), .pointer (some ⟨q, 0, none⟩)] w (ChgP base R B F (x.1, x.2.app (.cons d .nil .nil)) w) := by
  obtain ⟨box, own, nd, rlt, hb⟩ := h
  have hspn := own.spn
  have hFl := own.lt
  obtain ⟨v, h1, hD, h5, zs, F0, rfl, hk, ht⟩ := own
  obtain ⟨Bn, m, A, c, dn, rfl, -, -, -⟩ := hspn.shape
  simp at h5
  subst h5
  obtain ⟨b, rfl⟩ : ∃ b, A = some ⟨b, 0, none⟩ := by
    rcases hk.2 with ⟨_, h0⟩ | ⟨g, cap, cur, e, _⟩
    · omega
    · injection e with e; exact ⟨g, e⟩
  obtain ⟨y0, y1, y2, y3, y4, y5, y6, y7, rfl⟩ : ∃ y0 y1 y2 y3 y4 y5 y6 y7, lc = [y0, y1, y2, y3, y4, y5, y6, y7, .slice none 0 0] := by
    obtain ⟨nv, kv, dd, e, _⟩ := hld
    subst e
    simp at hl8
    subst hl8
    exact ⟨_, _, _, _, _, _, _, _, rfl⟩
  have hBl := box.lt
  have hpB : p ≠ B := (rlt p hRp).2.1
  have hqB : q ≠ B := (rlt q hRq).2.1
  have hpb : some p ≠ (Value.slice (some ⟨b, 0, none⟩) x.2.len c).ownBlock := fun e => (rlt p hRp).2.2 (by rw [← e]; simp)
  have hqb : some q ≠ (Value.slice (some ⟨b, 0, none⟩) x.2.len c).ownBlock := fun e => (rlt q hRq).2.2 (by rw [← e]; simp)
  have hbB : b ≠ B := fun e => by simp [Value.ownBlock, e] at nd
  have hbase : base ≤ w.heap.size := by omega
  -- what is kept through the region
  have HFIN : ∀ (wa w3 : World) (v' : Value), Below w.heap.size w wa → AppK 27 9 wa base (.slice (some ⟨b, 0, none⟩) x.2.len c) (x.2.len + 1) (zs ++ [y0, y1, y2, y3, y4, y5, y6, y7, .slice none 0 0]) v' w3 → Hid (ChgP base R B ((Value.slice (some ⟨b, 0, none⟩) x.2.len c).ownBlock.toList ++ F0) (x.1, x.2.app (.cons d .nil .nil)) w (.returned (.tuple #[])) (w3.setCell ⟨B, 8, none⟩ v')) := fun wa w3 v' h1 h2 =>
    Lib.hid ⟨rfl, _, after_sit (hd := [.string (txt x.1.name), .int .i64 (x.1.kind : Int), .int .i64 (x.1.typ : Int), .int .u64 (x.1.low : Int), .int .u64 (x.1.high : Int), .slice Bn x.1.names.length m, .bool x.1.must, .int .i64 (x.1.most : Int)]) box rfl hD hk ht nd rlt hb h1 h2 hld hl8⟩
  have HFI : ∀ W, Below w.heap.size w W → Hid (Calls Try.prog 14 #[.agg #[.string (txt x.1.name), .int .i64 (x.1.kind : Int), .int .i64 (x.1.typ : Int), .int .u64 (x.1.low : Int), .int .u64 (x.1.high : Int), .slice Bn x.1.names.length m, .bool x.1.must, .int .i64 (x.1.most : Int), .slice (some ⟨b, 0, none⟩) x.2.len c], .string (txt n)] W (fun r w' => r = .returned (.int .i64 (i : Int)) ∧ Below W.heap.size W w')) := fun W hW => Lib.hid (by
    have hF := find_any n _ _ _ x W (hspn.kept stay_spc (fun g hg => hW.block g (hFl g hg)) (fun _ h => h) (fun g hg => hW.block g (hRl g hg)) (fun _ h => h)) (fun g hg => Nat.lt_of_lt_of_le (hFl g hg) hW.size) (fun g hg => Nat.lt_of_lt_of_le (hRl g hg) hW.size) (by omega)
    rw [add_find hfi] at hF
    exact hF)
  have HIN : ∀ (W : World) (g : Nat), Below w.heap.size w W → Blk W g 27 #[y0, y1, y2, y3, y4, y5, y6, y7, .slice none 0 0] → Hid (Calls Try.prog 39 #[.slice (some ⟨b, 0, none⟩) x.2.len c, .int .i64 ((i : Int) + 1), .slice (some ⟨g, 0, none⟩) 1 1] W (fun r w' => ∃ v', r = .returned v' ∧ AppK 27 9 W base (.slice (some ⟨b, 0, none⟩) x.2.len c) (x.2.len + 1) (zs ++ [y0, y1, y2, y3, y4, y5, y6, y7, .slice none 0 0]) v' w')) := fun W g hW hg => Lib.hid (by
    have hI := ins_any b c x.2.len g base zs _ W (hk.keep (fun g hg => hW.block g (hk.fresh hg).lt)) hg rfl hld.oneC (by omega) (Nat.le_trans hbase hW.size)
    rw [show ((x.2.len : Nat) : Int) = (i : Int) + 1 by omega] at hI
    exact hI)
  have HBX : Hid (∀ (wa w3 : World) (v' : Value), Below w.heap.size w wa → AppK 27 9 wa base (.slice (some ⟨b, 0, none⟩) x.2.len c) (x.2.len + 1) (zs ++ [y0, y1, y2, y3, y4, y5, y6, y7, .slice none 0 0]) v' w3 → w3.cell? ⟨B, 8, none⟩ = some (.slice (some ⟨b, 0, none⟩) x.2.len c) ∧ w3.frozen? ⟨B, 8, none⟩ = false) := Lib.hid (fun wa w3 v' h1 h2 => by
    have hx := (box.below h1 hBl).grown h2.2.1 (fun e => hbB (by injection e with e; exact e.symm))
    exact ⟨hx.cell 8, hx.frozen 8⟩)
  have HF1 := Lib.hid HFIN
  have HF2 := Lib.hid HFI
  have HF3 := Lib.hid HIN
  have HB : Hid (Blk w.drew B 27 #[.string (txt x.1.name), .int .i64 (x.1.kind : Int), .int .i64 (x.1.typ : Int), .int .u64 (x.1.low : Int), .int .u64 (x.1.high : Int), .slice Bn x.1.names.length m, .bool x.1.must, .int .i64 (x.1.most : Int), .slice (some ⟨b, 0, none⟩) x.2.len c]) := Lib.hid box
  have HP : Hid (Blk w.drew p 9 #[.string (txt n)]) := Lib.hid hp
  have HQ : Hid (Blk w.drew q 27 #[y0, y1, y2, y3, y4, y5, y6, y7, .slice none 0 0]) := Lib.hid hq
  have HW : Hid (Below w.heap.size w w.drew) := Lib.hid (Below.refl _ _).drew
  have s0 : IntKind.i64.wrap ((i : Int) + 1) = (i : Int) + 1 := IntWalk.i64_in _ (by omega)
  have HS0 := Lib.hid s0
  have NE := Lib.hid (And.intro hpb (And.intro hqb (And.intro hpB hqB)))
  clear HFIN HFI HIN hp hq hspn hFl h1 hD hk ht nd rlt hld hl8 hRl hfi hil hfew hb hbB hbase hBl box s0 hRp hRq hpb hqb hpB hqB
  go_enter Try.func38, Try.ntmps38
  refine wp_region_noPanic ?_
  refine wp_region_held_drew (S := fun _ => True) (by kernel_rfl) trivial (fun hS => ?_)
  refine wpAnyH_take (i := 0) (oi := ?o1_0_1) (v := ?v1_0_1) ?i1_0_1 (by kernel_rfl) (by kernel_rfl) (by kernel_rfl) (fun _ _ _ h => h) (Or.inl ⟨?g1_0_1, ?y1_0_1⟩) hS ?_
  case i1_0_1 => simp only [List.getElem?_toArray, List.getElem?_cons_succ, List.getElem?_cons_zero]; rfl
  case g1_0_1 => rfl
  case y1_0_1 => (intro w hSw; (go_simp <;> with_reducible rfl))
  (try simp only [Act.put, List.setIfInBounds_toArray, List.set_cons_zero, List.set_cons_succ])
  refine wpAnyH_take (i := 1) (oi := ?o1_1_2) (v := ?v1_1_2) ?i1_1_2 (by kernel_rfl) (by kernel_rfl) (by kernel_rfl) (fun _ _ _ h => h) (Or.inl ⟨?g1_1_2, ?y1_1_2⟩) hS ?_
  case i1_1_2 => simp only [List.getElem?_toArray, List.getElem?_cons_succ, List.getElem?_cons_zero]; rfl
  case g1_1_2 => rfl
  case y1_1_2 => (intro w hSw; (go_simp <;> with_reducible rfl))
  (try simp only [Act.put, List.setIfInBounds_toArray, List.set_cons_zero, List.set_cons_succ])
  refine wpAnyH_take (i := 2) (oi := ?o1_2_3) (v := ?v1_2_3) ?i1_2_3 (by kernel_rfl) (by kernel_rfl) (by kernel_rfl) (fun _ _ _ h => h) (Or.inl ⟨?g1_2_3, ?y1_2_3⟩) hS ?_
  case i1_2_3 => simp only [List.getElem?_toArray, List.getElem?_cons_succ, List.getElem?_cons_zero]; rfl
  case g1_2_3 => rfl
  case y1_2_3 => (intro w hSw; (go_simp <;> with_reducible rfl))
  (try simp only [Act.put, List.setIfInBounds_toArray, List.set_cons_zero, List.set_cons_succ])
  refine wpAnyH_take (i := 3) (oi := ?o1_3_4) (v := ?v1_3_4) ?i1_3_4 (by kernel_rfl) (by kernel_rfl) (by kernel_rfl) (fun _ _ _ h => h) (Or.inl ⟨?g1_3_4, ?y1_3_4⟩) hS ?_
  case i1_3_4 => simp only [List.getElem?_toArray, List.getElem?_cons_succ, List.getElem?_cons_zero]; rfl
  case g1_3_4 => rfl
  case y1_3_4 => (intro w hSw; (go_simp <;> with_reducible rfl))
  (try simp only [Act.put, List.setIfInBounds_toArray, List.set_cons_zero, List.set_cons_succ])
  refine wpAnyH_take (i := 5) (oi := ?o1_5_5) (v := ?v1_5_5) ?i1_5_5 (by kernel_rfl) (by kernel_rfl) (by kernel_rfl) (fun _ _ _ h => h) (Or.inl ⟨?g1_5_5, ?y1_5_5⟩) hS ?_
  case i1_5_5 => simp only [List.getElem?_toArray, List.getElem?_cons_succ, List.getElem?_cons_zero]; rfl
  case g1_5_5 => rfl
  case y1_5_5 => (intro w hSw; (go_simp <;> with_reducible rfl))
  (try simp only [Act.put, List.setIfInBounds_toArray, List.set_cons_zero, List.set_cons_succ])
  refine wpAnyH_take (i := 6) (oi := ?o1_6_6) (v := ?v1_6_6) ?i1_6_6 (by kernel_rfl) (by kernel_rfl) (by kernel_rfl) (fun _ _ _ h => h) (Or.inl ⟨?g1_6_6, ?y1_6_6⟩) hS ?_
  case i1_6_6 => simp only [List.getElem?_toArray, List.getElem?_cons_succ, List.getElem?_cons_zero]; rfl
  case g1_6_6 => rfl
  case y1_6_6 => (intro w hSw; (go_simp <;> with_reducible rfl))
  (try simp only [Act.put, List.setIfInBounds_toArray, List.set_cons_zero, List.set_cons_succ])
  refine held_more (S' := fun w' => Blk w' p 9 #[.string (txt n)] ∧ Blk w' q 27 #[y0, y1, y2, y3, y4, y5, y6, y7, .slice none 0 0]) (fun _ _ => trivial) _ _ _ _ ?_
  replace hS := And.intro HP.out HQ.out
  refine wpAnyH_take (i := 8) (oi := ?o1_8_7) (v := ?v1_8_7) ?i1_8_7 (by kernel_rfl) (by kernel_rfl) (by kernel_rfl) (fun _ _ _ h => h) (Or.inl ⟨?g1_8_7, ?y1_8_7⟩) hS ?_
  case i1_8_7 => simp only [List.getElem?_toArray, List.getElem?_cons_succ, List.getElem?_cons_zero]; rfl
  case g1_8_7 => rfl
  case y1_8_7 => (intro w hSw; have hc := (hSw.1.cell 0).trans rfl; (go_simp <;> with_reducible rfl))
  (try simp only [Act.put, List.setIfInBounds_toArray, List.set_cons_zero, List.set_cons_succ])
  refine wpAnyH_take (i := 11) (oi := ?o1_11_8) (v := ?v1_11_8) ?i1_11_8 (by kernel_rfl) (by kernel_rfl) (by kernel_rfl) (fun _ _ _ h => h) (Or.inl ⟨?g1_11_8, ?y1_11_8⟩) hS ?_
  case i1_11_8 => simp only [List.getElem?_toArray, List.getElem?_cons_succ, List.getElem?_cons_zero]; rfl
  case g1_11_8 => rfl
  case y1_11_8 => (intro w hSw; have c0 := (hSw.2.cell 0).trans rfl; have c1 := (hSw.2.cell 1).trans rfl; have c2 := (hSw.2.cell 2).trans rfl; have c3 := (hSw.2.cell 3).trans rfl; have c4 := (hSw.2.cell 4).trans rfl; have c5 := (hSw.2.cell 5).trans rfl; have c6 := (hSw.2.cell 6).trans rfl; have c7 := (hSw.2.cell 7).trans rfl; have c8 := (hSw.2.cell 8).trans rfl; (go_simp <;> with_reducible rfl))
  (try simp only [Act.put, List.setIfInBounds_toArray, List.set_cons_zero, List.set_cons_succ])
  refine wpAnyH_ready (rs := [4, 7, 12]) (by kernel_rfl) (by simp) ?_
  refine (AllReadyH.cons (o := ?or1_9_4) ?ir1_9_4 (fun K hK => ?str1_9_4) (AllReadyH.cons (o := ?or1_9_7) ?ir1_9_7 (fun K hK => ?str1_9_7) (AllReadyH.cons (o := ?or1_9_12) ?ir1_9_12 (fun K hK => ?str1_9_12) AllReadyH.nil)))
  case ir1_9_4 => simp only [List.getElem?_toArray, List.getElem?_cons_succ, List.getElem?_cons_zero]; rfl
  case ir1_9_7 => simp only [List.getElem?_toArray, List.getElem?_cons_succ, List.getElem?_cons_zero]; rfl
  case ir1_9_12 => simp only [List.getElem?_toArray, List.getElem?_cons_succ, List.getElem?_cons_zero]; rfl
  case' str1_9_4 =>
    rw [if_pos (by rfl)]
    have c8 := (HB.out.cell 8).trans rfl
    go_simp
    refine hK.out _ _ ?sr1_9_4 (fun hS => ?_)
    case sr1_9_4 => (exact hS)
    clear hK K
    (try simp only [Act.put, List.setIfInBounds_toArray, List.set_cons_zero, List.set_cons_succ])
    clear c8
    refine wpAnyH_ready (rs := [7, 12]) (by kernel_rfl) (by simp) ?_
    refine (AllReadyH.cons (o := ?or1_10_7) ?ir1_10_7 (fun K hK => ?str1_10_7) (AllReadyH.cons (o := ?or1_10_12) ?ir1_10_12 (fun K hK => ?str1_10_12) AllReadyH.nil))
    case ir1_10_7 => simp only [List.getElem?_toArray, List.getElem?_cons_succ, List.getElem?_cons_zero]; rfl
    case ir1_10_12 => simp only [List.getElem?_toArray, List.getElem?_cons_succ, List.getElem?_cons_zero]; rfl
    case' str1_10_7 =>
      rw [if_pos (by rfl)]
      have c0 := (HB.out.cell 0).trans rfl
      have c1 := (HB.out.cell 1).trans rfl
      have c2 := (HB.out.cell 2).trans rfl
      have c3 := (HB.out.cell 3).trans rfl
      have c4 := (HB.out.cell 4).trans rfl
      have c5 := (HB.out.cell 5).trans rfl
      have c6 := (HB.out.cell 6).trans rfl
      have c7 := (HB.out.cell 7).trans rfl
      have c8 := (HB.out.cell 8).trans rfl
      go_simp
      refine hK.out _ _ ?sr1_10_7 (fun hS => ?_)
      case sr1_10_7 => (exact hS)
      clear hK K
      (try simp only [Act.put, List.setIfInBounds_toArray, List.set_cons_zero, List.set_cons_succ])
      clear c0 c1 c2 c3 c4 c5 c6 c7 c8
      refine wpAnyH_ready (rs := [9, 12]) (by kernel_rfl) (by simp) ?_
      refine (AllReadyH.cons (o := ?or1_11_9) ?ir1_11_9 (fun K hK => ?str1_11_9) (AllReadyH.cons (o := ?or1_11_12) ?ir1_11_12 (fun K hK => ?str1_11_12) AllReadyH.nil))
      case ir1_11_9 => simp only [List.getElem?_toArray, List.getElem?_cons_succ, List.getElem?_cons_zero]; rfl
      case ir1_11_12 => simp only [List.getElem?_toArray, List.getElem?_cons_succ, List.getElem?_cons_zero]; rfl
      case' str1_11_9 =>
        rw [if_pos (by rfl)]
        go_simp
        refine (HF2.out _ HW.out).out.mono ?_
        rintro r w9 ⟨rfl, hb9⟩
        go_wp2_with fail
        refine hK.out _ _ ?sr1_11_9 (fun hS => ?_)
        case sr1_11_9 => (exact ⟨hS.1.below hb9 hS.1.lt, hS.2.below hb9 hS.2.lt⟩)
        clear hK K
        (try simp only [Act.put, List.setIfInBounds_toArray, List.set_cons_zero, List.set_cons_succ])
        have HB := Lib.hid (HB.out.later hb9 rfl)
        have HW := Lib.hid (HW.out.trans (hb9.mono HW.out.size))
        clear hb9
        refine wpAnyH_take (i := 10) (oi := ?o1_10_12) (v := ?v1_10_12) ?i1_10_12 (by kernel_rfl) (by kernel_rfl) (by kernel_rfl) (fun _ _ _ h => h) (Or.inl ⟨?g1_10_12, ?y1_10_12⟩) hS ?_
        case i1_10_12 => simp only [List.getElem?_toArray, List.getElem?_cons_succ, List.getElem?_cons_zero]; rfl
        case g1_10_12 => rfl
        case y1_10_12 => (intro w hSw; have hc := HS0.out; (go_simp <;> with_reducible rfl))
        (try simp only [Act.put, List.setIfInBounds_toArray, List.set_cons_zero, List.set_cons_succ])
        refine wpAnyH_ready (rs := [12]) (by kernel_rfl) (by simp) ?_
        refine (AllReadyH.cons (o := ?or1_13_12) ?ir1_13_12 (fun K hK => ?str1_13_12) AllReadyH.nil)
        case ir1_13_12 => simp only [List.getElem?_toArray, List.getElem?_cons_succ, List.getElem?_cons_zero]; rfl
        rw [if_pos (by rfl)]
        go_simp
        refine hK.out _ _ ?sr1_13_12 (fun hS => ?_)
        case sr1_13_12 => (exact ⟨hS.1.alloc _, hS.2.alloc _⟩)
        clear hK K
        (try simp only [Act.put, List.setIfInBounds_toArray, List.set_cons_zero, List.set_cons_succ])
        have HL := Lib.hid (Blk.new w9 27 #[y0, y1, y2, y3, y4, y5, y6, y7, .slice none 0 0])
        have HB := Lib.hid (HB.out.alloc (.cells #[y0, y1, y2, y3, y4, y5, y6, y7, .slice none 0 0] 27))
        have HW := Lib.hid (HW.out.alloc HW.out.size (.cells #[y0, y1, y2, y3, y4, y5, y6, y7, .slice none 0 0] 27))
        refine wpAnyH_ready (rs := [13]) (by kernel_rfl) (by simp) ?_
        refine (AllReadyH.cons (o := ?or1_14_13) ?ir1_14_13 (fun K hK => ?str1_14_13) AllReadyH.nil)
        case ir1_14_13 => simp only [List.getElem?_toArray, List.getElem?_cons_succ, List.getElem?_cons_zero]; rfl
        rw [if_pos (by rfl)]
        go_simp
        refine (HF3.out _ _ HW.out HL.out).out.mono ?_
        rintro r w13 ⟨v', rfl, hap⟩
        obtain ⟨g13, c13, rfl⟩ := hap.2.2.2
        go_wp2_with fail
        refine hK.out _ _ ?sr1_14_13 (fun hS => ?_)
        case sr1_14_13 => (exact ⟨hS.1.grown hap.2.1 NE.out.1, hS.2.grown hap.2.1 NE.out.2.1⟩)
        clear hK K
        (try simp only [Act.put, List.setIfInBounds_toArray, List.set_cons_zero, List.set_cons_succ])
        have HAP := Lib.hid hap
        clear hap
        refine wpAnyH_take (i := 14) (oi := ?o1_14_15) (v := ?v1_14_15) ?i1_14_15 (by kernel_rfl) (by kernel_rfl) (by kernel_rfl) (fun _ _ _ h => h) (Or.inl ⟨?g1_14_15, ?y1_14_15⟩) hS ?_
        case i1_14_15 => simp only [List.getElem?_toArray, List.getElem?_cons_succ, List.getElem?_cons_zero]; rfl
        case g1_14_15 => rfl
        case y1_14_15 => (intro w hSw; (go_simp <;> with_reducible rfl))
        (try simp only [Act.put, List.setIfInBounds_toArray, List.set_cons_zero, List.set_cons_succ])
        refine wpAnyH_take (i := 15) (oi := ?o1_15_16) (v := ?v1_15_16) ?i1_15_16 (by kernel_rfl) (by kernel_rfl) (by kernel_rfl) (fun _ _ _ h => h) (Or.inl ⟨?g1_15_16, ?y1_15_16⟩) hS ?_
        case i1_15_16 => simp only [List.getElem?_toArray, List.getElem?_cons_succ, List.getElem?_cons_zero]; rfl
        case g1_15_16 => rfl
        case y1_15_16 => (intro w hSw; (go_simp <;> with_reducible rfl))
        (try simp only [Act.put, List.setIfInBounds_toArray, List.set_cons_zero, List.set_cons_succ])
        refine wpAnyH_ready (rs := [16]) (by kernel_rfl) (by simp) ?_
        refine (AllReadyH.cons (o := ?or1_17_16) ?ir1_17_16 (fun K hK => ?str1_17_16) AllReadyH.nil)
        case ir1_17_16 => simp only [List.getElem?_toArray, List.getElem?_cons_succ, List.getElem?_cons_zero]; rfl
        rw [if_pos (by rfl)]
        have x1 := (HBX.out _ _ _ HW.out HAP.out).1
        have x2 := (HBX.out _ _ _ HW.out HAP.out).2
        go_simp
        refine hK.out _ _ ?sr1_17_16 (fun hS => ?_)
        case sr1_17_16 => (exact ⟨hS.1.far NE.out.2.2.1 _, hS.2.far NE.out.2.2.2 _⟩)
        clear hK K
        (try simp only [Act.put, List.setIfInBounds_toArray, List.set_cons_zero, List.set_cons_succ])
        refine wpAnyH_done (by kernel_rfl) ?_ _
        refine NoPanic.normal ?_
      case' str1_11_12 =>
        rw [if_pos (by rfl)]
        go_simp
        refine hK.out _ _ ?sr1_11_12 (fun hS => ?_)
        case sr1_11_12 => (exact ⟨hS.1.alloc _, hS.2.alloc _⟩)
        clear hK K
        (try simp only [Act.put, List.setIfInBounds_toArray, List.set_cons_zero, List.set_cons_succ])
        have HL := Lib.hid (Blk.new w 27 #[y0, y1, y2, y3, y4, y5, y6, y7, .slice none 0 0])
        have HB := Lib.hid (Blk.alloc (w := w) HB.out (.cells #[y0, y1, y2, y3, y4, y5, y6, y7, .slice none 0 0] 27))
        have HW : Hid (Below w.heap.size w (w.alloc (.cells #[y0, y1, y2, y3, y4, y5, y6, y7, .slice none 0 0] 27)).drew) := Lib.hid (((Below.refl _ _).alloc (Nat.le_refl _) _).drew)
        refine wpAnyH_ready (rs := [9]) (by kernel_rfl) (by simp) ?_
        refine (AllReadyH.cons (o := ?or1_18_9) ?ir1_18_9 (fun K hK => ?str1_18_9) AllReadyH.nil)
        case ir1_18_9 => simp only [List.getElem?_toArray, List.getElem?_cons_succ, List.getElem?_cons_zero]; rfl
        rw [if_pos (by rfl)]
        go_simp
        refine (HF2.out _ HW.out).out.mono ?_
        rintro r w9 ⟨rfl, hb9⟩
        go_wp2_with fail
        refine hK.out _ _ ?sr1_18_9 (fun hS => ?_)
        case sr1_18_9 => (exact ⟨hS.1.below hb9 hS.1.lt, hS.2.below hb9 hS.2.lt⟩)
        clear hK K
        (try simp only [Act.put, List.setIfInBounds_toArray, List.set_cons_zero, List.set_cons_succ])
        have HB := Lib.hid (HB.out.later hb9 rfl)
        have HL := Lib.hid (HL.out.later hb9 rfl)
        have HW := Lib.hid (HW.out.trans (hb9.mono HW.out.size))
        clear hb9
        refine wpAnyH_take (i := 10) (oi := ?o1_10_19) (v := ?v1_10_19) ?i1_10_19 (by kernel_rfl) (by kernel_rfl) (by kernel_rfl) (fun _ _ _ h => h) (Or.inl ⟨?g1_10_19, ?y1_10_19⟩) hS ?_
        case i1_10_19 => simp only [List.getElem?_toArray, List.getElem?_cons_succ, List.getElem?_cons_zero]; rfl
        case g1_10_19 => rfl
        case y1_10_19 => (intro w hSw; have hc := HS0.out; (go_simp <;> with_reducible rfl))
        (try simp only [Act.put, List.setIfInBounds_toArray, List.set_cons_zero, List.set_cons_succ])
        refine wpAnyH_ready (rs := [13]) (by kernel_rfl) (by simp) ?_
        refine (AllReadyH.cons (o := ?or1_20_13) ?ir1_20_13 (fun K hK => ?str1_20_13) AllReadyH.nil)
        case ir1_20_13 => simp only [List.getElem?_toArray, List.getElem?_cons_succ, List.getElem?_cons_zero]; rfl
        rw [if_pos (by rfl)]
        go_simp
        refine (HF3.out _ _ HW.out HL.out).out.mono ?_
        rintro r w13 ⟨v', rfl, hap⟩
        obtain ⟨g13, c13, rfl⟩ := hap.2.2.2
        go_wp2_with fail
        refine hK.out _ _ ?sr1_20_13 (fun hS => ?_)
        case sr1_20_13 => (exact ⟨hS.1.grown hap.2.1 NE.out.1, hS.2.grown hap.2.1 NE.out.2.1⟩)
        clear hK K
        (try simp only [Act.put, List.setIfInBounds_toArray, List.set_cons_zero, List.set_cons_succ])
        have HAP := Lib.hid hap
        clear hap
        refine wpAnyH_take (i := 14) (oi := ?o1_14_21) (v := ?v1_14_21) ?i1_14_21 (by kernel_rfl) (by kernel_rfl) (by kernel_rfl) (fun _ _ _ h => h) (Or.inl ⟨?g1_14_21, ?y1_14_21⟩) hS ?_
        case i1_14_21 => simp only [List.getElem?_toArray, List.getElem?_cons_succ, List.getElem?_cons_zero]; rfl
        case g1_14_21 => rfl
        case y1_14_21 => (intro w hSw; (go_simp <;> with_reducible rfl))
        (try simp only [Act.put, List.setIfInBounds_toArray, List.set_cons_zero, List.set_cons_succ])
        refine wpAnyH_take (i := 15) (oi := ?o1_15_22) (v := ?v1_15_22) ?i1_15_22 (by kernel_rfl) (by kernel_rfl) (by kernel_rfl) (fun _ _ _ h => h) (Or.inl ⟨?g1_15_22, ?y1_15_22⟩) hS ?_
        case i1_15_22 => simp only [List.getElem?_toArray, List.getElem?_cons_succ, List.getElem?_cons_zero]; rfl
        case g1_15_22 => rfl
        case y1_15_22 => (intro w hSw; (go_simp <;> with_reducible rfl))
        (try simp only [Act.put, List.setIfInBounds_toArray, List.set_cons_zero, List.set_cons_succ])
        refine wpAnyH_ready (rs := [16]) (by kernel_rfl) (by simp) ?_
        refine (AllReadyH.cons (o := ?or1_23_16) ?ir1_23_16 (fun K hK => ?str1_23_16) AllReadyH.nil)
        case ir1_23_16 => simp only [List.getElem?_toArray, List.getElem?_cons_succ, List.getElem?_cons_zero]; rfl
        rw [if_pos (by rfl)]
        have x1 := (HBX.out _ _ _ HW.out HAP.out).1
        have x2 := (HBX.out _ _ _ HW.out HAP.out).2
        go_simp
        refine hK.out _ _ ?sr1_23_16 (fun hS => ?_)
        case sr1_23_16 => (exact ⟨hS.1.far NE.out.2.2.1 _, hS.2.far NE.out.2.2.2 _⟩)
        clear hK K
        (try simp only [Act.put, List.setIfInBounds_toArray, List.set_cons_zero, List.set_cons_succ])
        refine wpAnyH_done (by kernel_rfl) ?_ _
        refine NoPanic.normal ?_
    case' str1_10_12 =>
      rw [if_pos (by rfl)]
      go_simp
      refine hK.out _ _ ?sr1_10_12 (fun hS => ?_)
      case sr1_10_12 => (exact ⟨hS.1.alloc _, hS.2.alloc _⟩)
      clear hK K
      (try simp only [Act.put, List.setIfInBounds_toArray, List.set_cons_zero, List.set_cons_succ])
      have HL := Lib.hid (Blk.new w 27 #[y0, y1, y2, y3, y4, y5, y6, y7, .slice none 0 0])
      have HB := Lib.hid (Blk.alloc (w := w) HB.out (.cells #[y0, y1, y2, y3, y4, y5, y6, y7, .slice none 0 0] 27))
      have HW : Hid (Below w.heap.size w (w.alloc (.cells #[y0, y1, y2, y3, y4, y5, y6, y7, .slice none 0 0] 27)).drew) := Lib.hid (((Below.refl _ _).alloc (Nat.le_refl _) _).drew)
      refine wpAnyH_ready (rs := [7]) (by kernel_rfl) (by simp) ?_
      refine (AllReadyH.cons (o := ?or1_24_7) ?ir1_24_7 (fun K hK => ?str1_24_7) AllReadyH.nil)
      case ir1_24_7 => simp only [List.getElem?_toArray, List.getElem?_cons_succ, List.getElem?_cons_zero]; rfl
      rw [if_pos (by rfl)]
      have c0 := (HB.out.cell 0).trans rfl
      have c1 := (HB.out.cell 1).trans rfl
      have c2 := (HB.out.cell 2).trans rfl
      have c3 := (HB.out.cell 3).trans rfl
      have c4 := (HB.out.cell 4).trans rfl
      have c5 := (HB.out.cell 5).trans rfl
      have c6 := (HB.out.cell 6).trans rfl
      have c7 := (HB.out.cell 7).trans rfl
      have c8 := (HB.out.cell 8).trans rfl
      go_simp
      refine hK.out _ _ ?sr1_24_7 (fun hS => ?_)
      case sr1_24_7 => (exact hS)
      clear hK K
      (try simp only [Act.put, List.setIfInBounds_toArray, List.set_cons_zero, List.set_cons_succ])
      clear c0 c1 c2 c3 c4 c5 c6 c7 c8
      refine wpAnyH_ready (rs := [9]) (by kernel_rfl) (by simp) ?_
      refine (AllReadyH.cons (o := ?or1_25_9) ?ir1_25_9 (fun K hK => ?str1_25_9) AllReadyH.nil)
      case ir1_25_9 => simp only [List.getElem?_toArray, List.getElem?_cons_succ, List.getElem?_cons_zero]; rfl
      rw [if_pos (by rfl)]
      go_simp
      refine (HF2.out _ HW.out).out.mono ?_
      rintro r w9 ⟨rfl, hb9⟩
      go_wp2_with fail
      refine hK.out _ _ ?sr1_25_9 (fun hS => ?_)
      case sr1_25_9 => (exact ⟨hS.1.below hb9 hS.1.lt, hS.2.below hb9 hS.2.lt⟩)
      clear hK K
      (try simp only [Act.put, List.setIfInBounds_toArray, List.set_cons_zero, List.set_cons_succ])
      have HB := Lib.hid (HB.out.later hb9 rfl)
      have HL := Lib.hid (HL.out.later hb9 rfl)
      have HW := Lib.hid (HW.out.trans (hb9.mono HW.out.size))
      clear hb9
      refine wpAnyH_take (i := 10) (oi := ?o1_10_26) (v := ?v1_10_26) ?i1_10_26 (by kernel_rfl) (by kernel_rfl) (by kernel_rfl) (fun _ _ _ h => h) (Or.inl ⟨?g1_10_26, ?y1_10_26⟩) hS ?_
      case i1_10_26 => simp only [List.getElem?_toArray, List.getElem?_cons_succ, List.getElem?_cons_zero]; rfl
      case g1_10_26 => rfl
      case y1_10_26 => (intro w hSw; have hc := HS0.out; (go_simp <;> with_reducible rfl))
      (try simp only [Act.put, List.setIfInBounds_toArray, List.set_cons_zero, List.set_cons_succ])
      refine wpAnyH_ready (rs := [13]) (by kernel_rfl) (by simp) ?_
      refine (AllReadyH.cons (o := ?or1_27_13) ?ir1_27_13 (fun K hK => ?str1_27_13) AllReadyH.nil)
      case ir1_27_13 => simp only [List.getElem?_toArray, List.getElem?_cons_succ, List.getElem?_cons_zero]; rfl
      rw [if_pos (by rfl)]
      go_simp
      refine (HF3.out _ _ HW.out HL.out).out.mono ?_
      rintro r w13 ⟨v', rfl, hap⟩
      obtain ⟨g13, c13, rfl⟩ := hap.2.2.2
      go_wp2_with fail
      refine hK.out _ _ ?sr1_27_13 (fun hS => ?_)
      case sr1_27_13 => (exact ⟨hS.1.grown hap.2.1 NE.out.1, hS.2.grown hap.2.1 NE.out.2.1⟩)
      clear hK K
      (try simp only [Act.put, List.setIfInBounds_toArray, List.set_cons_zero, List.set_cons_succ])
      have HAP := Lib.hid hap
      clear hap
      refine wpAnyH_take (i := 14) (oi := ?o1_14_28) (v := ?v1_14_28) ?i1_14_28 (by kernel_rfl) (by kernel_rfl) (by kernel_rfl) (fun _ _ _ h => h) (Or.inl ⟨?g1_14_28, ?y1_14_28⟩) hS ?_
      case i1_14_28 => simp only [List.getElem?_toArray, List.getElem?_cons_succ, List.getElem?_cons_zero]; rfl
      case g1_14_28 => rfl
      case y1_14_28 => (intro w hSw; (go_simp <;> with_reducible rfl))
      (try simp only [Act.put, List.setIfInBounds_toArray, List.set_cons_zero, List.set_cons_succ])
      refine wpAnyH_take (i := 15) (oi := ?o1_15_29) (v := ?v1_15_29) ?i1_15_29 (by kernel_rfl) (by kernel_rfl) (by kernel_rfl) (fun _ _ _ h => h) (Or.inl ⟨?g1_15_29, ?y1_15_29⟩) hS ?_
      case i1_15_29 => simp only [List.getElem?_toArray, List.getElem?_cons_succ, List.getElem?_cons_zero]; rfl
      case g1_15_29 => rfl
      case y1_15_29 => (intro w hSw; (go_simp <;> with_reducible rfl))
      (try simp only [Act.put, List.setIfInBounds_toArray, List.set_cons_zero, List.set_cons_succ])
      refine wpAnyH_ready (rs := [16]) (by kernel_rfl) (by simp) ?_
      refine (AllReadyH.cons (o := ?or1_30_16) ?ir1_30_16 (fun K hK => ?str1_30_16) AllReadyH.nil)
      case ir1_30_16 => simp only [List.getElem?_toArray, List.getElem?_cons_succ, List.getElem?_cons_zero]; rfl
      rw [if_pos (by rfl)]
      have x1 := (HBX.out _ _ _ HW.out HAP.out).1
      have x2 := (HBX.out _ _ _ HW.out HAP.out).2
      go_simp
      refine hK.out _ _ ?sr1_30_16 (fun hS => ?_)
      case sr1_30_16 => (exact ⟨hS.1.far NE.out.2.2.1 _, hS.2.far NE.out.2.2.2 _⟩)
      clear hK K
      (try simp only [Act.put, List.setIfInBounds_toArray, List.set_cons_zero, List.set_cons_succ])
      refine wpAnyH_done (by kernel_rfl) ?_ _
      refine NoPanic.normal ?_
  case' str1_9_7 =>
    rw [if_pos (by rfl)]
    have c0 := (HB.out.cell 0).trans rfl
    have c1 := (HB.out.cell 1).trans rfl
    have c2 := (HB.out.cell 2).trans rfl
    have c3 := (HB.out.cell 3).trans rfl
    have c4 := (HB.out.cell 4).trans rfl
    have c5 := (HB.out.cell 5).trans rfl
    have c6 := (HB.out.cell 6).trans rfl
    have c7 := (HB.out.cell 7).trans rfl
    have c8 := (HB.out.cell 8).trans rfl
    go_simp
    refine hK.out _ _ ?sr1_9_7 (fun hS => ?_)
    case sr1_9_7 => (exact hS)
    clear hK K
    (try simp only [Act.put, List.setIfInBounds_toArray, List.set_cons_zero, List.set_cons_succ])
    clear c0 c1 c2 c3 c4 c5 c6 c7 c8
    refine wpAnyH_ready (rs := [4, 9, 12]) (by kernel_rfl) (by simp) ?_
    refine (AllReadyH.cons (o := ?or1_31_4) ?ir1_31_4 (fun K hK => ?str1_31_4) (AllReadyH.cons (o := ?or1_31_9) ?ir1_31_9 (fun K hK => ?str1_31_9) (AllReadyH.cons (o := ?or1_31_12) ?ir1_31_12 (fun K hK => ?str1_31_12) AllReadyH.nil)))
    case ir1_31_4 => simp only [List.getElem?_toArray, List.getElem?_cons_succ, List.getElem?_cons_zero]; rfl
    case ir1_31_9 => simp only [List.getElem?_toArray, List.getElem?_cons_succ, List.getElem?_cons_zero]; rfl
    case ir1_31_12 => simp only [List.getElem?_toArray, List.getElem?_cons_succ, List.getElem?_cons_zero]; rfl
    case' str1_31_4 =>
      rw [if_pos (by rfl)]
      have c8 := (HB.out.cell 8).trans rfl
      go_simp
      refine hK.out _ _ ?sr1_31_4 (fun hS => ?_)
      case sr1_31_4 => (exact hS)
      clear hK K
      (try simp only [Act.put, List.setIfInBounds_toArray, List.set_cons_zero, List.set_cons_succ])
      clear c8
      refine wpAnyH_ready (rs := [9, 12]) (by kernel_rfl) (by simp) ?_
      refine (AllReadyH.cons (o := ?or1_32_9) ?ir1_32_9 (fun K hK => ?str1_32_9) (AllReadyH.cons (o := ?or1_32_12) ?ir1_32_12 (fun K hK => ?str1_32_12) AllReadyH.nil))
      case ir1_32_9 => simp only [List.getElem?_toArray, List.getElem?_cons_succ, List.getElem?_cons_zero]; rfl
      case ir1_32_12 => simp only [List.getElem?_toArray, List.getElem?_cons_succ, List.getElem?_cons_zero]; rfl
      case' str1_32_9 =>
        rw [if_pos (by rfl)]
        go_simp
        refine (HF2.out _ HW.out).out.mono ?_
        rintro r w9 ⟨rfl, hb9⟩
        go_wp2_with fail
        refine hK.out _ _ ?sr1_32_9 (fun hS => ?_)
        case sr1_32_9 => (exact ⟨hS.1.below hb9 hS.1.lt, hS.2.below hb9 hS.2.lt⟩)
        clear hK K
        (try simp only [Act.put, List.setIfInBounds_toArray, List.set_cons_zero, List.set_cons_succ])
        have HB := Lib.hid (HB.out.later hb9 rfl)
        have HW := Lib.hid (HW.out.trans (hb9.mono HW.out.size))
        clear hb9
        refine wpAnyH_take (i := 10) (oi := ?o1_10_33) (v := ?v1_10_33) ?i1_10_33 (by kernel_rfl) (by kernel_rfl) (by kernel_rfl) (fun _ _ _ h => h) (Or.inl ⟨?g1_10_33, ?y1_10_33⟩) hS ?_
        case i1_10_33 => simp only [List.getElem?_toArray, List.getElem?_cons_succ, List.getElem?_cons_zero]; rfl
        case g1_10_33 => rfl
        case y1_10_33 => (intro w hSw; have hc := HS0.out; (go_simp <;> with_reducible rfl))
        (try simp only [Act.put, List.setIfInBounds_toArray, List.set_cons_zero, List.set_cons_succ])
        refine wpAnyH_ready (rs := [12]) (by kernel_rfl) (by simp) ?_
        refine (AllReadyH.cons (o := ?or1_34_12) ?ir1_34_12 (fun K hK => ?str1_34_12) AllReadyH.nil)
        case ir1_34_12 => simp only [List.getElem?_toArray, List.getElem?_cons_succ, List.getElem?_cons_zero]; rfl
        rw [if_pos (by rfl)]
        go_simp
        refine hK.out _ _ ?sr1_34_12 (fun hS => ?_)
        case sr1_34_12 => (exact ⟨hS.1.alloc _, hS.2.alloc _⟩)
        clear hK K
        (try simp only [Act.put, List.setIfInBounds_toArray, List.set_cons_zero, List.set_cons_succ])
        have HL := Lib.hid (Blk.new w9 27 #[y0, y1, y2, y3, y4, y5, y6, y7, .slice none 0 0])
        have HB := Lib.hid (HB.out.alloc (.cells #[y0, y1, y2, y3, y4, y5, y6, y7, .slice none 0 0] 27))
        have HW := Lib.hid (HW.out.alloc HW.out.size (.cells #[y0, y1, y2, y3, y4, y5, y6, y7, .slice none 0 0] 27))
        refine wpAnyH_ready (rs := [13]) (by kernel_rfl) (by simp) ?_
        refine (AllReadyH.cons (o := ?or1_35_13) ?ir1_35_13 (fun K hK => ?str1_35_13) AllReadyH.nil)
        case ir1_35_13 => simp only [List.getElem?_toArray, List.getElem?_cons_succ, List.getElem?_cons_zero]; rfl
        rw [if_pos (by rfl)]
        go_simp
        refine (HF3.out _ _ HW.out HL.out).out.mono ?_
        rintro r w13 ⟨v', rfl, hap⟩
        obtain ⟨g13, c13, rfl⟩ := hap.2.2.2
        go_wp2_with fail
        refine hK.out _ _ ?sr1_35_13 (fun hS => ?_)
        case sr1_35_13 => (exact ⟨hS.1.grown hap.2.1 NE.out.1, hS.2.grown hap.2.1 NE.out.2.1⟩)
        clear hK K
        (try simp only [Act.put, List.setIfInBounds_toArray, List.set_cons_zero, List.set_cons_succ])
        have HAP := Lib.hid hap
        clear hap
        refine wpAnyH_take (i := 14) (oi := ?o1_14_36) (v := ?v1_14_36) ?i1_14_36 (by kernel_rfl) (by kernel_rfl) (by kernel_rfl) (fun _ _ _ h => h) (Or.inl ⟨?g1_14_36, ?y1_14_36⟩) hS ?_
        case i1_14_36 => simp only [List.getElem?_toArray, List.getElem?_cons_succ, List.getElem?_cons_zero]; rfl
        case g1_14_36 => rfl
        case y1_14_36 => (intro w hSw; (go_simp <;> with_reducible rfl))
        (try simp only [Act.put, List.setIfInBounds_toArray, List.set_cons_zero, List.set_cons_succ])
        refine wpAnyH_take (i := 15) (oi := ?o1_15_37) (v := ?v1_15_37) ?i1_15_37 (by kernel_rfl) (by kernel_rfl) (by kernel_rfl) (fun _ _ _ h => h) (Or.inl ⟨?g1_15_37, ?y1_15_37⟩) hS ?_
        case i1_15_37 => simp only [List.getElem?_toArray, List.getElem?_cons_succ, List.getElem?_cons_zero]; rfl
        case g1_15_37 => rfl
        case y1_15_37 => (intro w hSw; (go_simp <;> with_reducible rfl))
        (try simp only [Act.put, List.setIfInBounds_toArray, List.set_cons_zero, List.set_cons_succ])
        refine wpAnyH_ready (rs := [16]) (by kernel_rfl) (by simp) ?_
        refine (AllReadyH.cons (o := ?or1_38_16) ?ir1_38_16 (fun K hK => ?str1_38_16) AllReadyH.nil)
        case ir1_38_16 => simp only [List.getElem?_toArray, List.getElem?_cons_succ, List.getElem?_cons_zero]; rfl
        rw [if_pos (by rfl)]
        have x1 := (HBX.out _ _ _ HW.out HAP.out).1
        have x2 := (HBX.out _ _ _ HW.out HAP.out).2
        go_simp
        refine hK.out _ _ ?sr1_38_16 (fun hS => ?_)
        case sr1_38_16 => (exact ⟨hS.1.far NE.out.2.2.1 _, hS.2.far NE.out.2.2.2 _⟩)
        clear hK K
        (try simp only [Act.put, List.setIfInBounds_toArray, List.set_cons_zero, List.set_cons_succ])
        refine wpAnyH_done (by kernel_rfl) ?_ _
        refine NoPanic.normal ?_
      case' str1_32_12 =>
        rw [if_pos (by rfl)]
        go_simp
        refine hK.out _ _ ?sr1_32_12 (fun hS => ?_)
        case sr1_32_12 => (exact ⟨hS.1.alloc _, hS.2.alloc _⟩)
        clear hK K
        (try simp only [Act.put, List.setIfInBounds_toArray, List.set_cons_zero, List.set_cons_succ])
        have HL := Lib.hid (Blk.new w 27 #[y0, y1, y2, y3, y4, y5, y6, y7, .slice none 0 0])
        have HB := Lib.hid (Blk.alloc (w := w) HB.out (.cells #[y0, y1, y2, y3, y4, y5, y6, y7, .slice none 0 0] 27))
        have HW : Hid (Below w.heap.size w (w.alloc (.cells #[y0, y1, y2, y3, y4, y5, y6, y7, .slice none 0 0] 27)).drew) := Lib.hid (((Below.refl _ _).alloc (Nat.le_refl _) _).drew)
        refine wpAnyH_ready (rs := [9]) (by kernel_rfl) (by simp) ?_
        refine (AllReadyH.cons (o := ?or1_39_9) ?ir1_39_9 (fun K hK => ?str1_39_9) AllReadyH.nil)
        case ir1_39_9 => simp only [List.getElem?_toArray, List.getElem?_cons_succ, List.getElem?_cons_zero]; rfl
        rw [if_pos (by rfl)]
        go_simp
        refine (HF2.out _ HW.out).out.mono ?_
        rintro r w9 ⟨rfl, hb9⟩
        go_wp2_with fail
        refine hK.out _ _ ?sr1_39_9 (fun hS => ?_)
        case sr1_39_9 => (exact ⟨hS.1.below hb9 hS.1.lt, hS.2.below hb9 hS.2.lt⟩)
        clear hK K
        (try simp only [Act.put, List.setIfInBounds_toArray, List.set_cons_zero, List.set_cons_succ])
        have HB := Lib.hid (HB.out.later hb9 rfl)
        have HL := Lib.hid (HL.out.later hb9 rfl)
        have HW := Lib.hid (HW.out.trans (hb9.mono HW.out.size))
        clear hb9
        refine wpAnyH_take (i := 10) (oi := ?o1_10_40) (v := ?v1_10_40) ?i1_10_40 (by kernel_rfl) (by kernel_rfl) (by kernel_rfl) (fun _ _ _ h => h) (Or.inl ⟨?g1_10_40, ?y1_10_40⟩) hS ?_
        case i1_10_40 => simp only [List.getElem?_toArray, List.getElem?_cons_succ, List.getElem?_cons_zero]; rfl
        case g1_10_40 => rfl
        case y1_10_40 => (intro w hSw; have hc := HS0.out; (go_simp <;> with_reducible rfl))
        (try simp only [Act.put, List.setIfInBounds_toArray, List.set_cons_zero, List.set_cons_succ])
        refine wpAnyH_ready (rs := [13]) (by kernel_rfl) (by simp) ?_
        refine (AllReadyH.cons (o := ?or1_41_13) ?ir1_41_13 (fun K hK => ?str1_41_13) AllReadyH.nil)
        case ir1_41_13 => simp only [List.getElem?_toArray, List.getElem?_cons_succ, List.getElem?_cons_zero]; rfl
        rw [if_pos (by rfl)]
        go_simp
        refine (HF3.out _ _ HW.out HL.out).out.mono ?_
        rintro r w13 ⟨v', rfl, hap⟩
        obtain ⟨g13, c13, rfl⟩ := hap.2.2.2
        go_wp2_with fail
        refine hK.out _ _ ?sr1_41_13 (fun hS => ?_)
        case sr1_41_13 => (exact ⟨hS.1.grown hap.2.1 NE.out.1, hS.2.grown hap.2.1 NE.out.2.1⟩)
        clear hK K
        (try simp only [Act.put, List.setIfInBounds_toArray, List.set_cons_zero, List.set_cons_succ])
        have HAP := Lib.hid hap
        clear hap
        refine wpAnyH_take (i := 14) (oi := ?o1_14_42) (v := ?v1_14_42) ?i1_14_42 (by kernel_rfl) (by kernel_rfl) (by kernel_rfl) (fun _ _ _ h => h) (Or.inl ⟨?g1_14_42, ?y1_14_42⟩) hS ?_
        case i1_14_42 => simp only [List.getElem?_toArray, List.getElem?_cons_succ, List.getElem?_cons_zero]; rfl
        case g1_14_42 => rfl
        case y1_14_42 => (intro w hSw; (go_simp <;> with_reducible rfl))
        (try simp only [Act.put, List.setIfInBounds_toArray, List.set_cons_zero, List.set_cons_succ])
        refine wpAnyH_take (i := 15) (oi := ?o1_15_43) (v := ?v1_15_43) ?i1_15_43 (by kernel_rfl) (by kernel_rfl) (by kernel_rfl) (fun _ _ _ h => h) (Or.inl ⟨?g1_15_43, ?y1_15_43⟩) hS ?_
        case i1_15_43 => simp only [List.getElem?_toArray, List.getElem?_cons_succ, List.getElem?_cons_zero]; rfl
        case g1_15_43 => rfl
        case y1_15_43 => (intro w hSw; (go_simp <;> with_reducible rfl))
        (try simp only [Act.put, List.setIfInBounds_toArray, List.set_cons_zero, List.set_cons_succ])
        refine wpAnyH_ready (rs := [16]) (by kernel_rfl) (by simp) ?_
        refine (AllReadyH.cons (o := ?or1_44_16) ?ir1_44_16 (fun K hK => ?str1_44_16) AllReadyH.nil)
        case ir1_44_16 => simp only [List.getElem?_toArray, List.getElem?_cons_succ, List.getElem?_cons_zero]; rfl
        rw [if_pos (by rfl)]
        have x1 := (HBX.out _ _ _ HW.out HAP.out).1
        have x2 := (HBX.out _ _ _ HW.out HAP.out).2
        go_simp
        refine hK.out _ _ ?sr1_44_16 (fun hS => ?_)
        case sr1_44_16 => (exact ⟨hS.1.far NE.out.2.2.1 _, hS.2.far NE.out.2.2.2 _⟩)
        clear hK K
        (try simp only [Act.put, List.setIfInBounds_toArray, List.set_cons_zero, List.set_cons_succ])
        refine wpAnyH_done (by kernel_rfl) ?_ _
        refine NoPanic.normal ?_
    case' str1_31_9 =>
      rw [if_pos (by rfl)]
      go_simp
      refine (HF2.out _ HW.out).out.mono ?_
      rintro r w9 ⟨rfl, hb9⟩
      go_wp2_with fail
      refine hK.out _ _ ?sr1_31_9 (fun hS => ?_)
      case sr1_31_9 => (exact ⟨hS.1.below hb9 hS.1.lt, hS.2.below hb9 hS.2.lt⟩)
      clear hK K
      (try simp only [Act.put, List.setIfInBounds_toArray, List.set_cons_zero, List.set_cons_succ])
      have HB := Lib.hid (HB.out.later hb9 rfl)
      have HW := Lib.hid (HW.out.trans (hb9.mono HW.out.size))
      clear hb9
      refine wpAnyH_take (i := 10) (oi := ?o1_10_45) (v := ?v1_10_45) ?i1_10_45 (by kernel_rfl) (by kernel_rfl) (by kernel_rfl) (fun _ _ _ h => h) (Or.inl ⟨?g1_10_45, ?y1_10_45⟩) hS ?_
      case i1_10_45 => simp only [List.getElem?_toArray, List.getElem?_cons_succ, List.getElem?_cons_zero]; rfl
      case g1_10_45 => rfl
      case y1_10_45 => (intro w hSw; have hc := HS0.out; (go_simp <;> with_reducible rfl))
      (try simp only [Act.put, List.setIfInBounds_toArray, List.set_cons_zero, List.set_cons_succ])
      refine wpAnyH_ready (rs := [4, 12]) (by kernel_rfl) (by simp) ?_
      refine (AllReadyH.cons (o := ?or1_46_4) ?ir1_46_4 (fun K hK => ?str1_46_4) (AllReadyH.cons (o := ?or1_46_12) ?ir1_46_12 (fun K hK => ?str1_46_12) AllReadyH.nil))
      case ir1_46_4 => simp only [List.getElem?_toArray, List.getElem?_cons_succ, List.getElem?_cons_zero]; rfl
      case ir1_46_12 => simp only [List.getElem?_toArray, List.getElem?_cons_succ, List.getElem?_cons_zero]; rfl
      case' str1_46_4 =>
        rw [if_pos (by rfl)]
        have c8 := (HB.out.cell 8).trans rfl
        go_simp
        refine hK.out _ _ ?sr1_46_4 (fun hS => ?_)
        case sr1_46_4 => (exact hS)
        clear hK K
        (try simp only [Act.put, List.setIfInBounds_toArray, List.set_cons_zero, List.set_cons_succ])
        clear c8
        refine wpAnyH_ready (rs := [12]) (by kernel_rfl) (by simp) ?_
        refine (AllReadyH.cons (o := ?or1_47_12) ?ir1_47_12 (fun K hK => ?str1_47_12) AllReadyH.nil)
        case ir1_47_12 => simp only [List.getElem?_toArray, List.getElem?_cons_succ, List.getElem?_cons_zero]; rfl
        rw [if_pos (by rfl)]
        go_simp
        refine hK.out _ _ ?sr1_47_12 (fun hS => ?_)
        case sr1_47_12 => (exact ⟨hS.1.alloc _, hS.2.alloc _⟩)
        clear hK K
        (try simp only [Act.put, List.setIfInBounds_toArray, List.set_cons_zero, List.set_cons_succ])
        have HL := Lib.hid (Blk.new w9 27 #[y0, y1, y2, y3, y4, y5, y6, y7, .slice none 0 0])
        have HB := Lib.hid (HB.out.alloc (.cells #[y0, y1, y2, y3, y4, y5, y6, y7, .slice none 0 0] 27))
        have HW := Lib.hid (HW.out.alloc HW.out.size (.cells #[y0, y1, y2, y3, y4, y5, y6, y7, .slice none 0 0] 27))
        refine wpAnyH_ready (rs := [13]) (by kernel_rfl) (by simp) ?_
        refine (AllReadyH.cons (o := ?or1_48_13) ?ir1_48_13 (fun K hK => ?str1_48_13) AllReadyH.nil)
        case ir1_48_13 => simp only [List.getElem?_toArray, List.getElem?_cons_succ, List.getElem?_cons_zero]; rfl
        rw [if_pos (by rfl)]
        go_simp
        refine (HF3.out _ _ HW.out HL.out).out.mono ?_
        rintro r w13 ⟨v', rfl, hap⟩
        obtain ⟨g13, c13, rfl⟩ := hap.2.2.2
        go_wp2_with fail
        refine hK.out _ _ ?sr1_48_13 (fun hS => ?_)
        case sr1_48_13 => (exact ⟨hS.1.grown hap.2.1 NE.out.1, hS.2.grown hap.2.1 NE.out.2.1⟩)
        clear hK K
        (try simp only [Act.put, List.setIfInBounds_toArray, List.set_cons_zero, List.set_cons_succ])
        have HAP := Lib.hid hap
        clear hap
        refine wpAnyH_take (i := 14) (oi := ?o1_14_49) (v := ?v1_14_49) ?i1_14_49 (by kernel_rfl) (by kernel_rfl) (by kernel_rfl) (fun _ _ _ h => h) (Or.inl ⟨?g1_14_49, ?y1_14_49⟩) hS ?_
        case i1_14_49 => simp only [List.getElem?_toArray, List.getElem?_cons_succ, List.getElem?_cons_zero]; rfl
        case g1_14_49 => rfl
        case y1_14_49 => (intro w hSw; (go_simp <;> with_reducible rfl))
        (try simp only [Act.put, List.setIfInBounds_toArray, List.set_cons_zero, List.set_cons_succ])
        refine wpAnyH_take (i := 15) (oi := ?o1_15_50) (v := ?v1_15_50) ?i1_15_50 (by kernel_rfl) (by kernel_rfl) (by kernel_rfl) (fun _ _ _ h => h) (Or.inl ⟨?g1_15_50, ?y1_15_50⟩) hS ?_
        case i1_15_50 => simp only [List.getElem?_toArray, List.getElem?_cons_succ, List.getElem?_cons_zero]; rfl
        case g1_15_50 => rfl
        case y1_15_50 => (intro w hSw; (go_simp <;> with_reducible rfl))
        (try simp only [Act.put, List.setIfInBounds_toArray, List.set_cons_zero, List.set_cons_succ])
        refine wpAnyH_ready (rs := [16]) (by kernel_rfl) (by simp) ?_
        refine (AllReadyH.cons (o := ?or1_51_16) ?ir1_51_16 (fun K hK => ?str1_51_16) AllReadyH.nil)
        case ir1_51_16 => simp only [List.getElem?_toArray, List.getElem?_cons_succ, List.getElem?_cons_zero]; rfl
        rw [if_pos (by rfl)]
        have x1 := (HBX.out _ _ _ HW.out HAP.out).1
        have x2 := (HBX.out _ _ _ HW.out HAP.out).2
        go_simp
        refine hK.out _ _ ?sr1_51_16 (fun hS => ?_)
        case sr1_51_16 => (exact ⟨hS.1.far NE.out.2.2.1 _, hS.2.far NE.out.2.2.2 _⟩)
        clear hK K
        (try simp only [Act.put, List.setIfInBounds_toArray, List.set_cons_zero, List.set_cons_succ])
        refine wpAnyH_done (by kernel_rfl) ?_ _
        refine NoPanic.normal ?_
      case' str1_46_12 =>
        rw [if_pos (by rfl)]
        go_simp
        refine hK.out _ _ ?sr1_46_12 (fun hS => ?_)
        case sr1_46_12 => (exact ⟨hS.1.alloc _, hS.2.alloc _⟩)
        clear hK K
        (try simp only [Act.put, List.setIfInBounds_toArray, List.set_cons_zero, List.set_cons_succ])
        have HL := Lib.hid (Blk.new w9 27 #[y0, y1, y2, y3, y4, y5, y6, y7, .slice none 0 0])
        have HB := Lib.hid (HB.out.alloc (.cells #[y0, y1, y2, y3, y4, y5, y6, y7, .slice none 0 0] 27))
        have HW := Lib.hid (HW.out.alloc HW.out.size (.cells #[y0, y1, y2, y3, y4, y5, y6, y7, .slice none 0 0] 27))
        refine wpAnyH_ready (rs := [4]) (by kernel_rfl) (by simp) ?_
        refine (AllReadyH.cons (o := ?or1_52_4) ?ir1_52_4 (fun K hK => ?str1_52_4) AllReadyH.nil)
        case ir1_52_4 => simp only [List.getElem?_toArray, List.getElem?_cons_succ, List.getElem?_cons_zero]; rfl
        rw [if_pos (by rfl)]
        have c8 := (HB.out.cell 8).trans rfl
        go_simp
        refine hK.out _ _ ?sr1_52_4 (fun hS => ?_)
        case sr1_52_4 => (exact hS)
        clear hK K
        (try simp only [Act.put, List.setIfInBounds_toArray, List.set_cons_zero, List.set_cons_succ])
        clear c8
        refine wpAnyH_ready (rs := [13]) (by kernel_rfl) (by simp) ?_
        refine (AllReadyH.cons (o := ?or1_53_13) ?ir1_53_13 (fun K hK => ?str1_53_13) AllReadyH.nil)
        case ir1_53_13 => simp only [List.getElem?_toArray, List.getElem?_cons_succ, List.getElem?_cons_zero]; rfl
        rw [if_pos (by rfl)]
        go_simp
        refine (HF3.out _ _ HW.out HL.out).out.mono ?_
        rintro r w13 ⟨v', rfl, hap⟩
        obtain ⟨g13, c13, rfl⟩ := hap.2.2.2
        go_wp2_with fail
        refine hK.out _ _ ?sr1_53_13 (fun hS => ?_)
        case sr1_53_13 => (exact ⟨hS.1.grown hap.2.1 NE.out.1, hS.2.grown hap.2.1 NE.out.2.1⟩)
        clear hK K
        (try simp only [Act.put, List.setIfInBounds_toArray, List.set_cons_zero, List.set_cons_succ])
        have HAP := Lib.hid hap
        clear hap
        refine wpAnyH_take (i := 14) (oi := ?o1_14_54) (v := ?v1_14_54) ?i1_14_54 (by kernel_rfl) (by kernel_rfl) (by kernel_rfl) (fun _ _ _ h => h) (Or.inl ⟨?g1_14_54, ?y1_14_54⟩) hS ?_
        case i1_14_54 => simp only [List.getElem?_toArray, List.getElem?_cons_succ, List.getElem?_cons_zero]; rfl
        case g1_14_54 => rfl
        case y1_14_54 => (intro w hSw; (go_simp <;> with_reducible rfl))
        (try simp only [Act.put, List.setIfInBounds_toArray, List.set_cons_zero, List.set_cons_succ])
        refine wpAnyH_take (i := 15) (oi := ?o1_15_55) (v := ?v1_15_55) ?i1_15_55 (by kernel_rfl) (by kernel_rfl) (by kernel_rfl) (fun _ _ _ h => h) (Or.inl ⟨?g1_15_55, ?y1_15_55⟩) hS ?_
        case i1_15_55 => simp only [List.getElem?_toArray, List.getElem?_cons_succ, List.getElem?_cons_zero]; rfl
        case g1_15_55 => rfl
        case y1_15_55 => (intro w hSw; (go_simp <;> with_reducible rfl))
        (try simp only [Act.put, List.setIfInBounds_toArray, List.set_cons_zero, List.set_cons_succ])
        refine wpAnyH_ready (rs := [16]) (by kernel_rfl) (by simp) ?_
        refine (AllReadyH.cons (o := ?or1_56_16) ?ir1_56_16 (fun K hK => ?str1_56_16) AllReadyH.nil)
        case ir1_56_16 => simp only [List.getElem?_toArray, List.getElem?_cons_succ, List.getElem?_cons_zero]; rfl
        rw [if_pos (by rfl)]
        have x1 := (HBX.out _ _ _ HW.out HAP.out).1
        have x2 := (HBX.out _ _ _ HW.out HAP.out).2
        go_simp
        refine hK.out _ _ ?sr1_56_16 (fun hS => ?_)
        case sr1_56_16 => (exact ⟨hS.1.far NE.out.2.2.1 _, hS.2.far NE.out.2.2.2 _⟩)
        clear hK K
        (try simp only [Act.put, List.setIfInBounds_toArray, List.set_cons_zero, List.set_cons_succ])
        refine wpAnyH_done (by kernel_rfl) ?_ _
        refine NoPanic.normal ?_
    case' str1_31_12 =>
      rw [if_pos (by rfl)]
      go_simp
      refine hK.out _ _ ?sr1_31_12 (fun hS => ?_)
      case sr1_31_12 => (exact ⟨hS.1.alloc _, hS.2.alloc _⟩)
      clear hK K
      (try simp only [Act.put, List.setIfInBounds_toArray, List.set_cons_zero, List.set_cons_succ])
      have HL := Lib.hid (Blk.new w 27 #[y0, y1, y2, y3, y4, y5, y6, y7, .slice none 0 0])
      have HB := Lib.hid (Blk.alloc (w := w) HB.out (.cells #[y0, y1, y2, y3, y4, y5, y6, y7, .slice none 0 0] 27))
      have HW : Hid (Below w.heap.size w (w.alloc (.cells #[y0, y1, y2, y3, y4, y5, y6, y7, .slice none 0 0] 27)).drew) := Lib.hid (((Below.refl _ _).alloc (Nat.le_refl _) _).drew)
      refine wpAnyH_ready (rs := [4, 9]) (by kernel_rfl) (by simp) ?_
      refine (AllReadyH.cons (o := ?or1_57_4) ?ir1_57_4 (fun K hK => ?str1_57_4) (AllReadyH.cons (o := ?or1_57_9) ?ir1_57_9 (fun K hK => ?str1_57_9) AllReadyH.nil))
      case ir1_57_4 => simp only [List.getElem?_toArray, List.getElem?_cons_succ, List.getElem?_cons_zero]; rfl
      case ir1_57_9 => simp only [List.getElem?_toArray, List.getElem?_cons_succ, List.getElem?_cons_zero]; rfl
      case' str1_57_4 =>
        rw [if_pos (by rfl)]
        have c8 := (HB.out.cell 8).trans rfl
        go_simp
        refine hK.out _ _ ?sr1_57_4 (fun hS => ?_)
        case sr1_57_4 => (exact hS)
        clear hK K
        (try simp only [Act.put, List.setIfInBounds_toArray, List.set_cons_zero, List.set_cons_succ])
        clear c8
        refine wpAnyH_ready (rs := [9]) (by kernel_rfl) (by simp) ?_
        refine (AllReadyH.cons (o := ?or1_58_9) ?ir1_58_9 (fun K hK => ?str1_58_9) AllReadyH.nil)
        case ir1_58_9 => simp only [List.getElem?_toArray, List.getElem?_cons_succ, List.getElem?_cons_zero]; rfl
        rw [if_pos (by rfl)]
        go_simp
        refine (HF2.out _ HW.out).out.mono ?_
        rintro r w9 ⟨rfl, hb9⟩
        go_wp2_with fail
        refine hK.out _ _ ?sr1_58_9 (fun hS => ?_)
        case sr1_58_9 => (exact ⟨hS.1.below hb9 hS.1.lt, hS.2.below hb9 hS.2.lt⟩)
        clear hK K
        (try simp only [Act.put, List.setIfInBounds_toArray, List.set_cons_zero, List.set_cons_succ])
        have HB := Lib.hid (HB.out.later hb9 rfl)
        have HL := Lib.hid (HL.out.later hb9 rfl)
        have HW := Lib.hid (HW.out.trans (hb9.mono HW.out.size))
        clear hb9
        refine wpAnyH_take (i := 10) (oi := ?o1_10_59) (v := ?v1_10_59) ?i1_10_59 (by kernel_rfl) (by kernel_rfl) (by kernel_rfl) (fun _ _ _ h => h) (Or.inl ⟨?g1_10_59, ?y1_10_59⟩) hS ?_
        case i1_10_59 => simp only [List.getElem?_toArray, List.getElem?_cons_succ, List.getElem?_cons_zero]; rfl
        case g1_10_59 => rfl
        case y1_10_59 => (intro w hSw; have hc := HS0.out; (go_simp <;> with_reducible rfl))
        (try simp only [Act.put, List.setIfInBounds_toArray, List.set_cons_zero, List.set_cons_succ])
        refine wpAnyH_ready (rs := [13]) (by kernel_rfl) (by simp) ?_
        refine (AllReadyH.cons (o := ?or1_60_13) ?ir1_60_13 (fun K hK => ?str1_60_13) AllReadyH.nil)
        case ir1_60_13 => simp only [List.getElem?_toArray, List.getElem?_cons_succ, List.getElem?_cons_zero]; rfl
        rw [if_pos (by rfl)]
        go_simp
        refine (HF3.out _ _ HW.out HL.out).out.mono ?_
        rintro r w13 ⟨v', rfl, hap⟩
        obtain ⟨g13, c13, rfl⟩ := hap.2.2.2
        go_wp2_with fail
        refine hK.out _ _ ?sr1_60_13 (fun hS => ?_)
        case sr1_60_13 => (exact ⟨hS.1.grown hap.2.1 NE.out.1, hS.2.grown hap.2.1 NE.out.2.1⟩)
        clear hK K
        (try simp only [Act.put, List.setIfInBounds_toArray, List.set_cons_zero, List.set_cons_succ])
        have HAP := Lib.hid hap
        clear hap
        refine wpAnyH_take (i := 14) (oi := ?o1_14_61) (v := ?v1_14_61) ?i1_14_61 (by kernel_rfl) (by kernel_rfl) (by kernel_rfl) (fun _ _ _ h => h) (Or.inl ⟨?g1_14_61, ?y1_14_61⟩) hS ?_
        case i1_14_61 => simp only [List.getElem?_toArray, List.getElem?_cons_succ, List.getElem?_cons_zero]; rfl
        case g1_14_61 => rfl
        case y1_14_61 => (intro w hSw; (go_simp <;> with_reducible rfl))
        (try simp only [Act.put, List.setIfInBounds_toArray, List.set_cons_zero, List.set_cons_succ])
        refine wpAnyH_take (i := 15) (oi := ?o1_15_62) (v := ?v1_15_62) ?i1_15_62 (by kernel_rfl) (by kernel_rfl) (by kernel_rfl) (fun _ _ _ h => h) (Or.inl ⟨?g1_15_62, ?y1_15_62⟩) hS ?_
        case i1_15_62 => simp only [List.getElem?_toArray, List.getElem?_cons_succ, List.getElem?_cons_zero]; rfl
        case g1_15_62 => rfl
        case y1_15_62 => (intro w hSw; (go_simp <;> with_reducible rfl))
        (try simp only [Act.put, List.setIfInBounds_toArray, List.set_cons_zero, List.set_cons_succ])
        refine wpAnyH_ready (rs := [16]) (by kernel_rfl) (by simp) ?_
        refine (AllReadyH.cons (o := ?or1_63_16) ?ir1_63_16 (fun K hK => ?str1_63_16) AllReadyH.nil)
        case ir1_63_16 => simp only [List.getElem?_toArray, List.getElem?_cons_succ, List.getElem?_cons_zero]; rfl
        rw [if_pos (by rfl)]
        have x1 := (HBX.out _ _ _ HW.out HAP.out).1
        have x2 := (HBX.out _ _ _ HW.out HAP.out).2
        go_simp
        refine hK.out _ _ ?sr1_63_16 (fun hS => ?_)
        case sr1_63_16 => (exact ⟨hS.1.far NE.out.2.2.1 _, hS.2.far NE.out.2.2.2 _⟩)
        clear hK K
        (try simp only [Act.put, List.setIfInBounds_toArray, List.set_cons_zero, List.set_cons_succ])
        refine wpAnyH_done (by kernel_rfl) ?_ _
        refine NoPanic.normal ?_
      case' str1_57_9 =>
        rw [if_pos (by rfl)]
        go_simp
        refine (HF2.out _ HW.out).out.mono ?_
        rintro r w9 ⟨rfl, hb9⟩
        go_wp2_with fail
        refine hK.out _ _ ?sr1_57_9 (fun hS => ?_)
        case sr1_57_9 => (exact ⟨hS.1.below hb9 hS.1.lt, hS.2.below hb9 hS.2.lt⟩)
        clear hK K
        (try simp only [Act.put, List.setIfInBounds_toArray, List.set_cons_zero, List.set_cons_succ])
        have HB := Lib.hid (HB.out.later hb9 rfl)
        have HL := Lib.hid (HL.out.later hb9 rfl)
        have HW := Lib.hid (HW.out.trans (hb9.mono HW.out.size))
        clear hb9
        refine wpAnyH_take (i := 10) (oi := ?o1_10_64) (v := ?v1_10_64) ?i1_10_64 (by kernel_rfl) (by kernel_rfl) (by kernel_rfl) (fun _ _ _ h => h) (Or.inl ⟨?g1_10_64, ?y1_10_64⟩) hS ?_
        case i1_10_64 => simp only [List.getElem?_toArray, List.getElem?_cons_succ, List.getElem?_cons_zero]; rfl
        case g1_10_64 => rfl
        case y1_10_64 => (intro w hSw; have hc := HS0.out; (go_simp <;> with_reducible rfl))
        (try simp only [Act.put, List.setIfInBounds_toArray, List.set_cons_zero, List.set_cons_succ])
        refine wpAnyH_ready (rs := [4]) (by kernel_rfl) (by simp) ?_
        refine (AllReadyH.cons (o := ?or1_65_4) ?ir1_65_4 (fun K hK => ?str1_65_4) AllReadyH.nil)
        case ir1_65_4 => simp only [List.getElem?_toArray, List.getElem?_cons_succ, List.getElem?_cons_zero]; rfl
        rw [if_pos (by rfl)]
        have c8 := (HB.out.cell 8).trans rfl
        go_simp
        refine hK.out _ _ ?sr1_65_4 (fun hS => ?_)
        case sr1_65_4 => (exact hS)
        clear hK K
        (try simp only [Act.put, List.setIfInBounds_toArray, List.set_cons_zero, List.set_cons_succ])
        clear c8
        refine wpAnyH_ready (rs := [13]) (by kernel_rfl) (by simp) ?_
        refine (AllReadyH.cons (o := ?or1_66_13) ?ir1_66_13 (fun K hK => ?str1_66_13) AllReadyH.nil)
        case ir1_66_13 => simp only [List.getElem?_toArray, List.getElem?_cons_succ, List.getElem?_cons_zero]; rfl
        rw [if_pos (by rfl)]
        go_simp
        refine (HF3.out _ _ HW.out HL.out).out.mono ?_
        rintro r w13 ⟨v', rfl, hap⟩
        obtain ⟨g13, c13, rfl⟩ := hap.2.2.2
        go_wp2_with fail
        refine hK.out _ _ ?sr1_66_13 (fun hS => ?_)
        case sr1_66_13 => (exact ⟨hS.1.grown hap.2.1 NE.out.1, hS.2.grown hap.2.1 NE.out.2.1⟩)
        clear hK K
        (try simp only [Act.put, List.setIfInBounds_toArray, List.set_cons_zero, List.set_cons_succ])
        have HAP := Lib.hid hap
        clear hap
        refine wpAnyH_take (i := 14) (oi := ?o1_14_67) (v := ?v1_14_67) ?i1_14_67 (by kernel_rfl) (by kernel_rfl) (by kernel_rfl) (fun _ _ _ h => h) (Or.inl ⟨?g1_14_67, ?y1_14_67⟩) hS ?_
        case i1_14_67 => simp only [List.getElem?_toArray, List.getElem?_cons_succ, List.getElem?_cons_zero]; rfl
        case g1_14_67 => rfl
        case y1_14_67 => (intro w hSw; (go_simp <;> with_reducible rfl))
        (try simp only [Act.put, List.setIfInBounds_toArray, List.set_cons_zero, List.set_cons_succ])
        refine wpAnyH_take (i := 15) (oi := ?o1_15_68) (v := ?v1_15_68) ?i1_15_68 (by kernel_rfl) (by kernel_rfl) (by kernel_rfl) (fun _ _ _ h => h) (Or.inl ⟨?g1_15_68, ?y1_15_68⟩) hS ?_
        case i1_15_68 => simp only [List.getElem?_toArray, List.getElem?_cons_succ, List.getElem?_cons_zero]; rfl
        case g1_15_68 => rfl
        case y1_15_68 => (intro w hSw; (go_simp <;> with_reducible rfl))
        (try simp only [Act.put, List.setIfInBounds_toArray, List.set_cons_zero, List.set_cons_succ])
        refine wpAnyH_ready (rs := [16]) (by kernel_rfl) (by simp) ?_
        refine (AllReadyH.cons (o := ?or1_69_16) ?ir1_69_16 (fun K hK => ?str1_69_16) AllReadyH.nil)
        case ir1_69_16 => simp only [List.getElem?_toArray, List.getElem?_cons_succ, List.getElem?_cons_zero]; rfl
        rw [if_pos (by rfl)]
        have x1 := (HBX.out _ _ _ HW.out HAP.out).1
        have x2 := (HBX.out _ _ _ HW.out HAP.out).2
        go_simp
        refine hK.out _ _ ?sr1_69_16 (fun hS => ?_)
        case sr1_69_16 => (exact ⟨hS.1.far NE.out.2.2.1 _, hS.2.far NE.out.2.2.2 _⟩)
        clear hK K
        (try simp only [Act.put, List.setIfInBounds_toArray, List.set_cons_zero, List.set_cons_succ])
        refine wpAnyH_done (by kernel_rfl) ?_ _
        refine NoPanic.normal ?_
  case' str1_9_12 =>
    rw [if_pos (by rfl)]
    go_simp
    refine hK.out _ _ ?sr1_9_12 (fun hS => ?_)
    case sr1_9_12 => (exact ⟨hS.1.alloc _, hS.2.alloc _⟩)
    clear hK K
    (try simp only [Act.put, List.setIfInBounds_toArray, List.set_cons_zero, List.set_cons_succ])
    have HL := Lib.hid (Blk.new w 27 #[y0, y1, y2, y3, y4, y5, y6, y7, .slice none 0 0])
    have HB := Lib.hid (Blk.alloc (w := w) HB.out (.cells #[y0, y1, y2, y3, y4, y5, y6, y7, .slice none 0 0] 27))
    have HW : Hid (Below w.heap.size w (w.alloc (.cells #[y0, y1, y2, y3, y4, y5, y6, y7, .slice none 0 0] 27)).drew) := Lib.hid (((Below.refl _ _).alloc (Nat.le_refl _) _).drew)
    refine wpAnyH_ready (rs := [4, 7]) (by kernel_rfl) (by simp) ?_
    refine (AllReadyH.cons (o := ?or1_70_4) ?ir1_70_4 (fun K hK => ?str1_70_4) (AllReadyH.cons (o := ?or1_70_7) ?ir1_70_7 (fun K hK => ?str1_70_7) AllReadyH.nil))
    case ir1_70_4 => simp only [List.getElem?_toArray, List.getElem?_cons_succ, List.getElem?_cons_zero]; rfl
    case ir1_70_7 => simp only [List.getElem?_toArray, List.getElem?_cons_succ, List.getElem?_cons_zero]; rfl
    case' str1_70_4 =>
      rw [if_pos (by rfl)]
      have c8 := (HB.out.cell 8).trans rfl
      go_simp
      refine hK.out _ _ ?sr1_70_4 (fun hS => ?_)
      case sr1_70_4 => (exact hS)
      clear hK K
      (try simp only [Act.put, List.setIfInBounds_toArray, List.set_cons_zero, List.set_cons_succ])
      clear c8
      refine wpAnyH_ready (rs := [7]) (by kernel_rfl) (by simp) ?_
      refine (AllReadyH.cons (o := ?or1_71_7) ?ir1_71_7 (fun K hK => ?str1_71_7) AllReadyH.nil)
      case ir1_71_7 => simp only [List.getElem?_toArray, List.getElem?_cons_succ, List.getElem?_cons_zero]; rfl
      rw [if_pos (by rfl)]
      have c0 := (HB.out.cell 0).trans rfl
      have c1 := (HB.out.cell 1).trans rfl
      have c2 := (HB.out.cell 2).trans rfl
      have c3 := (HB.out.cell 3).trans rfl
      have c4 := (HB.out.cell 4).trans rfl
      have c5 := (HB.out.cell 5).trans rfl
      have c6 := (HB.out.cell 6).trans rfl
      have c7 := (HB.out.cell 7).trans rfl
      have c8 := (HB.out.cell 8).trans rfl
      go_simp
      refine hK.out _ _ ?sr1_71_7 (fun hS => ?_)
      case sr1_71_7 => (exact hS)
      clear hK K
      (try simp only [Act.put, List.setIfInBounds_toArray, List.set_cons_zero, List.set_cons_succ])
      clear c0 c1 c2 c3 c4 c5 c6 c7 c8
      refine wpAnyH_ready (rs := [9]) (by kernel_rfl) (by simp) ?_
      refine (AllReadyH.cons (o := ?or1_72_9) ?ir1_72_9 (fun K hK => ?str1_72_9) AllReadyH.nil)
      case ir1_72_9 => simp only [List.getElem?_toArray, List.getElem?_cons_succ, List.getElem?_cons_zero]; rfl
      rw [if_pos (by rfl)]
      go_simp
      refine (HF2.out _ HW.out).out.mono ?_
      rintro r w9 ⟨rfl, hb9⟩
      go_wp2_with fail
      refine hK.out _ _ ?sr1_72_9 (fun hS => ?_)
      case sr1_72_9 => (exact ⟨hS.1.below hb9 hS.1.lt, hS.2.below hb9 hS.2.lt⟩)
      clear hK K
      (try simp only [Act.put, List.setIfInBounds_toArray, List.set_cons_zero, List.set_cons_succ])
      have HB := Lib.hid (HB.out.later hb9 rfl)
      have HL := Lib.hid (HL.out.later hb9 rfl)
      have HW := Lib.hid (HW.out.trans (hb9.mono HW.out.size))
      clear hb9
      refine wpAnyH_take (i := 10) (oi := ?o1_10_73) (v := ?v1_10_73) ?i1_10_73 (by kernel_rfl) (by kernel_rfl) (by kernel_rfl) (fun _ _ _ h => h) (Or.inl ⟨?g1_10_73, ?y1_10_73⟩) hS ?_
      case i1_10_73 => simp only [List.getElem?_toArray, List.getElem?_cons_succ, List.getElem?_cons_zero]; rfl
      case g1_10_73 => rfl
      case y1_10_73 => (intro w hSw; have hc := HS0.out; (go_simp <;> with_reducible rfl))
      (try simp only [Act.put, List.setIfInBounds_toArray, List.set_cons_zero, List.set_cons_succ])
      refine wpAnyH_ready (rs := [13]) (by kernel_rfl) (by simp) ?_
      refine (AllReadyH.cons (o := ?or1_74_13) ?ir1_74_13 (fun K hK => ?str1_74_13) AllReadyH.nil)
      case ir1_74_13 => simp only [List.getElem?_toArray, List.getElem?_cons_succ, List.getElem?_cons_zero]; rfl
      rw [if_pos (by rfl)]
      go_simp
      refine (HF3.out _ _ HW.out HL.out).out.mono ?_
      rintro r w13 ⟨v', rfl, hap⟩
      obtain ⟨g13, c13, rfl⟩ := hap.2.2.2
      go_wp2_with fail
      refine hK.out _ _ ?sr1_74_13 (fun hS => ?_)
      case sr1_74_13 => (exact ⟨hS.1.grown hap.2.1 NE.out.1, hS.2.grown hap.2.1 NE.out.2.1⟩)
      clear hK K
      (try simp only [Act.put, List.setIfInBounds_toArray, List.set_cons_zero, List.set_cons_succ])
      have HAP := Lib.hid hap
      clear hap
      refine wpAnyH_take (i := 14) (oi := ?o1_14_75) (v := ?v1_14_75) ?i1_14_75 (by kernel_rfl) (by kernel_rfl) (by kernel_rfl) (fun _ _ _ h => h) (Or.inl ⟨?g1_14_75, ?y1_14_75⟩) hS ?_
      case i1_14_75 => simp only [List.getElem?_toArray, List.getElem?_cons_succ, List.getElem?_cons_zero]; rfl
      case g1_14_75 => rfl
      case y1_14_75 => (intro w hSw; (go_simp <;> with_reducible rfl))
      (try simp only [Act.put, List.setIfInBounds_toArray, List.set_cons_zero, List.set_cons_succ])
      refine wpAnyH_take (i := 15) (oi := ?o1_15_76) (v := ?v1_15_76) ?i1_15_76 (by kernel_rfl) (by kernel_rfl) (by kernel_rfl) (fun _ _ _ h => h) (Or.inl ⟨?g1_15_76, ?y1_15_76⟩) hS ?_
      case i1_15_76 => simp only [List.getElem?_toArray, List.getElem?_cons_succ, List.getElem?_cons_zero]; rfl
      case g1_15_76 => rfl
      case y1_15_76 => (intro w hSw; (go_simp <;> with_reducible rfl))
      (try simp only [Act.put, List.setIfInBounds_toArray, List.set_cons_zero, List.set_cons_succ])
      refine wpAnyH_ready (rs := [16]) (by kernel_rfl) (by simp) ?_
      refine (AllReadyH.cons (o := ?or1_77_16) ?ir1_77_16 (fun K hK => ?str1_77_16) AllReadyH.nil)
      case ir1_77_16 => simp only [List.getElem?_toArray, List.getElem?_cons_succ, List.getElem?_cons_zero]; rfl
      rw [if_pos (by rfl)]
      have x1 := (HBX.out _ _ _ HW.out HAP.out).1
      have x2 := (HBX.out _ _ _ HW.out HAP.out).2
      go_simp
      refine hK.out _ _ ?sr1_77_16 (fun hS => ?_)
      case sr1_77_16 => (exact ⟨hS.1.far NE.out.2.2.1 _, hS.2.far NE.out.2.2.2 _⟩)
      clear hK K
      (try simp only [Act.put, List.setIfInBounds_toArray, List.set_cons_zero, List.set_cons_succ])
      refine wpAnyH_done (by kernel_rfl) ?_ _
      refine NoPanic.normal ?_
    case' str1_70_7 =>
      rw [if_pos (by rfl)]
      have c0 := (HB.out.cell 0).trans rfl
      have c1 := (HB.out.cell 1).trans rfl
      have c2 := (HB.out.cell 2).trans rfl
      have c3 := (HB.out.cell 3).trans rfl
      have c4 := (HB.out.cell 4).trans rfl
      have c5 := (HB.out.cell 5).trans rfl
      have c6 := (HB.out.cell 6).trans rfl
      have c7 := (HB.out.cell 7).trans rfl
      have c8 := (HB.out.cell 8).trans rfl
      go_simp
      refine hK.out _ _ ?sr1_70_7 (fun hS => ?_)
      case sr1_70_7 => (exact hS)
      clear hK K
      (try simp only [Act.put, List.setIfInBounds_toArray, List.set_cons_zero, List.set_cons_succ])
      clear c0 c1 c2 c3 c4 c5 c6 c7 c8
      refine wpAnyH_ready (rs := [4, 9]) (by kernel_rfl) (by simp) ?_
      refine (AllReadyH.cons (o := ?or1_78_4) ?ir1_78_4 (fun K hK => ?str1_78_4) (AllReadyH.cons (o := ?or1_78_9) ?ir1_78_9 (fun K hK => ?str1_78_9) AllReadyH.nil))
      case ir1_78_4 => simp only [List.getElem?_toArray, List.getElem?_cons_succ, List.getElem?_cons_zero]; rfl
      case ir1_78_9 => simp only [List.getElem?_toArray, List.getElem?_cons_succ, List.getElem?_cons_zero]; rfl
      case' str1_78_4 =>
        rw [if_pos (by rfl)]
        have c8 := (HB.out.cell 8).trans rfl
        go_simp
        refine hK.out _ _ ?sr1_78_4 (fun hS => ?_)
        case sr1_78_4 => (exact hS)
        clear hK K
        (try simp only [Act.put, List.setIfInBounds_toArray, List.set_cons_zero, List.set_cons_succ])
        clear c8
        refine wpAnyH_ready (rs := [9]) (by kernel_rfl) (by simp) ?_
        refine (AllReadyH.cons (o := ?or1_79_9) ?ir1_79_9 (fun K hK => ?str1_79_9) AllReadyH.nil)
        case ir1_79_9 => simp only [List.getElem?_toArray, List.getElem?_cons_succ, List.getElem?_cons_zero]; rfl
        rw [if_pos (by rfl)]
        go_simp
        refine (HF2.out _ HW.out).out.mono ?_
        rintro r w9 ⟨rfl, hb9⟩
        go_wp2_with fail
        refine hK.out _ _ ?sr1_79_9 (fun hS => ?_)
        case sr1_79_9 => (exact ⟨hS.1.below hb9 hS.1.lt, hS.2.below hb9 hS.2.lt⟩)
        clear hK K
        (try simp only [Act.put, List.setIfInBounds_toArray, List.set_cons_zero, List.set_cons_succ])
        have HB := Lib.hid (HB.out.later hb9 rfl)
        have HL := Lib.hid (HL.out.later hb9 rfl)
        have HW := Lib.hid (HW.out.trans (hb9.mono HW.out.size))
        clear hb9
        refine wpAnyH_take (i := 10) (oi := ?o1_10_80) (v := ?v1_10_80) ?i1_10_80 (by kernel_rfl) (by kernel_rfl) (by kernel_rfl) (fun _ _ _ h => h) (Or.inl ⟨?g1_10_80, ?y1_10_80⟩) hS ?_
        case i1_10_80 => simp only [List.getElem?_toArray, List.getElem?_cons_succ, List.getElem?_cons_zero]; rfl
        case g1_10_80 => rfl
        case y1_10_80 => (intro w hSw; have hc := HS0.out; (go_simp <;> with_reducible rfl))
        (try simp only [Act.put, List.setIfInBounds_toArray, List.set_cons_zero, List.set_cons_succ])
        refine wpAnyH_ready (rs := [13]) (by kernel_rfl) (by simp) ?_
        refine (AllReadyH.cons (o := ?or1_81_13) ?ir1_81_13 (fun K hK => ?str1_81_13) AllReadyH.nil)
        case ir1_81_13 => simp only [List.getElem?_toArray, List.getElem?_cons_succ, List.getElem?_cons_zero]; rfl
        rw [if_pos (by rfl)]
        go_simp
        refine (HF3.out _ _ HW.out HL.out).out.mono ?_
        rintro r w13 ⟨v', rfl, hap⟩
        obtain ⟨g13, c13, rfl⟩ := hap.2.2.2
        go_wp2_with fail
        refine hK.out _ _ ?sr1_81_13 (fun hS => ?_)
        case sr1_81_13 => (exact ⟨hS.1.grown hap.2.1 NE.out.1, hS.2.grown hap.2.1 NE.out.2.1⟩)
        clear hK K
        (try simp only [Act.put, List.setIfInBounds_toArray, List.set_cons_zero, List.set_cons_succ])
        have HAP := Lib.hid hap
        clear hap
        refine wpAnyH_take (i := 14) (oi := ?o1_14_82) (v := ?v1_14_82) ?i1_14_82 (by kernel_rfl) (by kernel_rfl) (by kernel_rfl) (fun _ _ _ h => h) (Or.inl ⟨?g1_14_82, ?y1_14_82⟩) hS ?_
        case i1_14_82 => simp only [List.getElem?_toArray, List.getElem?_cons_succ, List.getElem?_cons_zero]; rfl
        case g1_14_82 => rfl
        case y1_14_82 => (intro w hSw; (go_simp <;> with_reducible rfl))
        (try simp only [Act.put, List.setIfInBounds_toArray, List.set_cons_zero, List.set_cons_succ])
        refine wpAnyH_take (i := 15) (oi := ?o1_15_83) (v := ?v1_15_83) ?i1_15_83 (by kernel_rfl) (by kernel_rfl) (by kernel_rfl) (fun _ _ _ h => h) (Or.inl ⟨?g1_15_83, ?y1_15_83⟩) hS ?_
        case i1_15_83 => simp only [List.getElem?_toArray, List.getElem?_cons_succ, List.getElem?_cons_zero]; rfl
        case g1_15_83 => rfl
        case y1_15_83 => (intro w hSw; (go_simp <;> with_reducible rfl))
        (try simp only [Act.put, List.setIfInBounds_toArray, List.set_cons_zero, List.set_cons_succ])
        refine wpAnyH_ready (rs := [16]) (by kernel_rfl) (by simp) ?_
        refine (AllReadyH.cons (o := ?or1_84_16) ?ir1_84_16 (fun K hK => ?str1_84_16) AllReadyH.nil)
        case ir1_84_16 => simp only [List.getElem?_toArray, List.getElem?_cons_succ, List.getElem?_cons_zero]; rfl
        rw [if_pos (by rfl)]
        have x1 := (HBX.out _ _ _ HW.out HAP.out).1
        have x2 := (HBX.out _ _ _ HW.out HAP.out).2
        go_simp
        refine hK.out _ _ ?sr1_84_16 (fun hS => ?_)
        case sr1_84_16 => (exact ⟨hS.1.far NE.out.2.2.1 _, hS.2.far NE.out.2.2.2 _⟩)
        clear hK K
        (try simp only [Act.put, List.setIfInBounds_toArray, List.set_cons_zero, List.set_cons_succ])
        refine wpAnyH_done (by kernel_rfl) ?_ _
        refine NoPanic.normal ?_
      case' str1_78_9 =>
        rw [if_pos (by rfl)]
        go_simp
        refine (HF2.out _ HW.out).out.mono ?_
        rintro r w9 ⟨rfl, hb9⟩
        go_wp2_with fail
        refine hK.out _ _ ?sr1_78_9 (fun hS => ?_)
        case sr1_78_9 => (exact ⟨hS.1.below hb9 hS.1.lt, hS.2.below hb9 hS.2.lt⟩)
        clear hK K
        (try simp only [Act.put, List.setIfInBounds_toArray, List.set_cons_zero, List.set_cons_succ])
        have HB := Lib.hid (HB.out.later hb9 rfl)
        have HL := Lib.hid (HL.out.later hb9 rfl)
        have HW := Lib.hid (HW.out.trans (hb9.mono HW.out.size))
        clear hb9
        refine wpAnyH_take (i := 10) (oi := ?o1_10_85) (v := ?v1_10_85) ?i1_10_85 (by kernel_rfl) (by kernel_rfl) (by kernel_rfl) (fun _ _ _ h => h) (Or.inl ⟨?g1_10_85, ?y1_10_85⟩) hS ?_
        case i1_10_85 => simp only [List.getElem?_toArray, List.getElem?_cons_succ, List.getElem?_cons_zero]; rfl
        case g1_10_85 => rfl
        case y1_10_85 => (intro w hSw; have hc := HS0.out; (go_simp <;> with_reducible rfl))
        (try simp only [Act.put, List.setIfInBounds_toArray, List.set_cons_zero, List.set_cons_succ])
        refine wpAnyH_ready (rs := [4]) (by kernel_rfl) (by simp) ?_
        refine (AllReadyH.cons (o := ?or1_86_4) ?ir1_86_4 (fun K hK => ?str1_86_4) AllReadyH.nil)
        case ir1_86_4 => simp only [List.getElem?_toArray, List.getElem?_cons_succ, List.getElem?_cons_zero]; rfl
        rw [if_pos (by rfl)]
        have c8 := (HB.out.cell 8).trans rfl
        go_simp
        refine hK.out _ _ ?sr1_86_4 (fun hS => ?_)
        case sr1_86_4 => (exact hS)
        clear hK K
        (try simp only [Act.put, List.setIfInBounds_toArray, List.set_cons_zero, List.set_cons_succ])
        clear c8
        refine wpAnyH_ready (rs := [13]) (by kernel_rfl) (by simp) ?_
        refine (AllReadyH.cons (o := ?or1_87_13) ?ir1_87_13 (fun K hK => ?str1_87_13) AllReadyH.nil)
        case ir1_87_13 => simp only [List.getElem?_toArray, List.getElem?_cons_succ, List.getElem?_cons_zero]; rfl
        rw [if_pos (by rfl)]
        go_simp
        refine (HF3.out _ _ HW.out HL.out).out.mono ?_
        rintro r w13 ⟨v', rfl, hap⟩
        obtain ⟨g13, c13, rfl⟩ := hap.2.2.2
        go_wp2_with fail
        refine hK.out _ _ ?sr1_87_13 (fun hS => ?_)
        case sr1_87_13 => (exact ⟨hS.1.grown hap.2.1 NE.out.1, hS.2.grown hap.2.1 NE.out.2.1⟩)
        clear hK K
        (try simp only [Act.put, List.setIfInBounds_toArray, List.set_cons_zero, List.set_cons_succ])
        have HAP := Lib.hid hap
        clear hap
        refine wpAnyH_take (i := 14) (oi := ?o1_14_88) (v := ?v1_14_88) ?i1_14_88 (by kernel_rfl) (by kernel_rfl) (by kernel_rfl) (fun _ _ _ h => h) (Or.inl ⟨?g1_14_88, ?y1_14_88⟩) hS ?_
        case i1_14_88 => simp only [List.getElem?_toArray, List.getElem?_cons_succ, List.getElem?_cons_zero]; rfl
        case g1_14_88 => rfl
        case y1_14_88 => (intro w hSw; (go_simp <;> with_reducible rfl))
        (try simp only [Act.put, List.setIfInBounds_toArray, List.set_cons_zero, List.set_cons_succ])
        refine wpAnyH_take (i := 15) (oi := ?o1_15_89) (v := ?v1_15_89) ?i1_15_89 (by kernel_rfl) (by kernel_rfl) (by kernel_rfl) (fun _ _ _ h => h) (Or.inl ⟨?g1_15_89, ?y1_15_89⟩) hS ?_
        case i1_15_89 => simp only [List.getElem?_toArray, List.getElem?_cons_succ, List.getElem?_cons_zero]; rfl
        case g1_15_89 => rfl
        case y1_15_89 => (intro w hSw; (go_simp <;> with_reducible rfl))
        (try simp only [Act.put, List.setIfInBounds_toArray, List.set_cons_zero, List.set_cons_succ])
        refine wpAnyH_ready (rs := [16]) (by kernel_rfl) (by simp) ?_
        refine (AllReadyH.cons (o := ?or1_90_16) ?ir1_90_16 (fun K hK => ?str1_90_16) AllReadyH.nil)
        case ir1_90_16 => simp only [List.getElem?_toArray, List.getElem?_cons_succ, List.getElem?_cons_zero]; rfl
        rw [if_pos (by rfl)]
        have x1 := (HBX.out _ _ _ HW.out HAP.out).1
        have x2 := (HBX.out _ _ _ HW.out HAP.out).2
        go_simp
        refine hK.out _ _ ?sr1_90_16 (fun hS => ?_)
        case sr1_90_16 => (exact ⟨hS.1.far NE.out.2.2.1 _, hS.2.far NE.out.2.2.2 _⟩)
        clear hK K
        (try simp only [Act.put, List.setIfInBounds_toArray, List.set_cons_zero, List.set_cons_succ])
        refine wpAnyH_done (by kernel_rfl) ?_ _
        refine NoPanic.normal ?_
  all_goals (go_end0; exact (HF1.out _ _ _ HW.out HAP.out).out)

end Go.Proofs.Ytkpbjgjflabloaa
