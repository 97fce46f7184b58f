/-
  What package spec's closure of changes of a kid does, if changed does what it is to. No condition but those of each theorem.
-/
import Derived.Test.YtkpbjgjflabloaaSpvFnE
import Derived.Test.YtkpbjgjflabloaaSpvChg
namespace Go.Proofs.Ytkpbjgjflabloaa
open Go.RowKit
set_option linter.unusedSimpArgs false
set_option linter.unusedVariables false

theorem OwnX.nine {w : World} {base : Nat} {R : Nat → Prop} {cs : List Value} {x : Sp} {F : List Nat} (h : OwnX w base R cs x F) : ∃ z0 z1 z2 z3 z4 z5 z6 z7 z8, cs = [z0, z1, z2, z3, z4, z5, z6, z7, z8] := by
  obtain ⟨v, hl, _⟩ := h
  match cs, hl with
  | [z0, z1, z2, z3, z4, z5, z6, z7, z8], _ => exact ⟨_, _, _, _, _, _, _, _, _, rfl⟩
theorem OwnX.one {w : World} {base : Nat} {R : Nat → Prop} {cs : List Value} {x : Sp} {F : List Nat} (h : OwnX w base R cs x F) {j : Nat} {u : Value} (hj : cs[j]? = some u) : u.oneCell' = true := by
  obtain ⟨v, hl, hD, _⟩ := h
  exact hD.oneC u (List.mem_iff_getElem?.2 ⟨j, hj⟩)
theorem mid_at {xs1 ks xs2 : List Value} {j : Nat} {u : Value} (h : ks[j]? = some u) : (xs1 ++ (ks ++ xs2))[xs1.length + j]? = some u := by
  rw [List.getElem?_append_right (by omega), Nat.add_sub_cancel_left, List.getElem?_append_left (List.getElem?_eq_some_iff.1 h).1]
  exact h
set_option maxRecDepth 100000 in
set_option maxHeartbeats 4000000 in
theorem in1_any (k : ChF) (hP : ChdC k) (n : List UInt8) (base B p q : Nat) (R : Nat → Prop) (F : List Nat) (cs : List Value) (x y : Sp) (A' : Option Addr) (c' : Nat) (w : World) (h : Sit w base R B F cs x) (hp : Blk w p 9 #[.string (txt n)]) (hq : Blk w q 67 #[.slice A' k.len c'])
    (hch : ChS w R (.slice A' k.len c') k) (hRp : R p) (hRq : R q) (i : Nat) (hfi : findX n x.2 = some i) (hi : x.2.get? i = some y) (hkl : k.len ≤ 1000) (hok : okC k y = true) (hfew : x.2.len ≤ 100) :
    Calls Try.prog 37 #[.pointer (some ⟨B, 0, none⟩), .pointer (some ⟨p, 0, none⟩), .pointer (some ⟨q, 0, none⟩)] w (ChgP base R B F (x.1, updF i (runC k y) x.2) w) := by
  obtain ⟨box, own, nd, rlt, hb⟩ := h
  have hspn := own.spn
  have hFl := own.lt
  have hilt := Fr.get_lt hi
  obtain ⟨v, h1, hD, h5, zs, F0, rfl, hk, ht⟩ := own
  obtain ⟨Bn, m, A, c, dn, rfl, -, -, -⟩ := hspn.shape
  simp at h5
  subst h5
  obtain ⟨b, rfl⟩ : ∃ b, A = some ⟨b, 0, none⟩ := by
    rcases hk.2 with ⟨_, h0⟩ | ⟨g, cap, cur, e, _⟩
    · omega
    · injection e with e; exact ⟨g, e⟩
  have hcap : x.2.len ≤ c := by
    rcases hk.2 with ⟨e, _⟩ | ⟨g', cap, cur, e, _, _, hnc, _⟩
    · cases e
    · injection e with _ _ h3; rw [h3]; exact hnc
  obtain ⟨xs1, ks, xs2, F1, Fk, F2, rfl, rfl, ho, t1, tk, t3⟩ := ht.at hi
  obtain ⟨vk, kl, kD, k8, kU⟩ := tk
  obtain ⟨y0, y1, y2, y3, y4, y5, y6, y7, y8, rfl⟩ : ∃ y0 y1 y2 y3 y4 y5 y6 y7 y8, ks = [y0, y1, y2, y3, y4, y5, y6, y7, y8] := by
    match ks, kl with
    | [y0, y1, y2, y3, y4, y5, y6, y7, y8], _ => exact ⟨y0, y1, y2, y3, y4, y5, y6, y7, y8, rfl⟩
  have tk : OwnX w base R [y0, y1, y2, y3, y4, y5, y6, y7, y8] y Fk := ⟨vk, kl, kD, k8, kU⟩
  have hFk : ∀ g, g ∈ Fk → g < w.heap.size := tk.lt
  have hBl := box.lt
  have hRl : ∀ g, R g → g < w.heap.size := fun g hg => (rlt g hg).1
  have nd' : (B :: b :: (F1 ++ (Fk ++ F2))).Nodup := nd
  have rlt' : ∀ g, R g → g < w.heap.size ∧ g ≠ B ∧ g ∉ b :: (F1 ++ (Fk ++ F2)) := rlt
  have ndk : Fk.Nodup := by
    simp only [List.nodup_cons, List.nodup_append] at nd'
    exact nd'.2.2.2.1.1
  have hpB : p ≠ B := (rlt p hRp).2.1
  have hqB : q ≠ B := (rlt q hRq).2.1
  have hqb : q ≠ b := fun e => (rlt' q hRq).2.2 (by simp [e])
  have hqk : q ∉ Fk := fun e => (rlt' q hRq).2.2 (by simp [e])
  have hbk : b ∉ Fk := by
    simp only [List.nodup_cons, List.mem_append, not_or] at nd'
    exact nd'.2.1.2.1
  have hbase : base ≤ w.heap.size := by omega
  have hbl : b < w.heap.size := (hk.lt b rfl).2
  have hql := hq.lt
  have hcell : ∀ (W : World) (j : Nat) (u : Value), W.heap[b]? = w.heap[b]? → [y0, y1, y2, y3, y4, y5, y6, y7, y8][j]? = some u → W.cell? ⟨b, i * 9 + j, none⟩ = some u := fun W j u e hj => by
    rw [World.cell?_of_block (w := w) (a := ⟨b, i * 9 + j, none⟩) e, World.ownsRow.cellAt hk (i * 9 + j) (by have := (List.getElem?_eq_some_iff.1 hj).1; simp at this; omega), ← ho]
    exact mid_at hj
  have hfro : ∀ (W : World) (j : Nat), W.heap[b]? = w.heap[b]? → W.frozen? ⟨b, i * 9 + j, none⟩ = false := fun W j e => by
    have hk2 : OwnK 27 9 W base (.slice (some ⟨b, 0, none⟩) x.2.len c) x.2.len (xs1 ++ ([y0, y1, y2, y3, y4, y5, y6, y7, y8] ++ xs2)) := hk.keep (fun g hg => by injection hg with hg; subst hg; exact e)
    exact World.ownsRow.frozenAt hk2 (i * 9 + j)
  have HFI : Hid (∀ W, Below w.heap.size w W → Hid (Calls Try.prog 14 #[.agg #[.string (txt x.1.name), .int .i64 (x.1.kind : Int), .int .i64 (x.1.typ : Int), .int .u64 (x.1.low : Int), .int .u64 (x.1.high : Int), .slice Bn x.1.names.length m, .bool x.1.must, .int .i64 (x.1.most : Int), .slice (some ⟨b, 0, none⟩) x.2.len c], .string (txt n)] W (fun r w' => r = .returned (.int .i64 (i : Int)) ∧ Below W.heap.size W w'))) := Lib.hid (fun W hW => Lib.hid (by
    have hF := find_any n _ _ _ x W (hspn.kept stay_spc (fun g hg => hW.block g (hFl g hg)) (fun _ h => h) (fun g hg => hW.block g (hRl g hg)) (fun _ h => h)) (fun g hg => Nat.lt_of_lt_of_le (hFl g hg) hW.size) (fun g hg => Nat.lt_of_lt_of_le (hRl g hg) hW.size) (by omega)
    rw [add_find hfi] at hF
    exact hF))
  have HCH : Hid (∀ W, Below w.heap.size w W → Hid (Calls Try.prog 32 #[.agg #[y0, y1, y2, y3, y4, y5, y6, y7, y8], .slice A' k.len c'] W (ChdP base R Fk (runC k y) W))) := Lib.hid (fun W hW => Lib.hid
    (hP base R Fk _ y (.slice A' k.len c') W (tk.keep (fun g hg => hW.block g (hFk g hg)) (fun g hg => hW.block g (hRl g hg)) (fun _ h => h) (Nat.le_refl _)) ndk
      (fun g hg => ⟨Nat.lt_of_lt_of_le (hRl g hg) hW.size, fun e => (rlt' g hg).2.2 (by simp [e])⟩) (Nat.le_trans hbase hW.size) (hch.keep (fun g hg => hW.block g (hRl g hg)) (fun _ h => h)) hkl hok))
  have HEND : Hid (∀ (wa w5 : World) (z0 z1 z2 z3 z4 z5 z6 z7 z8 : Value) (F' : List Nat), Below w.heap.size w wa → OwnX w5 base R [z0, z1, z2, z3, z4, z5, z6, z7, z8] (runC k y) F' → F'.Nodup → (∀ g, g ∈ F' → g ∈ Fk ∨ wa.heap.size ≤ g) → Keeps base Fk wa w5 →
      Hid (ChgP base R B ((Value.slice (some ⟨b, 0, none⟩) x.2.len c).ownBlock.toList ++ (F1 ++ (Fk ++ F2))) (x.1, updF i (runC k y) x.2) w (.returned (.tuple #[])) (set9o w5 b (i * 9) z0 z1 z2 z3 z4 z5 z6 z7 z8))) :=
    Lib.hid (fun wa w5 z0 z1 z2 z3 z4 z5 z6 z7 z8 F' g1 g2 g3 g4 g5 => Lib.hid ⟨rfl, _, in_sit (F1 := F1) (Fk := Fk) (F2 := F2) (hd := [.string (txt x.1.name), .int .i64 (x.1.kind : Int), .int .i64 (x.1.typ : Int), .int .u64 (x.1.low : Int), .int .u64 (x.1.high : Int), .slice Bn x.1.names.length m, .bool x.1.must, .int .i64 (x.1.most : Int)]) box rfl hD hk hi ho t1 rfl t3 hFk nd' rlt' hb g1 g2 g3 g4 g5⟩)
  have HKB : Hid (∀ (wa w5 : World), Below w.heap.size w wa → Keeps base Fk wa w5 → w5.heap[b]? = w.heap[b]? ∧ w5.heap[q]? = w.heap[q]?) := Lib.hid (fun wa w5 g1 g2 =>
    ⟨(g2.2 b (Nat.lt_of_lt_of_le hbl g1.size) hbk).trans (g1.block b hbl), (g2.2 q (Nat.lt_of_lt_of_le hql g1.size) hqk).trans (g1.block q hql)⟩)
  have HC9 := Lib.hid hcell
  have HF9 := Lib.hid hfro
  have HB : Hid (Blk w B 27 #[.string (txt x.1.name), .int .i64 (x.1.kind : Int), .int .i64 (x.1.typ : Int), .int .u64 (x.1.low : Int), .int .u64 (x.1.high : Int), .slice Bn x.1.names.length m, .bool x.1.must, .int .i64 (x.1.most : Int), .slice (some ⟨b, 0, none⟩) x.2.len c]) := Lib.hid box
  have HP := Lib.hid hp
  have HQ := Lib.hid hq
  have HW : Hid (Below w.heap.size w w.drew) := Lib.hid (Below.refl _ _).drew
  have HBL := Lib.hid hbl
  have HNE := Lib.hid hqb
  have HN2 := Lib.hid (And.intro hpB hqB)
  have i1 : (0 : Int) ≤ (i : Int) := by omega
  have i2 : (i : Int) < (x.2.len : Int) := by omega
  clear hP hp hq hch hRp hRq hfi hi hok hkl hspn hFl h1 hD hk ht nd rlt hb t1 tk t3 kD k8 kU kl hFk hBl hRl nd' rlt' ndk hpB hqB hqb hqk hbk hbase hbl hql hcell hfro ho box
  generalize runC k y = y' at HCH HEND ⊢
  go_enter Try.func37, Try.ntmps37
  go_wp2_with fail
  refine wp_region_noPanic ?_
  refine wp_region_held_drew (S := fun _ => True) (by kernel_rfl) trivial (fun hS => ?_)
  refine wpAnyH_take (i := 0) (oi := ?o1_0_1) (v := ?v1_0_1) ?i1_0_1 (by kernel_rfl) (by kernel_rfl) (by kernel_rfl) (fun _ _ _ h => h) (Or.inl ⟨?g1_0_1, ?y1_0_1⟩) hS ?_
  case i1_0_1 => simp only [List.getElem?_toArray, List.getElem?_cons_succ, List.getElem?_cons_zero]; rfl
  case g1_0_1 => rfl
  case y1_0_1 => (intro w hSw; (go_simp <;> with_reducible rfl))
  (try simp only [Act.put, List.setIfInBounds_toArray, List.set_cons_zero, List.set_cons_succ])
  refine wpAnyH_take (i := 1) (oi := ?o1_1_2) (v := ?v1_1_2) ?i1_1_2 (by kernel_rfl) (by kernel_rfl) (by kernel_rfl) (fun _ _ _ h => h) (Or.inl ⟨?g1_1_2, ?y1_1_2⟩) hS ?_
  case i1_1_2 => simp only [List.getElem?_toArray, List.getElem?_cons_succ, List.getElem?_cons_zero]; rfl
  case g1_1_2 => rfl
  case y1_1_2 => (intro w hSw; (go_simp <;> with_reducible rfl))
  (try simp only [Act.put, List.setIfInBounds_toArray, List.set_cons_zero, List.set_cons_succ])
  refine wpAnyH_take (i := 2) (oi := ?o1_2_3) (v := ?v1_2_3) ?i1_2_3 (by kernel_rfl) (by kernel_rfl) (by kernel_rfl) (fun _ _ _ h => h) (Or.inl ⟨?g1_2_3, ?y1_2_3⟩) hS ?_
  case i1_2_3 => simp only [List.getElem?_toArray, List.getElem?_cons_succ, List.getElem?_cons_zero]; rfl
  case g1_2_3 => rfl
  case y1_2_3 => (intro w hSw; (go_simp <;> with_reducible rfl))
  (try simp only [Act.put, List.setIfInBounds_toArray, List.set_cons_zero, List.set_cons_succ])
  refine held_more (S' := fun w' => Blk w' B 27 #[.string (txt x.1.name), .int .i64 (x.1.kind : Int), .int .i64 (x.1.typ : Int), .int .u64 (x.1.low : Int), .int .u64 (x.1.high : Int), .slice Bn x.1.names.length m, .bool x.1.must, .int .i64 (x.1.most : Int), .slice (some ⟨b, 0, none⟩) x.2.len c] ∧ Blk w' p 9 #[.string (txt n)]) (fun _ _ => trivial) _ _ _ _ ?_
  replace hS : Blk w.drew B 27 #[.string (txt x.1.name), .int .i64 (x.1.kind : Int), .int .i64 (x.1.typ : Int), .int .u64 (x.1.low : Int), .int .u64 (x.1.high : Int), .slice Bn x.1.names.length m, .bool x.1.must, .int .i64 (x.1.most : Int), .slice (some ⟨b, 0, none⟩) x.2.len c] ∧ Blk w.drew p 9 #[.string (txt n)] := And.intro HB.out HP.out
  refine wpAnyH_take (i := 3) (oi := ?o1_3_4) (v := ?v1_3_4) ?i1_3_4 (by kernel_rfl) (by kernel_rfl) (by kernel_rfl) (fun _ _ _ h => h) (Or.inl ⟨?g1_3_4, ?y1_3_4⟩) hS ?_
  case i1_3_4 => simp only [List.getElem?_toArray, List.getElem?_cons_succ, List.getElem?_cons_zero]; rfl
  case g1_3_4 => rfl
  case y1_3_4 => (intro w hSw; have hc := (hSw.1.cell 8).trans rfl; (go_simp <;> with_reducible rfl))
  (try simp only [Act.put, List.setIfInBounds_toArray, List.set_cons_zero, List.set_cons_succ])
  refine wpAnyH_take (i := 4) (oi := ?o1_4_5) (v := ?v1_4_5) ?i1_4_5 (by kernel_rfl) (by kernel_rfl) (by kernel_rfl) (fun _ _ _ h => h) (Or.inl ⟨?g1_4_5, ?y1_4_5⟩) hS ?_
  case i1_4_5 => simp only [List.getElem?_toArray, List.getElem?_cons_succ, List.getElem?_cons_zero]; rfl
  case g1_4_5 => rfl
  case y1_4_5 => (intro w hSw; (go_simp <;> with_reducible rfl))
  (try simp only [Act.put, List.setIfInBounds_toArray, List.set_cons_zero, List.set_cons_succ])
  refine wpAnyH_take (i := 5) (oi := ?o1_5_6) (v := ?v1_5_6) ?i1_5_6 (by kernel_rfl) (by kernel_rfl) (by kernel_rfl) (fun _ _ _ h => h) (Or.inl ⟨?g1_5_6, ?y1_5_6⟩) hS ?_
  case i1_5_6 => simp only [List.getElem?_toArray, List.getElem?_cons_succ, List.getElem?_cons_zero]; rfl
  case g1_5_6 => rfl
  case y1_5_6 => (intro w hSw; (go_simp <;> with_reducible rfl))
  (try simp only [Act.put, List.setIfInBounds_toArray, List.set_cons_zero, List.set_cons_succ])
  refine wpAnyH_take (i := 6) (oi := ?o1_6_7) (v := ?v1_6_7) ?i1_6_7 (by kernel_rfl) (by kernel_rfl) (by kernel_rfl) (fun _ _ _ h => h) (Or.inl ⟨?g1_6_7, ?y1_6_7⟩) hS ?_
  case i1_6_7 => simp only [List.getElem?_toArray, List.getElem?_cons_succ, List.getElem?_cons_zero]; rfl
  case g1_6_7 => rfl
  case y1_6_7 => (intro w hSw; have c0 := (hSw.1.cell 0).trans rfl; have c1 := (hSw.1.cell 1).trans rfl; have c2 := (hSw.1.cell 2).trans rfl; have c3 := (hSw.1.cell 3).trans rfl; have c4 := (hSw.1.cell 4).trans rfl; have c5 := (hSw.1.cell 5).trans rfl; have c6 := (hSw.1.cell 6).trans rfl; have c7 := (hSw.1.cell 7).trans rfl; have c8 := (hSw.1.cell 8).trans rfl; (go_simp <;> with_reducible rfl))
  (try simp only [Act.put, List.setIfInBounds_toArray, List.set_cons_zero, List.set_cons_succ])
  refine wpAnyH_take (i := 7) (oi := ?o1_7_8) (v := ?v1_7_8) ?i1_7_8 (by kernel_rfl) (by kernel_rfl) (by kernel_rfl) (fun _ _ _ h => h) (Or.inl ⟨?g1_7_8, ?y1_7_8⟩) hS ?_
  case i1_7_8 => simp only [List.getElem?_toArray, List.getElem?_cons_succ, List.getElem?_cons_zero]; rfl
  case g1_7_8 => rfl
  case y1_7_8 => (intro w hSw; have hc := (hSw.2.cell 0).trans rfl; (go_simp <;> with_reducible rfl))
  (try simp only [Act.put, List.setIfInBounds_toArray, List.set_cons_zero, List.set_cons_succ])
  refine wpAnyH_ready (rs := [8]) (by kernel_rfl) (by simp) ?_
  refine (AllReadyH.cons (o := ?or1_9_8) ?ir1_9_8 (fun K hK => ?str1_9_8) AllReadyH.nil)
  case ir1_9_8 => simp only [List.getElem?_toArray, List.getElem?_cons_succ, List.getElem?_cons_zero]; rfl
  rw [if_pos (by rfl)]
  go_simp
  refine (HFI.out _ HW.out).out.mono ?_
  rintro r w8 ⟨rfl, hb8⟩
  go_wp2_with fail
  refine hK.out _ _ ?sr1_9_8 (fun hS => ?_)
  case sr1_9_8 => (exact ⟨hS.1.below hb8 hS.1.lt, hS.2.below hb8 hS.2.lt⟩)
  clear hK K
  (try simp only [Act.put, List.setIfInBounds_toArray, List.set_cons_zero, List.set_cons_succ])
  have HW8 := Lib.hid (HW.out.trans (hb8.mono HW.out.size))
  clear hb8
  refine wpAnyH_take (i := 9) (oi := ?o1_9_10) (v := ?v1_9_10) ?i1_9_10 (by kernel_rfl) (by kernel_rfl) (by kernel_rfl) (fun _ _ _ h => h) (Or.inl ⟨?g1_9_10, ?y1_9_10⟩) hS ?_
  case i1_9_10 => simp only [List.getElem?_toArray, List.getElem?_cons_succ, List.getElem?_cons_zero]; rfl
  case g1_9_10 => rfl
  case y1_9_10 => (intro w hSw; (go_simp <;> with_reducible rfl))
  (try simp only [Act.put, List.setIfInBounds_toArray, List.set_cons_zero, List.set_cons_succ])
  refine wpAnyH_take (i := 10) (oi := ?o1_10_11) (v := ?v1_10_11) ?i1_10_11 (by kernel_rfl) (by kernel_rfl) (by kernel_rfl) (fun _ _ _ h => h) (Or.inl ⟨?g1_10_11, ?y1_10_11⟩) hS ?_
  case i1_10_11 => simp only [List.getElem?_toArray, List.getElem?_cons_succ, List.getElem?_cons_zero]; rfl
  case g1_10_11 => rfl
  case y1_10_11 => (intro w hSw; (go_simp <;> with_reducible rfl))
  (try simp only [Act.put, List.setIfInBounds_toArray, List.set_cons_zero, List.set_cons_succ])
  refine wpAnyH_done (by kernel_rfl) ?_ _
  refine NoPanic.normal ?_
  go_wp2_with fail
  have HWD : Hid (Below w.heap.size w w8.drew) := Lib.hid HW8.out.drew
  have HQ8 : Hid (Blk w8.drew q 67 #[.slice A' k.len c']) := Lib.hid (HQ.out.below HWD.out HQ.out.lt)
  refine wp_region_noPanic ?_
  refine wp_region_held_drew (S := fun _ => True) (by kernel_rfl) trivial (fun hS => ?_)
  refine wpAnyH_take (i := 0) (oi := ?o2_0_1) (v := ?v2_0_1) ?i2_0_1 (by kernel_rfl) (by kernel_rfl) (by kernel_rfl) (fun _ _ _ h => h) (Or.inl ⟨?g2_0_1, ?y2_0_1⟩) hS ?_
  case i2_0_1 => simp only [List.getElem?_toArray, List.getElem?_cons_succ, List.getElem?_cons_zero]; rfl
  case g2_0_1 => rfl
  case y2_0_1 => (intro w hSw; (go_simp <;> with_reducible rfl))
  (try simp only [Act.put, List.setIfInBounds_toArray, List.set_cons_zero, List.set_cons_succ])
  refine wpAnyH_take (i := 1) (oi := ?o2_1_2) (v := ?v2_1_2) ?i2_1_2 (by kernel_rfl) (by kernel_rfl) (by kernel_rfl) (fun _ _ _ h => h) (Or.inl ⟨?g2_1_2, ?y2_1_2⟩) hS ?_
  case i2_1_2 => simp only [List.getElem?_toArray, List.getElem?_cons_succ, List.getElem?_cons_zero]; rfl
  case g2_1_2 => rfl
  case y2_1_2 => (intro w hSw; (go_simp <;> with_reducible rfl))
  (try simp only [Act.put, List.setIfInBounds_toArray, List.set_cons_zero, List.set_cons_succ])
  refine wpAnyH_take (i := 2) (oi := ?o2_2_3) (v := ?v2_2_3) ?i2_2_3 (by kernel_rfl) (by kernel_rfl) (by kernel_rfl) (fun _ _ _ h => h) (Or.inl ⟨?g2_2_3, ?y2_2_3⟩) hS ?_
  case i2_2_3 => simp only [List.getElem?_toArray, List.getElem?_cons_succ, List.getElem?_cons_zero]; rfl
  case g2_2_3 => rfl
  case y2_2_3 => (intro w hSw; (go_simp <;> with_reducible rfl))
  (try simp only [Act.put, List.setIfInBounds_toArray, List.set_cons_zero, List.set_cons_succ])
  refine held_more (S' := fun w' => Blk w' q 67 #[.slice A' k.len c']) (fun _ _ => trivial) _ _ _ _ ?_
  replace hS := HQ8.out
  refine wpAnyH_take (i := 4) (oi := ?o2_4_4) (v := ?v2_4_4) ?i2_4_4 (by kernel_rfl) (by kernel_rfl) (by kernel_rfl) (fun _ _ _ h => h) (Or.inl ⟨?g2_4_4, ?y2_4_4⟩) hS ?_
  case i2_4_4 => simp only [List.getElem?_toArray, List.getElem?_cons_succ, List.getElem?_cons_zero]; rfl
  case g2_4_4 => rfl
  case y2_4_4 => (intro w hSw; have hc := (hSw.cell 0).trans rfl; (go_simp <;> with_reducible rfl))
  (try simp only [Act.put, List.setIfInBounds_toArray, List.set_cons_zero, List.set_cons_succ])
  refine wpAnyH_ready (rs := [3]) (by kernel_rfl) (by simp) ?_
  refine (AllReadyH.cons (o := ?or2_5_3) ?ir2_5_3 (fun K hK => ?str2_5_3) AllReadyH.nil)
  case ir2_5_3 => simp only [List.getElem?_toArray, List.getElem?_cons_succ, List.getElem?_cons_zero]; rfl
  rw [if_pos (by rfl)]
  have c0 : w8.drew.cell? ⟨b, i * 9, none⟩ = some y0 := HC9.out _ 0 _ (HWD.out.block b HBL.out) rfl
  have c1 : w8.drew.cell? ⟨b, i * 9 + 1, none⟩ = some y1 := HC9.out _ 1 _ (HWD.out.block b HBL.out) rfl
  have c2 : w8.drew.cell? ⟨b, i * 9 + 2, none⟩ = some y2 := HC9.out _ 2 _ (HWD.out.block b HBL.out) rfl
  have c3 : w8.drew.cell? ⟨b, i * 9 + 3, none⟩ = some y3 := HC9.out _ 3 _ (HWD.out.block b HBL.out) rfl
  have c4 : w8.drew.cell? ⟨b, i * 9 + 4, none⟩ = some y4 := HC9.out _ 4 _ (HWD.out.block b HBL.out) rfl
  have c5 : w8.drew.cell? ⟨b, i * 9 + 5, none⟩ = some y5 := HC9.out _ 5 _ (HWD.out.block b HBL.out) rfl
  have c6 : w8.drew.cell? ⟨b, i * 9 + 6, none⟩ = some y6 := HC9.out _ 6 _ (HWD.out.block b HBL.out) rfl
  have c7 : w8.drew.cell? ⟨b, i * 9 + 7, none⟩ = some y7 := HC9.out _ 7 _ (HWD.out.block b HBL.out) rfl
  have c8 : w8.drew.cell? ⟨b, i * 9 + 8, none⟩ = some y8 := HC9.out _ 8 _ (HWD.out.block b HBL.out) rfl
  go_simp
  refine hK.out _ _ ?sr2_5_3 (fun hS => ?_)
  case sr2_5_3 => (exact hS)
  clear hK K
  (try simp only [Act.put, List.setIfInBounds_toArray, List.set_cons_zero, List.set_cons_succ])
  clear c0 c1 c2 c3 c4 c5 c6 c7 c8
  refine wpAnyH_ready (rs := [5]) (by kernel_rfl) (by simp) ?_
  refine (AllReadyH.cons (o := ?or2_6_5) ?ir2_6_5 (fun K hK => ?str2_6_5) AllReadyH.nil)
  case ir2_6_5 => simp only [List.getElem?_toArray, List.getElem?_cons_succ, List.getElem?_cons_zero]; rfl
  rw [if_pos (by rfl)]
  go_simp
  refine (HCH.out _ HWD.out).out.mono ?_
  rintro r w5 ⟨cs5, F5, rfl, g2, g3, g4, g5⟩
  obtain ⟨Bz, mz, Az, cz, dz, rfl, -, -, -⟩ := g2.spn.shape
  go_wp2_with fail
  refine hK.out _ _ ?sr2_6_5 (fun hS => ?_)
  case sr2_6_5 => (exact HQ.out.same (HKB.out _ _ HWD.out g5).2)
  clear hK K
  (try simp only [Act.put, List.setIfInBounds_toArray, List.set_cons_zero, List.set_cons_succ])
  have G2 := Lib.hid g2
  have G3 := Lib.hid g3
  have G4 := Lib.hid g4
  have G5 := Lib.hid g5
  clear g2 g3 g4 g5
  refine wpAnyH_take (i := 6) (oi := ?o2_6_7) (v := ?v2_6_7) ?i2_6_7 (by kernel_rfl) (by kernel_rfl) (by kernel_rfl) (fun _ _ _ h => h) (Or.inl ⟨?g2_6_7, ?y2_6_7⟩) hS ?_
  case i2_6_7 => simp only [List.getElem?_toArray, List.getElem?_cons_succ, List.getElem?_cons_zero]; rfl
  case g2_6_7 => rfl
  case y2_6_7 => (intro w hSw; (go_simp <;> with_reducible rfl))
  (try simp only [Act.put, List.setIfInBounds_toArray, List.set_cons_zero, List.set_cons_succ])
  refine wpAnyH_ready (rs := [7]) (by kernel_rfl) (by simp) ?_
  refine (AllReadyH.cons (o := ?or2_8_7) ?ir2_8_7 (fun K hK => ?str2_8_7) AllReadyH.nil)
  case ir2_8_7 => simp only [List.getElem?_toArray, List.getElem?_cons_succ, List.getElem?_cons_zero]; rfl
  rw [if_pos (by rfl)]
  have c0 : w5.cell? ⟨b, i * 9, none⟩ = some y0 := HC9.out _ 0 _ (HKB.out _ _ HWD.out G5.out).1 rfl
  have c1 : w5.cell? ⟨b, i * 9 + 1, none⟩ = some y1 := HC9.out _ 1 _ (HKB.out _ _ HWD.out G5.out).1 rfl
  have c2 : w5.cell? ⟨b, i * 9 + 2, none⟩ = some y2 := HC9.out _ 2 _ (HKB.out _ _ HWD.out G5.out).1 rfl
  have c3 : w5.cell? ⟨b, i * 9 + 3, none⟩ = some y3 := HC9.out _ 3 _ (HKB.out _ _ HWD.out G5.out).1 rfl
  have c4 : w5.cell? ⟨b, i * 9 + 4, none⟩ = some y4 := HC9.out _ 4 _ (HKB.out _ _ HWD.out G5.out).1 rfl
  have c5 : w5.cell? ⟨b, i * 9 + 5, none⟩ = some y5 := HC9.out _ 5 _ (HKB.out _ _ HWD.out G5.out).1 rfl
  have c6 : w5.cell? ⟨b, i * 9 + 6, none⟩ = some y6 := HC9.out _ 6 _ (HKB.out _ _ HWD.out G5.out).1 rfl
  have c7 : w5.cell? ⟨b, i * 9 + 7, none⟩ = some y7 := HC9.out _ 7 _ (HKB.out _ _ HWD.out G5.out).1 rfl
  have c8 : w5.cell? ⟨b, i * 9 + 8, none⟩ = some y8 := HC9.out _ 8 _ (HKB.out _ _ HWD.out G5.out).1 rfl
  have f0 : w5.frozen? ⟨b, i * 9, none⟩ = false := HF9.out _ 0 (HKB.out _ _ HWD.out G5.out).1
  have f1 : w5.frozen? ⟨b, i * 9 + 1, none⟩ = false := HF9.out _ 1 (HKB.out _ _ HWD.out G5.out).1
  have f2 : w5.frozen? ⟨b, i * 9 + 2, none⟩ = false := HF9.out _ 2 (HKB.out _ _ HWD.out G5.out).1
  have f3 : w5.frozen? ⟨b, i * 9 + 3, none⟩ = false := HF9.out _ 3 (HKB.out _ _ HWD.out G5.out).1
  have f4 : w5.frozen? ⟨b, i * 9 + 4, none⟩ = false := HF9.out _ 4 (HKB.out _ _ HWD.out G5.out).1
  have f5 : w5.frozen? ⟨b, i * 9 + 5, none⟩ = false := HF9.out _ 5 (HKB.out _ _ HWD.out G5.out).1
  have f6 : w5.frozen? ⟨b, i * 9 + 6, none⟩ = false := HF9.out _ 6 (HKB.out _ _ HWD.out G5.out).1
  have f7 : w5.frozen? ⟨b, i * 9 + 7, none⟩ = false := HF9.out _ 7 (HKB.out _ _ HWD.out G5.out).1
  have f8 : w5.frozen? ⟨b, i * 9 + 8, none⟩ = false := HF9.out _ 8 (HKB.out _ _ HWD.out G5.out).1
  go_simp
  refine hK.out _ _ ?sr2_8_7 (fun hS => ?_)
  case sr2_8_7 => (exact Blk.same hS (set9o_other HNE.out))
  clear hK K
  (try simp only [Act.put, List.setIfInBounds_toArray, List.set_cons_zero, List.set_cons_succ])
  clear c0 c1 c2 c3 c4 c5 c6 c7 c8 f0 f1 f2 f3 f4 f5 f6 f7 f8
  refine wpAnyH_done (by kernel_rfl) ?_ _
  refine NoPanic.normal ?_
  go_end0
  exact (HEND.out _ _ _ _ _ _ _ _ _ _ _ _ HWD.out G2.out G3.out G4.out G5.out).out

end Go.Proofs.Ytkpbjgjflabloaa
