/- What the laws of package tree want of TreRefD. -/
import Derived.Test.YtgipnemcmiohlaaZ0TreRefC
namespace Go.Proofs.Ytgipnemcmiohlaa
open Go.RowKit
set_option linter.unusedSimpArgs false
set_option linter.unusedVariables false
def SameP9 (f : NdF) : Prop := ∀ (g : NdF) (a b : NdD) (A B : Option Addr) (c d : Nat) (w : World), RowT w.heap.size w (.slice A f.len c) f → RowT w.heap.size w (.slice B g.len d) g → f.size ≤ 1000000 → g.size ≤ 1000000 →
    Calls Try.prog 15 #[.agg #[.string (txt a.name), .string (txt a.key), .int .i64 a.kind, .int .u64 (a.num : Int), .string (txt a.text), .slice A f.len c], .agg #[.string (txt b.name), .string (txt b.key), .int .i64 b.kind, .int .u64 (b.num : Int), .string (txt b.text), .slice B g.len d]] w (Ans9 (.bool (decide (((a, f) : Nd) = (b, g)))) w)
set_option maxRecDepth 100000 in
set_option maxHeartbeats 2000000 in
theorem rsame_name (a b : NdD) (A B : Option Addr) (m n c d : Nat) (w : World) (h : (a.name == b.name) = false) :
    Calls Try.prog 15 #[.agg #[.string (txt a.name), .string (txt a.key), .int .i64 a.kind, .int .u64 (a.num : Int), .string (txt a.text), .slice A m c], .agg #[.string (txt b.name), .string (txt b.key), .int .i64 b.kind, .int .u64 (b.num : Int), .string (txt b.text), .slice B n d]] w (Ans9 (.bool false) w) := by
  have HB : Hid (Below w.heap.size w ((w.alloc (.cells #[.string (txt a.name), .string (txt a.key), .int .i64 a.kind, .int .u64 (a.num : Int), .string (txt a.text), .slice A m c] 27)).alloc (.cells #[.string (txt b.name), .string (txt b.key), .int .i64 b.kind, .int .u64 (b.num : Int), .string (txt b.text), .slice B n d] 27))) := Lib.hid (((Below.refl _ _).alloc (Nat.le_refl _) _).alloc (by simp) _)
  have t1 : (txt a.name).toList = a.name := txt_toList _
  have t2 : (txt b.name).toList = b.name := txt_toList _
  go_enter Try.func15, Try.ntmps15
  go_wp2
  go_ret
  exact ⟨rfl, HB.out⟩
set_option maxRecDepth 100000 in
set_option maxHeartbeats 2000000 in
theorem rsame_key (a b : NdD) (A B : Option Addr) (m n c d : Nat) (w : World) (h : (a.name == b.name) = true) (h2 : (a.key == b.key) = false) :
    Calls Try.prog 15 #[.agg #[.string (txt a.name), .string (txt a.key), .int .i64 a.kind, .int .u64 (a.num : Int), .string (txt a.text), .slice A m c], .agg #[.string (txt b.name), .string (txt b.key), .int .i64 b.kind, .int .u64 (b.num : Int), .string (txt b.text), .slice B n d]] w (Ans9 (.bool false) w) := by
  have HB : Hid (Below w.heap.size w ((w.alloc (.cells #[.string (txt a.name), .string (txt a.key), .int .i64 a.kind, .int .u64 (a.num : Int), .string (txt a.text), .slice A m c] 27)).alloc (.cells #[.string (txt b.name), .string (txt b.key), .int .i64 b.kind, .int .u64 (b.num : Int), .string (txt b.text), .slice B n d] 27))) := Lib.hid (((Below.refl _ _).alloc (Nat.le_refl _) _).alloc (by simp) _)
  have t1 : (txt a.name).toList = a.name := txt_toList _
  have t2 : (txt b.name).toList = b.name := txt_toList _
  have t3 : (txt a.key).toList = a.key := txt_toList _
  have t4 : (txt b.key).toList = b.key := txt_toList _
  go_enter Try.func15, Try.ntmps15
  go_wp2
  go_ret
  exact ⟨rfl, HB.out⟩
set_option maxRecDepth 100000 in
set_option maxHeartbeats 2000000 in
theorem rsame_val (a b : NdD) (A B : Option Addr) (m n c d : Nat) (w : World) (h : (a.name == b.name) = true) (h2 : (a.key == b.key) = true) (h3 : ¬ (a.kind = b.kind ∧ a.num = b.num ∧ a.text = b.text)) :
    Calls Try.prog 15 #[.agg #[.string (txt a.name), .string (txt a.key), .int .i64 a.kind, .int .u64 (a.num : Int), .string (txt a.text), .slice A m c], .agg #[.string (txt b.name), .string (txt b.key), .int .i64 b.kind, .int .u64 (b.num : Int), .string (txt b.text), .slice B n d]] w (Ans9 (.bool false) w) := by
  have HB : Hid (Below w.heap.size w ((w.alloc (.cells #[.string (txt a.name), .string (txt a.key), .int .i64 a.kind, .int .u64 (a.num : Int), .string (txt a.text), .slice A m c] 27)).alloc (.cells #[.string (txt b.name), .string (txt b.key), .int .i64 b.kind, .int .u64 (b.num : Int), .string (txt b.text), .slice B n d] 27))) := Lib.hid (((Below.refl _ _).alloc (Nat.le_refl _) _).alloc (by simp) _)
  have t1 : (txt a.name).toList = a.name := txt_toList _
  have t2 : (txt b.name).toList = b.name := txt_toList _
  have t3 : (txt a.key).toList = a.key := txt_toList _
  have t4 : (txt b.key).toList = b.key := txt_toList _
  have t5 : (txt a.text).toList = a.text := txt_toList _
  have t6 : (txt b.text).toList = b.text := txt_toList _
  have e : ((a.kind == b.kind) && ((a.num == b.num) && (a.text == b.text))) = false := by
    rw [Bool.eq_false_iff]
    intro e
    simp only [Bool.and_eq_true, beq_iff_eq] at e
    exact h3 e
  clear h3
  cases e1 : (a.kind == b.kind) with
  | false =>
    clear e
    go_enter Try.func15, Try.ntmps15
    go_wp2
    go_ret
    exact ⟨rfl, HB.out⟩
  | true =>
    cases e2 : (a.num == b.num) with
    | false =>
      have e2' : ((a.num : Int) == (b.num : Int)) = false := by rw [beq_eq_false_iff_ne] at e2 ⊢; omega
      clear e
      go_enter Try.func15, Try.ntmps15
      go_wp2
      go_ret
      exact ⟨rfl, HB.out⟩
    | true =>
      have e2' : ((a.num : Int) == (b.num : Int)) = true := by rw [beq_iff_eq] at e2 ⊢; omega
      have e3 : (a.text == b.text) = false := by rw [e1, e2] at e; simpa using e
      clear e
      go_enter Try.func15, Try.ntmps15
      go_wp2
      go_ret
      exact ⟨rfl, HB.out⟩
set_option maxRecDepth 100000 in
set_option maxHeartbeats 2000000 in
theorem rsame_len (a : NdD) (A B : Option Addr) (m n c d : Nat) (w : World) (h : m ≠ n) :
    Calls Try.prog 15 #[.agg #[.string (txt a.name), .string (txt a.key), .int .i64 a.kind, .int .u64 (a.num : Int), .string (txt a.text), .slice A m c], .agg #[.string (txt a.name), .string (txt a.key), .int .i64 a.kind, .int .u64 (a.num : Int), .string (txt a.text), .slice B n d]] w (Ans9 (.bool false) w) := by
  have HB : Hid (Below w.heap.size w ((w.alloc (.cells #[.string (txt a.name), .string (txt a.key), .int .i64 a.kind, .int .u64 (a.num : Int), .string (txt a.text), .slice A m c] 27)).alloc (.cells #[.string (txt a.name), .string (txt a.key), .int .i64 a.kind, .int .u64 (a.num : Int), .string (txt a.text), .slice B n d] 27))) := Lib.hid (((Below.refl _ _).alloc (Nat.le_refl _) _).alloc (by simp) _)
  have t1 : (txt a.name).toList = a.name := txt_toList _
  have t3 : (txt a.key).toList = a.key := txt_toList _
  have t5 : (txt a.text).toList = a.text := txt_toList _
  have e1 : (m == n) = false := beq_eq_false_iff_ne.2 h
  have e2 : ((m : Int) == (n : Int)) = false := by rw [beq_eq_false_iff_ne]; omega
  clear h
  go_enter Try.func15, Try.ntmps15
  go_wp2
  go_ret
  exact ⟨rfl, HB.out⟩
set_option maxRecDepth 100000 in
set_option maxHeartbeats 4000000 in
theorem rsame_row (f g : NdF) (hkids : ∀ n a k, f.get? n = some (a, k) → SameP9 k) (a : NdD) (A B : Option Addr) (c d L : Nat) (w : World) (hf : RowT w.heap.size w (.slice A L c) f) (hg : RowT w.heap.size w (.slice B L d) g) (hsf : f.size ≤ 1000000) (hsg : g.size ≤ 1000000) :
    Calls Try.prog 15 #[.agg #[.string (txt a.name), .string (txt a.key), .int .i64 a.kind, .int .u64 (a.num : Int), .string (txt a.text), .slice A L c], .agg #[.string (txt a.name), .string (txt a.key), .int .i64 a.kind, .int .u64 (a.num : Int), .string (txt a.text), .slice B L d]] w (Ans9 (.bool (decide (f = g))) w) := by
  have t1 : (txt a.name).toList = a.name := txt_toList _
  have t3 : (txt a.key).toList = a.key := txt_toList _
  have t5 : (txt a.text).toList = a.text := txt_toList _
  have hb2 : Blk ((w.alloc (.cells #[.string (txt a.name), .string (txt a.key), .int .i64 a.kind, .int .u64 (a.num : Int), .string (txt a.text), .slice A L c] 27)).alloc (.cells #[.string (txt a.name), .string (txt a.key), .int .i64 a.kind, .int .u64 (a.num : Int), .string (txt a.text), .slice B L d] 27)) (w.heap.size + 1) 27 #[.string (txt a.name), .string (txt a.key), .int .i64 a.kind, .int .u64 (a.num : Int), .string (txt a.text), .slice B L d] := by
    have h := Blk.new (w.alloc (.cells #[.string (txt a.name), .string (txt a.key), .int .i64 a.kind, .int .u64 (a.num : Int), .string (txt a.text), .slice A L c] 27)) 27 #[.string (txt a.name), .string (txt a.key), .int .i64 a.kind, .int .u64 (a.num : Int), .string (txt a.text), .slice B L d]
    rw [show (w.alloc (.cells #[.string (txt a.name), .string (txt a.key), .int .i64 a.kind, .int .u64 (a.num : Int), .string (txt a.text), .slice A L c] 27)).heap.size = w.heap.size + 1 by simp] at h
    exact h
  have HQ := Lib.hid (And.intro ((Blk.new w 27 #[.string (txt a.name), .string (txt a.key), .int .i64 a.kind, .int .u64 (a.num : Int), .string (txt a.text), .slice A L c]).alloc (.cells #[.string (txt a.name), .string (txt a.key), .int .i64 a.kind, .int .u64 (a.num : Int), .string (txt a.text), .slice B L d] 27)) (And.intro hb2 (show Below w.heap.size w ((w.alloc (.cells #[.string (txt a.name), .string (txt a.key), .int .i64 a.kind, .int .u64 (a.num : Int), .string (txt a.text), .slice A L c] 27)).alloc (.cells #[.string (txt a.name), .string (txt a.key), .int .i64 a.kind, .int .u64 (a.num : Int), .string (txt a.text), .slice B L d] 27)) from ((Below.refl _ _).alloc (Nat.le_refl _) _).alloc (by simp) _)))
  have HI := Lib.hid hkids
  have HKF : Hid (RowT w.heap.size w (.slice A L c) f) := Lib.hid hf
  have HKG : Hid (RowT w.heap.size w (.slice B L d) g) := Lib.hid hg
  have HZ := Lib.hid (And.intro hsf hsg)
  have HLF : Hid (L = f.len) := Lib.hid hf.len.1
  have HLG : Hid (L = g.len) := Lib.hid hg.len.1
  have i3 : (L : Int) ≤ 1000000 := by have := HLF.out; have := Fr.len_size f; omega
  clear hkids hf hg hsf hsg hb2
  go_enter Try.func15, Try.ntmps15
  go_wp2
  go_loopw [5, 6] (fun i v6 wr => ∃ j : Nat, j ≤ L ∧ i = .int .i64 (j : Int) ∧ Hid (∀ n, n < j → f.get? n = g.get? n) ∧ Blk wr w.heap.size 27 #[.string (txt a.name), .string (txt a.key), .int .i64 a.kind, .int .u64 (a.num : Int), .string (txt a.text), .slice A L c] ∧ Blk wr (w.heap.size + 1) 27 #[.string (txt a.name), .string (txt a.key), .int .i64 a.kind, .int .u64 (a.num : Int), .string (txt a.text), .slice B L d] ∧ Below w.heap.size w wr) (fun i _ _ => L - (intOf i).toNat)
  case atStart => exact ⟨0, Nat.zero_le _, rfl, Lib.hid (fun n h => by omega), HQ.out.1, HQ.out.2.1, HQ.out.2.2⟩
  case round =>
    obtain ⟨j, hj, rfl, HL, hX, hY, hB⟩ := hrel
    have HBr := Lib.hid hB
    have p5 : wr.cell? ⟨w.heap.size, 5, none⟩ = some (.slice A L c) := (hX.cell 5).trans rfl
    by_cases hlt : j < L
    · obtain ⟨a1, q1, hg1⟩ := Fr.get_some (f := f) (n := j) (by have := HLF.out; omega)
      obtain ⟨a2, q2, hg2⟩ := Fr.get_some (f := g) (n := j) (by have := HLG.out; omega)
      obtain ⟨b1, o1, A1, c1, rfl, -, -, hbl1, hrow1, hcl1⟩ := HKF.out.at hg1
      obtain ⟨b2, o2, A2, c2, rfl, -, -, hbl2, hrow2, hcl2⟩ := HKG.out.at hg2
      have i1 : (0 : Int) ≤ (j : Int) := by omega
      have i2 : (j : Int) < (L : Int) := by omega
      obtain ⟨rb, hrb⟩ : ∃ z, z = decide (((a1, q1) : Nd) = (a2, q2)) := ⟨_, rfl⟩
      have HI1 : Hid (Calls Try.prog 15 #[.agg #[.string (txt a1.name), .string (txt a1.key), .int .i64 a1.kind, .int .u64 (a1.num : Int), .string (txt a1.text), .slice A1 q1.len c1], .agg #[.string (txt a2.name), .string (txt a2.key), .int .i64 a2.kind, .int .u64 (a2.num : Int), .string (txt a2.text), .slice A2 q2.len c2]] wr.drew (Ans9 (.bool rb) wr.drew)) := Lib.hid (by
        rw [hrb]
        exact HI.out j a1 q1 hg1 q2 a1 a2 A1 A2 c1 c2 wr.drew (hrow1.under hB.drew (Nat.le_refl _) hB.size) (hrow2.under hB.drew (Nat.le_refl _) hB.size) (by have := HZ.out.1; have := Fr.size_get hg1; omega) (by have := HZ.out.2; have := Fr.size_get hg2; omega))
      have HQ1 := Lib.hid (And.intro (hX.below (Below.refl _ _).drew hX.lt) (And.intro (hY.below (Below.refl _ _).drew hY.lt) (And.intro (fun i u hu => (hB.drew.cell (p := ⟨b1, o1 + j * 6 + i, none⟩) hbl1).trans (hcl1 i u hu)) (fun i u hu => (hB.drew.cell (p := ⟨b2, o2 + j * 6 + i, none⟩) hbl2).trans (hcl2 i u hu)))))
      have HBd := Lib.hid hB.drew
      have HLL := Lib.hid (And.intro hbl1 hbl2)
      have HG1 := Lib.hid hg1
      have HG2 := Lib.hid hg2
      have HRB := Lib.hid hrb
      clear hcl1 hcl2 hrow1 hrow2 hg1 hg2 hX hY hB hrb hbl1 hbl2
      go_wp2_with fail
      refine wp_region_noPanic ?_
      refine wp_region_held_drew (S := fun _ => True) (by kernel_rfl) trivial (fun hS => ?_)
      refine held_more (S' := fun w' => Blk w' w.heap.size 27 #[.string (txt a.name), .string (txt a.key), .int .i64 a.kind, .int .u64 (a.num : Int), .string (txt a.text), .slice (some ⟨b1, o1, none⟩) L c] ∧ Blk w' (w.heap.size + 1) 27 #[.string (txt a.name), .string (txt a.key), .int .i64 a.kind, .int .u64 (a.num : Int), .string (txt a.text), .slice (some ⟨b2, o2, none⟩) L d] ∧ (∀ i u, (ndC a1 (.slice A1 q1.len c1))[i]? = some u → w'.cell? ⟨b1, o1 + j * 6 + i, none⟩ = some u) ∧ (∀ i u, (ndC a2 (.slice A2 q2.len c2))[i]? = some u → w'.cell? ⟨b2, o2 + j * 6 + i, none⟩ = some u)) (fun _ _ => trivial) _ _ _ _ ?_
      replace hS := HQ1.out
      refine wpAnyH_take (i := 0) (oi := ?o1_0_1) (v := ?v1_0_1) ?i1_0_1 (by kernel_rfl) (by kernel_rfl) (by kernel_rfl) (fun _ _ _ h => h) (Or.inl ⟨?g1_0_1, ?y1_0_1⟩) hS ?_
      case i1_0_1 => simp only [List.getElem?_toArray, List.getElem?_cons_succ, List.getElem?_cons_zero]; rfl
      case g1_0_1 => rfl
      case y1_0_1 => (intro w hSw; (go_simp <;> with_reducible rfl))
      (try simp only [Act.put, List.setIfInBounds_toArray, List.set_cons_zero, List.set_cons_succ])
      refine wpAnyH_take (i := 1) (oi := ?o1_1_2) (v := ?v1_1_2) ?i1_1_2 (by kernel_rfl) (by kernel_rfl) (by kernel_rfl) (fun _ _ _ h => h) (Or.inl ⟨?g1_1_2, ?y1_1_2⟩) hS ?_
      case i1_1_2 => simp only [List.getElem?_toArray, List.getElem?_cons_succ, List.getElem?_cons_zero]; rfl
      case g1_1_2 => rfl
      case y1_1_2 => (intro w hSw; have q5 := (hSw.1.cell 5).trans rfl; (go_simp <;> with_reducible rfl))
      (try simp only [Act.put, List.setIfInBounds_toArray, List.set_cons_zero, List.set_cons_succ])
      refine wpAnyH_take (i := 2) (oi := ?o1_2_3) (v := ?v1_2_3) ?i1_2_3 (by kernel_rfl) (by kernel_rfl) (by kernel_rfl) (fun _ _ _ h => h) (Or.inl ⟨?g1_2_3, ?y1_2_3⟩) hS ?_
      case i1_2_3 => simp only [List.getElem?_toArray, List.getElem?_cons_succ, List.getElem?_cons_zero]; rfl
      case g1_2_3 => rfl
      case y1_2_3 => (intro w hSw; (go_simp <;> with_reducible rfl))
      (try simp only [Act.put, List.setIfInBounds_toArray, List.set_cons_zero, List.set_cons_succ])
      refine wpAnyH_take (i := 3) (oi := ?o1_3_4) (v := ?v1_3_4) ?i1_3_4 (by kernel_rfl) (by kernel_rfl) (by kernel_rfl) (fun _ _ _ h => h) (Or.inl ⟨?g1_3_4, ?y1_3_4⟩) hS ?_
      case i1_3_4 => simp only [List.getElem?_toArray, List.getElem?_cons_succ, List.getElem?_cons_zero]; rfl
      case g1_3_4 => rfl
      case y1_3_4 => (intro w hSw; (go_simp <;> with_reducible rfl))
      (try simp only [Act.put, List.setIfInBounds_toArray, List.set_cons_zero, List.set_cons_succ])
      refine wpAnyH_take (i := 4) (oi := ?o1_4_5) (v := ?v1_4_5) ?i1_4_5 (by kernel_rfl) (by kernel_rfl) (by kernel_rfl) (fun _ _ _ h => h) (Or.inl ⟨?g1_4_5, ?y1_4_5⟩) hS ?_
      case i1_4_5 => simp only [List.getElem?_toArray, List.getElem?_cons_succ, List.getElem?_cons_zero]; rfl
      case g1_4_5 => rfl
      case y1_4_5 => (intro w hSw; have u0 : w.cell? ⟨b1, o1 + j * 6, none⟩ = _ := hSw.2.2.1 0 _ rfl; have u1 := hSw.2.2.1 1 _ rfl; have u2 := hSw.2.2.1 2 _ rfl; have u3 := hSw.2.2.1 3 _ rfl; have u4 := hSw.2.2.1 4 _ rfl; have u5 := hSw.2.2.1 5 _ rfl; (go_simp <;> with_reducible rfl))
      (try simp only [Act.put, List.setIfInBounds_toArray, List.set_cons_zero, List.set_cons_succ])
      refine wpAnyH_take (i := 5) (oi := ?o1_5_6) (v := ?v1_5_6) ?i1_5_6 (by kernel_rfl) (by kernel_rfl) (by kernel_rfl) (fun _ _ _ h => h) (Or.inl ⟨?g1_5_6, ?y1_5_6⟩) hS ?_
      case i1_5_6 => simp only [List.getElem?_toArray, List.getElem?_cons_succ, List.getElem?_cons_zero]; rfl
      case g1_5_6 => rfl
      case y1_5_6 => (intro w hSw; (go_simp <;> with_reducible rfl))
      (try simp only [Act.put, List.setIfInBounds_toArray, List.set_cons_zero, List.set_cons_succ])
      refine wpAnyH_take (i := 6) (oi := ?o1_6_7) (v := ?v1_6_7) ?i1_6_7 (by kernel_rfl) (by kernel_rfl) (by kernel_rfl) (fun _ _ _ h => h) (Or.inl ⟨?g1_6_7, ?y1_6_7⟩) hS ?_
      case i1_6_7 => simp only [List.getElem?_toArray, List.getElem?_cons_succ, List.getElem?_cons_zero]; rfl
      case g1_6_7 => rfl
      case y1_6_7 => (intro w hSw; have q5 := (hSw.2.1.cell 5).trans rfl; (go_simp <;> with_reducible rfl))
      (try simp only [Act.put, List.setIfInBounds_toArray, List.set_cons_zero, List.set_cons_succ])
      refine wpAnyH_take (i := 7) (oi := ?o1_7_8) (v := ?v1_7_8) ?i1_7_8 (by kernel_rfl) (by kernel_rfl) (by kernel_rfl) (fun _ _ _ h => h) (Or.inl ⟨?g1_7_8, ?y1_7_8⟩) hS ?_
      case i1_7_8 => simp only [List.getElem?_toArray, List.getElem?_cons_succ, List.getElem?_cons_zero]; rfl
      case g1_7_8 => rfl
      case y1_7_8 => (intro w hSw; (go_simp <;> with_reducible rfl))
      (try simp only [Act.put, List.setIfInBounds_toArray, List.set_cons_zero, List.set_cons_succ])
      refine wpAnyH_take (i := 8) (oi := ?o1_8_9) (v := ?v1_8_9) ?i1_8_9 (by kernel_rfl) (by kernel_rfl) (by kernel_rfl) (fun _ _ _ h => h) (Or.inl ⟨?g1_8_9, ?y1_8_9⟩) hS ?_
      case i1_8_9 => simp only [List.getElem?_toArray, List.getElem?_cons_succ, List.getElem?_cons_zero]; rfl
      case g1_8_9 => rfl
      case y1_8_9 => (intro w hSw; (go_simp <;> with_reducible rfl))
      (try simp only [Act.put, List.setIfInBounds_toArray, List.set_cons_zero, List.set_cons_succ])
      refine wpAnyH_take (i := 9) (oi := ?o1_9_10) (v := ?v1_9_10) ?i1_9_10 (by kernel_rfl) (by kernel_rfl) (by kernel_rfl) (fun _ _ _ h => h) (Or.inl ⟨?g1_9_10, ?y1_9_10⟩) hS ?_
      case i1_9_10 => simp only [List.getElem?_toArray, List.getElem?_cons_succ, List.getElem?_cons_zero]; rfl
      case g1_9_10 => rfl
      case y1_9_10 => (intro w hSw; have u0 : w.cell? ⟨b2, o2 + j * 6, none⟩ = _ := hSw.2.2.2 0 _ rfl; have u1 := hSw.2.2.2 1 _ rfl; have u2 := hSw.2.2.2 2 _ rfl; have u3 := hSw.2.2.2 3 _ rfl; have u4 := hSw.2.2.2 4 _ rfl; have u5 := hSw.2.2.2 5 _ rfl; (go_simp <;> with_reducible rfl))
      (try simp only [Act.put, List.setIfInBounds_toArray, List.set_cons_zero, List.set_cons_succ])
      refine wpAnyH_ready (rs := [10]) (by kernel_rfl) (by simp) ?_
      refine (AllReadyH.cons (o := ?or1_11_10) ?ir1_11_10 (fun K hK => ?str1_11_10) AllReadyH.nil)
      case ir1_11_10 => simp only [List.getElem?_toArray, List.getElem?_cons_succ, List.getElem?_cons_zero]; rfl
      rw [if_pos (by rfl)]
      go_simp
      refine HI1.out.mono ?_
      rintro r w6 ⟨rfl, hb6⟩
      have HX6 := Lib.hid (HQ1.out.1.below hb6 HQ1.out.1.lt)
      have HY6 := Lib.hid (HQ1.out.2.1.below hb6 HQ1.out.2.1.lt)
      have HB6 := Lib.hid (HBd.out.trans (hb6.mono HBd.out.size))
      have HW6 := Lib.hid hb6
      clear hb6
      go_wp2_with fail
      refine hK.out _ _ ?sr1_11_10 (fun hS => ?_)
      case sr1_11_10 => (exact ⟨HX6.out, HY6.out, fun i u hu => (HW6.out.cell (p := ⟨b1, o1 + j * 6 + i, none⟩) (Nat.lt_of_lt_of_le HLL.out.1 HBd.out.size)).trans (HQ1.out.2.2.1 i u hu), fun i u hu => (HW6.out.cell (p := ⟨b2, o2 + j * 6 + i, none⟩) (Nat.lt_of_lt_of_le HLL.out.2 HBd.out.size)).trans (HQ1.out.2.2.2 i u hu)⟩)
      clear hK K
      (try simp only [Act.put, List.setIfInBounds_toArray, List.set_cons_zero, List.set_cons_succ])
      refine wpAnyH_take (i := 11) (oi := ?o1_11_12) (v := ?v1_11_12) ?i1_11_12 (by kernel_rfl) (by kernel_rfl) (by kernel_rfl) (fun _ _ _ h => h) (Or.inl ⟨?g1_11_12, ?y1_11_12⟩) hS ?_
      case i1_11_12 => simp only [List.getElem?_toArray, List.getElem?_cons_succ, List.getElem?_cons_zero]; rfl
      case g1_11_12 => rfl
      case y1_11_12 => (intro w hSw; (go_simp <;> with_reducible rfl))
      (try simp only [Act.put, List.setIfInBounds_toArray, List.set_cons_zero, List.set_cons_succ])
      refine wpAnyH_done (by kernel_rfl) ?_ _
      refine NoPanic.normal ?_
      cases rb with
      | false =>
        have HF : Hid (decide (f = g) = false) := Lib.hid (decide_eq_false (fun e => by
          have h1 := HG1.out
          rw [e, HG2.out] at h1
          injection h1 with h1
          have h2 := HRB.out
          rw [h1] at h2
          simp at h2))
        clear hS p5
        go_wp2
        go_ret
        exact ⟨by rw [HF.out]; rfl, HB6.out⟩
      | true =>
        have HL2 : Hid (∀ n, n < j + 1 → f.get? n = g.get? n) := Lib.hid (fun n hn => by
          by_cases e : n = j
          · subst e
            have h2 : ((a1, q1) : Nd) = (a2, q2) := of_decide_eq_true HRB.out.symm
            rw [HG1.out, HG2.out, h2]
          · exact HL.out n (by omega))
        clear hS p5
        go_wp2
        go_roundw
        case rel => exact ⟨j + 1, by omega, by go_num, HL2, HX6.out, HY6.out, HB6.out⟩
        case measure => simp [intOf]; omega
    · have i2 : ¬ (j : Int) < (L : Int) := by omega
      have HF : Hid (decide (f = g) = true) := Lib.hid (decide_eq_true (Fr.ext (by have := HLF.out; have := HLG.out; omega) (fun n hn => HL.out n (by have := HLF.out; omega))))
      clear hX hY hB
      go_wp2
      go_ret
      exact ⟨by rw [HF.out]; rfl, HBr.out⟩
theorem rsamef_any (f : NdF) : SameP9 f := by
  refine Fr.byKids (P := SameP9) ?_ f
  clear f
  intro f hkids g a b A B c d w hf hg hsf hsg
  by_cases h1 : a.name = b.name
  · by_cases h2 : a.key = b.key
    · by_cases h3 : a.kind = b.kind ∧ a.num = b.num ∧ a.text = b.text
      · obtain rfl : a = b := NdD.ext_ h1 h2 h3.1 h3.2.1 h3.2.2
        by_cases h4 : f.len = g.len
        · rw [← h4] at hg ⊢
          refine (rsame_row f g hkids a A B c d f.len w hf hg hsf hsg).mono fun _ _ h => h.bool ?_
          by_cases e : f = g
          · rw [e, decide_eq_true rfl, decide_eq_true rfl]
          · rw [decide_eq_false e, decide_eq_false (fun h => e (Prod.ext_iff.1 h).2)]
        · exact (rsame_len a A B _ _ c d w h4).mono fun _ _ h => h.bool (decide_eq_false (fun e => h4 (by rw [show f = g from (Prod.ext_iff.1 e).2]))).symm
      · exact (rsame_val a b A B _ _ c d w (beq_iff_eq.2 h1) (beq_iff_eq.2 h2) h3).mono fun _ _ h => h.bool (decide_eq_false (fun e => h3 (by rw [show a = b from (Prod.ext_iff.1 e).1]; exact ⟨rfl, rfl, rfl⟩))).symm
    · exact (rsame_key a b A B _ _ c d w (beq_iff_eq.2 h1) (beq_eq_false_iff_ne.2 h2)).mono fun _ _ h => h.bool (decide_eq_false (fun e => h2 (by rw [show a = b from (Prod.ext_iff.1 e).1]))).symm
  · exact (rsame_name a b A B _ _ c d w (beq_eq_false_iff_ne.2 h1)).mono fun _ _ h => h.bool (decide_eq_false (fun e => h1 (by rw [show a = b from (Prod.ext_iff.1 e).1]))).symm
theorem rsamet_any (x y : Nd) (cs ds : List Value) (w : World) (hx : LieN w cs x) (hy : LieN w ds y) (hf : Few9 x) (hg : Few9 y) : Calls Try.prog 15 #[.agg cs.toArray, .agg ds.toArray] w (Ans9 (.bool (decide (x = y))) w) := by
  obtain ⟨A, c, rfl, hk⟩ := hx.shape
  obtain ⟨B, d, rfl, hk2⟩ := hy.shape
  exact rsamef_any x.2 y.2 x.1 y.1 A B c d w hk hk2 hf hg
end Go.Proofs.Ytgipnemcmiohlaa

