/- What the laws of package tree want of TreRefC. -/
import Derived.Test.YtgipnemcmiohlaaZ0Drawn
namespace Go.Proofs.Ytgipnemcmiohlaa
open Go.RowKit
set_option linter.unusedSimpArgs false
set_option linter.unusedVariables false
/-- What Right is to tell of a tree whose kids are f. -/
def RightP9 (f : NdF) : Prop := ∀ (a : NdD) (A : Option Addr) (c : Nat) (w : World), RowT w.heap.size w (.slice A f.len c) f → f.size ≤ 1000000 →
    Calls Try.prog 12 #[.agg #[.string (txt a.name), .string (txt a.key), .int .i64 a.kind, .int .u64 (a.num : Int), .string (txt a.text), .slice A f.len c]] w (Ans9 (.bool (rgtX (a, f))) w)
set_option maxRecDepth 100000 in
set_option maxHeartbeats 2000000 in
theorem rright_leaf (f : NdF) (a : NdD) (A : Option Addr) (c : Nat) (w : World) (h0 : a.kind ≠ 0) :
    Calls Try.prog 12 #[.agg #[.string (txt a.name), .string (txt a.key), .int .i64 a.kind, .int .u64 (a.num : Int), .string (txt a.text), .slice A f.len c]] w (Ans9 (.bool (rgtX (a, f))) w) := by
  have hB : Below w.heap.size w (w.alloc (.cells #[.string (txt a.name), .string (txt a.key), .int .i64 a.kind, .int .u64 (a.num : Int), .string (txt a.text), .slice A f.len c] 27)) := (Below.refl _ _).alloc (Nat.le_refl _) _
  have HB0 := Lib.hid hB
  have e1 : (a.kind == 0) = false := beq_eq_false_iff_ne.2 h0
  have e2 : (a.kind != 0) = true := by simp [h0]
  have HV : Hid (rgtX (a, f) = decide (f.len = 0)) := Lib.hid (by unfold rgtX; rw [if_pos h0])
  clear hB h0
  by_cases hl : f.len = 0
  · have e3 : ((f.len : Int) == 0) = true := by simp [hl]
    have HW : Hid (f.len = 0) := Lib.hid hl
    clear hl
    go_enter Try.func12, Try.ntmps12
    go_wp2
    go_ret
    exact ⟨by rw [HV.out, decide_eq_true HW.out]; rfl, HB0.out⟩
  · have e3 : ((f.len : Int) == 0) = false := by simp [hl]
    have HW : Hid (¬ f.len = 0) := Lib.hid hl
    clear hl
    go_enter Try.func12, Try.ntmps12
    go_wp2
    go_ret
    exact ⟨by rw [HV.out, decide_eq_false HW.out]; rfl, HB0.out⟩
set_option maxRecDepth 100000 in
set_option maxHeartbeats 2000000 in
theorem rright_box (f : NdF) (nm ky : List UInt8) (nu : Nat) (tx : List UInt8) (A : Option Addr) (c : Nat) (w : World) (h0 : ¬ (nu = 0 ∧ tx = [])) :
    Calls Try.prog 12 #[.agg #[.string (txt nm), .string (txt ky), .int .i64 0, .int .u64 (nu : Int), .string (txt tx), .slice A f.len c]] w (Ans9 (.bool false) w) := by
  have hB : Below w.heap.size w (w.alloc (.cells #[.string (txt nm), .string (txt ky), .int .i64 0, .int .u64 (nu : Int), .string (txt tx), .slice A f.len c] 27)) := (Below.refl _ _).alloc (Nat.le_refl _) _
  have HB0 := Lib.hid hB
  have tt : (txt tx).toList = tx := txt_toList _
  clear hB
  by_cases h1 : nu = 0
  · subst h1
    have e4 : tx.isEmpty = false := by cases tx with | nil => exact absurd ⟨rfl, rfl⟩ h0 | cons => rfl
    have e5 : (tx == []) = false := by cases tx with | nil => cases e4 | cons => rfl
    clear h0
    go_enter Try.func12, Try.ntmps12
    go_wp2
    go_ret
    exact ⟨rfl, HB0.out⟩
  · have e3 : ((nu : Int) == 0) = false := by simp [h1]
    clear h0
    go_enter Try.func12, Try.ntmps12
    go_wp2
    go_ret
    exact ⟨rfl, HB0.out⟩
theorem okAt_at {f : NdF} {j : Nat} {a1 : NdD} {q : NdF} (hg : f.get? j = some (a1, q)) : okAt f j = (rgtX (a1, q) && (decide (j = 0) || (match f.get? (j - 1) with | none => true | some z => lessX z.1 a1))) := by
  unfold okAt
  rw [hg]
  cases j with
  | zero => simp
  | succ j =>
    simp only [Nat.add_sub_cancel]
    rw [show decide (j + 1 = 0) = false by simp, Bool.false_or]
    cases f.get? j <;> rfl
set_option maxRecDepth 100000 in
set_option maxHeartbeats 4000000 in
theorem rright_row (f : NdF) (hkids : ∀ n a k, f.get? n = some (a, k) → RightP9 k) (nm ky : List UInt8) (A : Option Addr) (c : Nat) (w : World) (hk : RowT w.heap.size w (.slice A f.len c) f) (hsz : f.size ≤ 1000000) :
    Calls Try.prog 12 #[.agg #[.string (txt nm), .string (txt ky), .int .i64 0, .int .u64 0, .string (txt []), .slice A f.len c]] w (Ans9 (.bool (rgtF f)) w) := by
  have hB : Below w.heap.size w (w.alloc (.cells #[.string (txt nm), .string (txt ky), .int .i64 0, .int .u64 0, .string (txt []), .slice A f.len c] 27)) := (Below.refl _ _).alloc (Nat.le_refl _) _
  have HB0 := Lib.hid hB
  have HI := Lib.hid hkids
  have HK : Hid (RowT w.heap.size w (.slice A f.len c) f) := Lib.hid hk
  have HZ : Hid (f.size ≤ 1000000) := Lib.hid hsz
  have tt : (txt []).toList = [] := txt_toList _
  clear hkids hk hsz hB
  go_enter Try.func12, Try.ntmps12
  go_wp2
  go_loopw [3] (fun i wr => ∃ j : Nat, j ≤ f.len ∧ i = .int .i64 (j : Int) ∧ Hid (∀ n, n < j → okAt f n = true) ∧ Blk wr w.heap.size 27 #[.string (txt nm), .string (txt ky), .int .i64 0, .int .u64 0, .string (txt []), .slice A f.len c] ∧ Below w.heap.size w wr) (fun i _ => f.len - (intOf i).toNat)
  case atStart => exact ⟨0, Nat.zero_le _, rfl, Lib.hid (fun n h => by omega), Blk.new _ _ _, HB0.out⟩
  case round =>
    obtain ⟨j, hj, rfl, HL, hP, hB⟩ := hrel
    have p5 : wr.cell? ⟨w.heap.size, 5, none⟩ = some (.slice A f.len c) := (hP.cell 5).trans rfl
    have HBr := Lib.hid hB
    by_cases hlt : j < f.len
    · obtain ⟨a1, q, hg⟩ := Fr.get_some hlt
      have hok := okAt_at hg
      obtain ⟨b, o, A', c', rfl, -, -, hbl, hrow, hcl⟩ := HK.out.at hg
      have hcell : ∀ i u, (ndC a1 (.slice A' q.len c'))[i]? = some u → wr.cell? ⟨b, o + j * 6 + i, none⟩ = some u := fun i u hu => (hB.cell (p := ⟨b, o + j * 6 + i, none⟩) hbl).trans (hcl i u hu)
      have q0 : (wr).cell? ⟨b, o + j * 6, none⟩ = _ := hcell 0 _ rfl
      have q1 : (wr).cell? ⟨b, o + j * 6 + 1, none⟩ = _ := hcell 1 _ rfl
      have q2 : (wr).cell? ⟨b, o + j * 6 + 2, none⟩ = _ := hcell 2 _ rfl
      have q3 : (wr).cell? ⟨b, o + j * 6 + 3, none⟩ = _ := hcell 3 _ rfl
      have q4 : (wr).cell? ⟨b, o + j * 6 + 4, none⟩ = _ := hcell 4 _ rfl
      have q5 : (wr).cell? ⟨b, o + j * 6 + 5, none⟩ = _ := hcell 5 _ rfl
      have i1 : (0 : Int) ≤ (j : Int) := by omega
      have i2 : (j : Int) < (f.len : Int) := by omega
      have i3 : (f.len : Int) ≤ 1000000 := by have := HZ.out; have := Fr.len_size f; omega
      obtain ⟨rb, hrb⟩ : ∃ z, z = rgtX (a1, q) := ⟨_, rfl⟩
      have HI1 : Hid (Calls Try.prog 12 #[.agg #[.string (txt a1.name), .string (txt a1.key), .int .i64 a1.kind, .int .u64 (a1.num : Int), .string (txt a1.text), .slice A' q.len c']] wr (Ans9 (.bool rb) wr)) := Lib.hid (by
        rw [hrb]; exact HI.out j a1 q hg a1 A' c' wr (hrow.under hB (Nat.le_refl _) hB.size) (by have := HZ.out; have := Fr.size_get hg; omega))
      have HC : Hid (∀ i u, (ndC a1 (.slice A' q.len c'))[i]? = some u → w.cell? ⟨b, o + j * 6 + i, none⟩ = some u) := Lib.hid hcl
      have HR : Hid (RowT w.heap.size w (.slice A' q.len c') q) := Lib.hid hrow
      have HG := Lib.hid hg
      have HOK := Lib.hid hok
      have HRB := Lib.hid hrb
      have HP := Lib.hid hP
      have HBL : Hid (b < w.heap.size) := Lib.hid hbl
      clear hcl hg hrow hcell hP hB hok hrb hbl
      go_wp2_with fail
      refine HI1.out.mono ?_
      rintro r w2 ⟨rfl, hb⟩
      have HP2 := Lib.hid (HP.out.below hb HP.out.lt)
      have hB2 := HBr.out.trans (hb.mono HBr.out.size)
      have HB2 := Lib.hid hB2
      have p5' : w2.cell? ⟨w.heap.size, 5, none⟩ = some (.slice (some ⟨b, o, none⟩) f.len c) := (HP2.out.cell 5).trans rfl
      clear hb p5 q0 q1 q2 q3 q4 q5
      cases rb with
      | false =>
        have HF : Hid (rgtF f = false) := Lib.hid (right_none hlt (by rw [HOK.out, ← HRB.out]; rfl))
        clear hB2
        go_wp2_with fail
        go_region
        all_goals go_wp2
        all_goals go_ret
        all_goals exact ⟨by rw [HF.out]; rfl, HB2.out.drew⟩
      | true =>
        by_cases hj0 : j = 0
        · subst hj0
          have HL2 : Hid (∀ n, n < 0 + 1 → okAt f n = true) := Lib.hid (fun n hn => by
            rw [show n = 0 by omega, HOK.out, ← HRB.out]; rfl)
          clear hB2
          go_wp2_with fail
          go_region
          all_goals go_wp2
          all_goals go_roundw
          all_goals first | exact ⟨0 + 1, by omega, by go_num, HL2, HP2.out.below (Below.refl _ _).drew HP2.out.lt, HB2.out.drew⟩ | (simp [intOf]; done) | (simp [intOf]; omega)
        · obtain ⟨m, rfl⟩ : ∃ m, j = m + 1 := ⟨j - 1, by omega⟩
          obtain ⟨a0, k0, hg0⟩ := Fr.get_some (f := f) (n := m) (by omega)
          obtain ⟨b1, o1, A0, c0, ee, -, -, -, hrow0, hcl0⟩ := HK.out.at hg0
          injection ee with ee
          injection ee with e1 e2 e3
          subst e1 e2
          obtain ⟨lb, hlb⟩ : ∃ z, z = lessX a0 a1 := ⟨_, rfl⟩
          have hok2 : okAt f (m + 1) = lb := by
            rw [HOK.out, ← HRB.out, hlb]
            simp [hg0]
          have HOK2 := Lib.hid hok2
          have L0 : LieN w2.drew (ndC a0 (.slice A0 k0.len c0)) (a0, k0) := LieB.make (hrow0.under hB2.drew (Nat.le_refl _) hB2.size)
          have L1 : LieN w2.drew (ndC a1 (.slice A' q.len c')) (a1, q) := LieB.make (HR.out.under hB2.drew (Nat.le_refl _) hB2.size)
          have HLc : Hid (Calls Try.prog 19 #[.agg #[.string (txt a0.name), .string (txt a0.key), .int .i64 a0.kind, .int .u64 (a0.num : Int), .string (txt a0.text), .slice A0 k0.len c0], .agg #[.string (txt a1.name), .string (txt a1.key), .int .i64 a1.kind, .int .u64 (a1.num : Int), .string (txt a1.text), .slice A' q.len c']] w2.drew (Ans9 (.bool lb) w2.drew)) := Lib.hid (by
            rw [hlb]; exact rless_any (a0, k0) (a1, q) _ _ w2.drew L0 L1)
          have HQ1 := Lib.hid (And.intro (HP2.out.below (Below.refl _ _).drew HP2.out.lt) (And.intro (fun i u hu => (hB2.drew.cell (p := ⟨b, o + m * 6 + i, none⟩) HBL.out).trans (hcl0 i u hu)) (fun i u hu => (hB2.drew.cell (p := ⟨b, o + (m + 1) * 6 + i, none⟩) HBL.out).trans (HC.out i u hu))))
          have HBd := Lib.hid hB2.drew
          have hm : (0 : Int) ≤ (m : Int) := by omega
          have hn1 : (0 : Int) ≤ (m : Int) + 1 := by omega
          have hn2 : (m : Int) + 1 < (f.len : Int) := by omega
          have hm2 : (m : Int) < (f.len : Int) := by omega
          have jw : IntKind.i64.wrap (m : Int) = (m : Int) := Go.IntWalk.i64_in _ (by omega)
          have HJ := Lib.hid jw
          have HL3 : Hid (lb = true → ∀ n, n < m + 1 + 1 → okAt f n = true) := Lib.hid (fun h n hn => by
            by_cases e : n = m + 1
            · rw [e, HOK2.out, h]
            · exact HL.out n (by omega))
          clear hB2 hcl0 hrow0 hg0 hlb hok2 L0 L1 jw hj0
          go_wp2_with fail
          refine wp_region_noPanic ?_
          refine wp_region_held_drew (S := fun _ => True) (by kernel_rfl) trivial (fun hS => ?_)
          refine wpAnyH_take (i := 0) (oi := ?o1_0_1) (v := ?v1_0_1) ?i1_0_1 (by kernel_rfl) (by kernel_rfl) (by kernel_rfl) (fun _ _ _ h => h) (Or.inl ⟨?g1_0_1, ?y1_0_1⟩) hS ?_
          case i1_0_1 => simp only [List.getElem?_toArray, List.getElem?_cons_succ, List.getElem?_cons_zero]; rfl
          case g1_0_1 => rfl
          case y1_0_1 => (intro w hSw; (go_simp <;> with_reducible rfl))
          (try simp only [Act.put, List.setIfInBounds_toArray, List.set_cons_zero, List.set_cons_succ])
          refine wpAnyH_take (i := 1) (oi := ?o1_1_2) (v := ?v1_1_2) ?i1_1_2 (by kernel_rfl) (by kernel_rfl) (by kernel_rfl) (fun _ _ _ h => h) (Or.inl ⟨?g1_1_2, ?y1_1_2⟩) hS ?_
          case i1_1_2 => simp only [List.getElem?_toArray, List.getElem?_cons_succ, List.getElem?_cons_zero]; rfl
          case g1_1_2 => rfl
          case y1_1_2 => (intro w hSw; (go_simp <;> with_reducible rfl))
          (try simp only [Act.put, List.setIfInBounds_toArray, List.set_cons_zero, List.set_cons_succ])
          refine wpAnyH_take (i := 2) (oi := ?o1_2_3) (v := ?v1_2_3) ?i1_2_3 (by kernel_rfl) (by kernel_rfl) (by kernel_rfl) (fun _ _ _ h => h) (Or.inl ⟨?g1_2_3, ?y1_2_3⟩) hS ?_
          case i1_2_3 => simp only [List.getElem?_toArray, List.getElem?_cons_succ, List.getElem?_cons_zero]; rfl
          case g1_2_3 => rfl
          case y1_2_3 => (intro w hSw; (go_simp <;> with_reducible rfl))
          (try simp only [Act.put, List.setIfInBounds_toArray, List.set_cons_zero, List.set_cons_succ])
          refine wpAnyH_take (i := 3) (oi := ?o1_3_4) (v := ?v1_3_4) ?i1_3_4 (by kernel_rfl) (by kernel_rfl) (by kernel_rfl) (fun _ _ _ h => h) (Or.inl ⟨?g1_3_4, ?y1_3_4⟩) hS ?_
          case i1_3_4 => simp only [List.getElem?_toArray, List.getElem?_cons_succ, List.getElem?_cons_zero]; rfl
          case g1_3_4 => rfl
          case y1_3_4 => (intro w hSw; (go_simp <;> with_reducible rfl))
          (try simp only [Act.put, List.setIfInBounds_toArray, List.set_cons_zero, List.set_cons_succ])
          refine wpAnyH_take (i := 4) (oi := ?o1_4_5) (v := ?v1_4_5) ?i1_4_5 (by kernel_rfl) (by kernel_rfl) (by kernel_rfl) (fun _ _ _ h => h) (Or.inl ⟨?g1_4_5, ?y1_4_5⟩) hS ?_
          case i1_4_5 => simp only [List.getElem?_toArray, List.getElem?_cons_succ, List.getElem?_cons_zero]; rfl
          case g1_4_5 => rfl
          case y1_4_5 => (intro w hSw; (go_simp <;> with_reducible rfl))
          (try simp only [Act.put, List.setIfInBounds_toArray, List.set_cons_zero, List.set_cons_succ])
          refine wpAnyH_take (i := 5) (oi := ?o1_5_6) (v := ?v1_5_6) ?i1_5_6 (by kernel_rfl) (by kernel_rfl) (by kernel_rfl) (fun _ _ _ h => h) (Or.inl ⟨?g1_5_6, ?y1_5_6⟩) hS ?_
          case i1_5_6 => simp only [List.getElem?_toArray, List.getElem?_cons_succ, List.getElem?_cons_zero]; rfl
          case g1_5_6 => rfl
          case y1_5_6 => (intro w hSw; (go_simp <;> with_reducible rfl))
          (try simp only [Act.put, List.setIfInBounds_toArray, List.set_cons_zero, List.set_cons_succ])
          refine held_more (S' := fun w' => Blk w' w.heap.size 27 #[.string (txt nm), .string (txt ky), .int .i64 0, .int .u64 0, .string (txt []), .slice (some ⟨b, o, none⟩) f.len c] ∧ (∀ i u, (ndC a0 (.slice A0 k0.len c0))[i]? = some u → w'.cell? ⟨b, o + m * 6 + i, none⟩ = some u) ∧ (∀ i u, (ndC a1 (.slice A' q.len c'))[i]? = some u → w'.cell? ⟨b, o + (m + 1) * 6 + i, none⟩ = some u)) (fun _ _ => trivial) _ _ _ _ ?_
          replace hS := HQ1.out
          refine wpAnyH_take (i := 6) (oi := ?o1_6_7) (v := ?v1_6_7) ?i1_6_7 (by kernel_rfl) (by kernel_rfl) (by kernel_rfl) (fun _ _ _ h => h) (Or.inl ⟨?g1_6_7, ?y1_6_7⟩) hS ?_
          case i1_6_7 => simp only [List.getElem?_toArray, List.getElem?_cons_succ, List.getElem?_cons_zero]; rfl
          case g1_6_7 => rfl
          case y1_6_7 => (intro w hSw; (go_simp <;> with_reducible rfl))
          (try simp only [Act.put, List.setIfInBounds_toArray, List.set_cons_zero, List.set_cons_succ])
          refine wpAnyH_take (i := 7) (oi := ?o1_7_8) (v := ?v1_7_8) ?i1_7_8 (by kernel_rfl) (by kernel_rfl) (by kernel_rfl) (fun _ _ _ h => h) (Or.inl ⟨?g1_7_8, ?y1_7_8⟩) hS ?_
          case i1_7_8 => simp only [List.getElem?_toArray, List.getElem?_cons_succ, List.getElem?_cons_zero]; rfl
          case g1_7_8 => rfl
          case y1_7_8 => (intro w hSw; have q5 := (hSw.1.cell 5).trans rfl; (go_simp <;> with_reducible rfl))
          (try simp only [Act.put, List.setIfInBounds_toArray, List.set_cons_zero, List.set_cons_succ])
          refine wpAnyH_take (i := 8) (oi := ?o1_8_9) (v := ?v1_8_9) ?i1_8_9 (by kernel_rfl) (by kernel_rfl) (by kernel_rfl) (fun _ _ _ h => h) (Or.inl ⟨?g1_8_9, ?y1_8_9⟩) hS ?_
          case i1_8_9 => simp only [List.getElem?_toArray, List.getElem?_cons_succ, List.getElem?_cons_zero]; rfl
          case g1_8_9 => rfl
          case y1_8_9 => (intro w hSw; (go_simp <;> with_reducible rfl))
          (try simp only [Act.put, List.setIfInBounds_toArray, List.set_cons_zero, List.set_cons_succ])
          refine wpAnyH_take (i := 9) (oi := ?o1_9_10) (v := ?v1_9_10) ?i1_9_10 (by kernel_rfl) (by kernel_rfl) (by kernel_rfl) (fun _ _ _ h => h) (Or.inl ⟨?g1_9_10, ?y1_9_10⟩) hS ?_
          case i1_9_10 => simp only [List.getElem?_toArray, List.getElem?_cons_succ, List.getElem?_cons_zero]; rfl
          case g1_9_10 => rfl
          case y1_9_10 => (intro w hSw; (go_simp <;> with_reducible rfl))
          (try simp only [Act.put, List.setIfInBounds_toArray, List.set_cons_zero, List.set_cons_succ])
          refine wpAnyH_take (i := 10) (oi := ?o1_10_11) (v := ?v1_10_11) ?i1_10_11 (by kernel_rfl) (by kernel_rfl) (by kernel_rfl) (fun _ _ _ h => h) (Or.inl ⟨?g1_10_11, ?y1_10_11⟩) hS ?_
          case i1_10_11 => simp only [List.getElem?_toArray, List.getElem?_cons_succ, List.getElem?_cons_zero]; rfl
          case g1_10_11 => rfl
          case y1_10_11 => (intro w hSw; have jw := HJ.out; (go_simp <;> with_reducible rfl))
          (try simp only [Act.put, List.setIfInBounds_toArray, List.set_cons_zero, List.set_cons_succ])
          refine wpAnyH_take (i := 11) (oi := ?o1_11_12) (v := ?v1_11_12) ?i1_11_12 (by kernel_rfl) (by kernel_rfl) (by kernel_rfl) (fun _ _ _ h => h) (Or.inl ⟨?g1_11_12, ?y1_11_12⟩) hS ?_
          case i1_11_12 => simp only [List.getElem?_toArray, List.getElem?_cons_succ, List.getElem?_cons_zero]; rfl
          case g1_11_12 => rfl
          case y1_11_12 => (intro w hSw; have u0 : w.cell? ⟨b, o + m * 6, none⟩ = _ := hSw.2.1 0 _ rfl; have u1 := hSw.2.1 1 _ rfl; have u2 := hSw.2.1 2 _ rfl; have u3 := hSw.2.1 3 _ rfl; have u4 := hSw.2.1 4 _ rfl; have u5 := hSw.2.1 5 _ rfl; (go_simp <;> with_reducible rfl))
          (try simp only [Act.put, List.setIfInBounds_toArray, List.set_cons_zero, List.set_cons_succ])
          refine wpAnyH_take (i := 12) (oi := ?o1_12_13) (v := ?v1_12_13) ?i1_12_13 (by kernel_rfl) (by kernel_rfl) (by kernel_rfl) (fun _ _ _ h => h) (Or.inl ⟨?g1_12_13, ?y1_12_13⟩) hS ?_
          case i1_12_13 => simp only [List.getElem?_toArray, List.getElem?_cons_succ, List.getElem?_cons_zero]; rfl
          case g1_12_13 => rfl
          case y1_12_13 => (intro w hSw; (go_simp <;> with_reducible rfl))
          (try simp only [Act.put, List.setIfInBounds_toArray, List.set_cons_zero, List.set_cons_succ])
          refine wpAnyH_take (i := 13) (oi := ?o1_13_14) (v := ?v1_13_14) ?i1_13_14 (by kernel_rfl) (by kernel_rfl) (by kernel_rfl) (fun _ _ _ h => h) (Or.inl ⟨?g1_13_14, ?y1_13_14⟩) hS ?_
          case i1_13_14 => simp only [List.getElem?_toArray, List.getElem?_cons_succ, List.getElem?_cons_zero]; rfl
          case g1_13_14 => rfl
          case y1_13_14 => (intro w hSw; have q5 := (hSw.1.cell 5).trans rfl; (go_simp <;> with_reducible rfl))
          (try simp only [Act.put, List.setIfInBounds_toArray, List.set_cons_zero, List.set_cons_succ])
          refine wpAnyH_take (i := 14) (oi := ?o1_14_15) (v := ?v1_14_15) ?i1_14_15 (by kernel_rfl) (by kernel_rfl) (by kernel_rfl) (fun _ _ _ h => h) (Or.inl ⟨?g1_14_15, ?y1_14_15⟩) hS ?_
          case i1_14_15 => simp only [List.getElem?_toArray, List.getElem?_cons_succ, List.getElem?_cons_zero]; rfl
          case g1_14_15 => rfl
          case y1_14_15 => (intro w hSw; (go_simp <;> with_reducible rfl))
          (try simp only [Act.put, List.setIfInBounds_toArray, List.set_cons_zero, List.set_cons_succ])
          refine wpAnyH_take (i := 15) (oi := ?o1_15_16) (v := ?v1_15_16) ?i1_15_16 (by kernel_rfl) (by kernel_rfl) (by kernel_rfl) (fun _ _ _ h => h) (Or.inl ⟨?g1_15_16, ?y1_15_16⟩) hS ?_
          case i1_15_16 => simp only [List.getElem?_toArray, List.getElem?_cons_succ, List.getElem?_cons_zero]; rfl
          case g1_15_16 => rfl
          case y1_15_16 => (intro w hSw; (go_simp <;> with_reducible rfl))
          (try simp only [Act.put, List.setIfInBounds_toArray, List.set_cons_zero, List.set_cons_succ])
          refine wpAnyH_take (i := 16) (oi := ?o1_16_17) (v := ?v1_16_17) ?i1_16_17 (by kernel_rfl) (by kernel_rfl) (by kernel_rfl) (fun _ _ _ h => h) (Or.inl ⟨?g1_16_17, ?y1_16_17⟩) hS ?_
          case i1_16_17 => simp only [List.getElem?_toArray, List.getElem?_cons_succ, List.getElem?_cons_zero]; rfl
          case g1_16_17 => rfl
          case y1_16_17 => (intro w hSw; have u0 : w.cell? ⟨b, o + (m + 1) * 6, none⟩ = _ := hSw.2.2 0 _ rfl; have u1 := hSw.2.2 1 _ rfl; have u2 := hSw.2.2 2 _ rfl; have u3 := hSw.2.2 3 _ rfl; have u4 := hSw.2.2 4 _ rfl; have u5 := hSw.2.2 5 _ rfl; (go_simp <;> with_reducible rfl))
          (try simp only [Act.put, List.setIfInBounds_toArray, List.set_cons_zero, List.set_cons_succ])
          refine wpAnyH_ready (rs := [17]) (by kernel_rfl) (by simp) ?_
          refine (AllReadyH.cons (o := ?or1_18_17) ?ir1_18_17 (fun K hK => ?str1_18_17) AllReadyH.nil)
          case ir1_18_17 => simp only [List.getElem?_toArray, List.getElem?_cons_succ, List.getElem?_cons_zero]; rfl
          rw [if_pos (by rfl)]
          go_simp
          refine HLc.out.mono ?_
          rintro r w6 ⟨rfl, hb6⟩
          have HX6 := Lib.hid (HQ1.out.1.below hb6 HQ1.out.1.lt)
          have HB6 := Lib.hid (HBd.out.trans (hb6.mono HBd.out.size))
          have HW6 := Lib.hid hb6
          clear hb6
          go_wp2_with fail
          refine hK.out _ _ ?sr1_18_17 (fun hS => ?_)
          case sr1_18_17 => (exact ⟨HX6.out, fun i u hu => (HW6.out.cell (p := ⟨b, o + m * 6 + i, none⟩) (Nat.lt_of_lt_of_le HBL.out HBd.out.size)).trans (HQ1.out.2.1 i u hu), fun i u hu => (HW6.out.cell (p := ⟨b, o + (m + 1) * 6 + i, none⟩) (Nat.lt_of_lt_of_le HBL.out HBd.out.size)).trans (HQ1.out.2.2 i u hu)⟩)
          clear hK K
          (try simp only [Act.put, List.setIfInBounds_toArray, List.set_cons_zero, List.set_cons_succ])
          refine wpAnyH_take (i := 18) (oi := ?o1_18_19) (v := ?v1_18_19) ?i1_18_19 (by kernel_rfl) (by kernel_rfl) (by kernel_rfl) (fun _ _ _ h => h) (Or.inl ⟨?g1_18_19, ?y1_18_19⟩) hS ?_
          case i1_18_19 => simp only [List.getElem?_toArray, List.getElem?_cons_succ, List.getElem?_cons_zero]; rfl
          case g1_18_19 => rfl
          case y1_18_19 => (intro w hSw; (go_simp <;> with_reducible rfl))
          (try simp only [Act.put, List.setIfInBounds_toArray, List.set_cons_zero, List.set_cons_succ])
          refine wpAnyH_take (i := 19) (oi := ?o1_19_20) (v := ?v1_19_20) ?i1_19_20 (by kernel_rfl) (by kernel_rfl) (by kernel_rfl) (fun _ _ _ h => h) (Or.inl ⟨?g1_19_20, ?y1_19_20⟩) hS ?_
          case i1_19_20 => simp only [List.getElem?_toArray, List.getElem?_cons_succ, List.getElem?_cons_zero]; rfl
          case g1_19_20 => rfl
          case y1_19_20 => (intro w hSw; (go_simp <;> with_reducible rfl))
          (try simp only [Act.put, List.setIfInBounds_toArray, List.set_cons_zero, List.set_cons_succ])
          refine wpAnyH_take (i := 20) (oi := ?o1_20_21) (v := ?v1_20_21) ?i1_20_21 (by kernel_rfl) (by kernel_rfl) (by kernel_rfl) (fun _ _ _ h => h) (Or.inl ⟨?g1_20_21, ?y1_20_21⟩) hS ?_
          case i1_20_21 => simp only [List.getElem?_toArray, List.getElem?_cons_succ, List.getElem?_cons_zero]; rfl
          case g1_20_21 => rfl
          case y1_20_21 => (intro w hSw; (go_simp <;> with_reducible rfl))
          (try simp only [Act.put, List.setIfInBounds_toArray, List.set_cons_zero, List.set_cons_succ])
          refine wpAnyH_done (by kernel_rfl) ?_ _
          refine NoPanic.normal ?_
          cases lb with
          | false =>
            have HF : Hid (rgtF f = false) := Lib.hid (right_none hlt HOK2.out)
            clear hS
            go_wp2
            go_ret
            exact ⟨by rw [HF.out]; rfl, HB6.out⟩
          | true =>
            have HL2 := Lib.hid (HL3.out rfl)
            clear hS
            go_wp2
            go_roundw
            case rel => exact ⟨m + 1 + 1, by omega, by go_num, HL2, HX6.out, HB6.out⟩
            case measure => simp [intOf]; omega
    · have i2 : ¬ (j : Int) < (f.len : Int) := by omega
      have HF : Hid (rgtF f = true) := Lib.hid (right_at.2 (fun n hn => HL.out n (by omega)))
      clear hP hB
      go_wp2
      go_ret
      exact ⟨by rw [HF.out]; rfl, HBr.out⟩
theorem rrightf_any (f : NdF) : RightP9 f := by
  refine Fr.byKids (P := RightP9) ?_ f
  clear f
  intro f hkids a A c w hk hsz
  by_cases h0 : a.kind = 0
  · obtain ⟨nm, ky, kd, nu, tx⟩ := a
    simp only at h0
    subst h0
    by_cases h1 : nu = 0 ∧ tx = []
    · obtain ⟨rfl, rfl⟩ := h1
      have e : rgtX ((⟨nm, ky, 0, 0, []⟩ : NdD), f) = rgtF f := by unfold rgtX; simp
      rw [e]
      exact rright_row f hkids nm ky A c w hk hsz
    · have e : rgtX ((⟨nm, ky, 0, nu, tx⟩ : NdD), f) = false := by unfold rgtX; simp; intro h2 h3; exact absurd ⟨h2, h3⟩ h1
      rw [e]
      exact rright_box f nm ky nu tx A c w h1
  · exact rright_leaf f a A c w h0
theorem rright_any (x : Nd) (cs : List Value) (w : World) (hx : LieN w cs x) (hf : Few9 x) : Calls Try.prog 12 #[.agg cs.toArray] w (Ans9 (.bool (rgtX x)) w) := by
  obtain ⟨A, c, rfl, hk⟩ := hx.shape
  exact rrightf_any x.2 x.1 A c w hk hf
end Go.Proofs.Ytgipnemcmiohlaa

