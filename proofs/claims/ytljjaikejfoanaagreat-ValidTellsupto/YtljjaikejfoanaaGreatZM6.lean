/- What ValidTells stands on: TreRefC, TreBox, TrvMem. -/
import Derived.Test.YtljjaikejfoanaaGreatZM0
import Derived.Test.YtljjaikejfoanaaGreatZM5
import Derived.Laws.ResultCell
import Derived.Deep.QuietTactic
import Derived.BigQuiet
import Derived.Sort.Grow
set_option linter.unusedSimpArgs false
set_option linter.unusedVariables false
namespace Go.Proofs.YtljjaikejfoanaaGreat
open Go.RowKit
def RightP9 (f : NdF) : Prop := ∀ (a : NdD) (A : Option Addr) (c : Nat) (w : World), RowT w.heap.size w (.slice A f.len c) f → f.size ≤ 1000000 →
    Calls Tryz.prog 21 #[.agg #[.string (txt a.name), .string (txt a.key), .int .i64 a.kind, .int .u64 (a.num : Int), .string (txt a.text), .slice A f.len c]] w (Ans9 (.bool (rgtX (a, f))) w)
set_option maxRecDepth 100000 in
set_option maxHeartbeats 2000000 in
theorem rright_leaf (f : NdF) (a : NdD) (A : Option Addr) (c : Nat) (w : World) (h0 : a.kind ≠ 0) :
    Calls Tryz.prog 21 #[.agg #[.string (txt a.name), .string (txt a.key), .int .i64 a.kind, .int .u64 (a.num : Int), .string (txt a.text), .slice A f.len c]] w (Ans9 (.bool (rgtX (a, f))) w) := by
  have hB : Below w.heap.size w (w.alloc (.cells #[.string (txt a.name), .string (txt a.key), .int .i64 a.kind, .int .u64 (a.num : Int), .string (txt a.text), .slice A f.len c] 27)) := (Below.refl _ _).alloc (Nat.le_refl _) _
  have HB0 := Lib.hid hB
  have e1 : (a.kind == 0) = false := beq_eq_false_iff_ne.2 h0
  have e2 : (a.kind != 0) = true := by simp [h0]
  have HV : Hid (rgtX (a, f) = decide (f.len = 0)) := Lib.hid (by unfold rgtX; rw [if_pos h0])
  clear hB h0
  by_cases hl : f.len = 0
  · have e3 : ((f.len : Int) == 0) = true := by simp [hl]
    have HW : Hid (f.len = 0) := Lib.hid hl
    clear hl
    go_enter Tryz.func21, Tryz.ntmps21
    go_wp2
    go_ret
    exact ⟨by rw [HV.out, decide_eq_true HW.out]; rfl, HB0.out⟩
  · have e3 : ((f.len : Int) == 0) = false := by simp [hl]
    have HW : Hid (¬ f.len = 0) := Lib.hid hl
    clear hl
    go_enter Tryz.func21, Tryz.ntmps21
    go_wp2
    go_ret
    exact ⟨by rw [HV.out, decide_eq_false HW.out]; rfl, HB0.out⟩
set_option maxRecDepth 100000 in
set_option maxHeartbeats 2000000 in
theorem rright_box (f : NdF) (nm ky : List UInt8) (nu : Nat) (tx : List UInt8) (A : Option Addr) (c : Nat) (w : World) (h0 : ¬ (nu = 0 ∧ tx = [])) :
    Calls Tryz.prog 21 #[.agg #[.string (txt nm), .string (txt ky), .int .i64 0, .int .u64 (nu : Int), .string (txt tx), .slice A f.len c]] w (Ans9 (.bool false) w) := by
  have hB : Below w.heap.size w (w.alloc (.cells #[.string (txt nm), .string (txt ky), .int .i64 0, .int .u64 (nu : Int), .string (txt tx), .slice A f.len c] 27)) := (Below.refl _ _).alloc (Nat.le_refl _) _
  have HB0 := Lib.hid hB
  have tt : (txt tx).toList = tx := txt_toList _
  clear hB
  by_cases h1 : nu = 0
  · subst h1
    have e4 : tx.isEmpty = false := by cases tx with | nil => exact absurd ⟨rfl, rfl⟩ h0 | cons => rfl
    have e5 : (tx == []) = false := by cases tx with | nil => cases e4 | cons => rfl
    clear h0
    go_enter Tryz.func21, Tryz.ntmps21
    go_wp2
    go_ret
    exact ⟨rfl, HB0.out⟩
  · have e3 : ((nu : Int) == 0) = false := by simp [h1]
    clear h0
    go_enter Tryz.func21, Tryz.ntmps21
    go_wp2
    go_ret
    exact ⟨rfl, HB0.out⟩
theorem okAt_at {f : NdF} {j : Nat} {a1 : NdD} {q : NdF} (hg : f.get? j = some (a1, q)) : okAt f j = (rgtX (a1, q) && (decide (j = 0) || (match f.get? (j - 1) with | none => true | some z => lessX z.1 a1))) := by
  unfold okAt
  rw [hg]
  cases j with
  | zero => simp
  | succ j =>
    simp only [Nat.add_sub_cancel]
    rw [show decide (j + 1 = 0) = false by simp, Bool.false_or]
    cases f.get? j <;> rfl
set_option maxRecDepth 100000 in
set_option maxHeartbeats 4000000 in
theorem rright_row (f : NdF) (hkids : ∀ n a k, f.get? n = some (a, k) → RightP9 k) (nm ky : List UInt8) (A : Option Addr) (c : Nat) (w : World) (hk : RowT w.heap.size w (.slice A f.len c) f) (hsz : f.size ≤ 1000000) :
    Calls Tryz.prog 21 #[.agg #[.string (txt nm), .string (txt ky), .int .i64 0, .int .u64 0, .string (txt []), .slice A f.len c]] w (Ans9 (.bool (rgtF f)) w) := by
  have hB : Below w.heap.size w (w.alloc (.cells #[.string (txt nm), .string (txt ky), .int .i64 0, .int .u64 0, .string (txt []), .slice A f.len c] 27)) := (Below.refl _ _).alloc (Nat.le_refl _) _
  have HB0 := Lib.hid hB
  have HI := Lib.hid hkids
  have HK : Hid (RowT w.heap.size w (.slice A f.len c) f) := Lib.hid hk
  have HZ : Hid (f.size ≤ 1000000) := Lib.hid hsz
  have tt : (txt []).toList = [] := txt_toList _
  clear hkids hk hsz hB
  go_enter Tryz.func21, Tryz.ntmps21
  go_wp2
  go_loopw [3] (fun i wr => ∃ j : Nat, j ≤ f.len ∧ i = .int .i64 (j : Int) ∧ Hid (∀ n, n < j → okAt f n = true) ∧ Blk wr w.heap.size 27 #[.string (txt nm), .string (txt ky), .int .i64 0, .int .u64 0, .string (txt []), .slice A f.len c] ∧ Below w.heap.size w wr) (fun i _ => f.len - (intOf i).toNat)
  case atStart => exact ⟨0, Nat.zero_le _, rfl, Lib.hid (fun n h => by omega), Blk.new _ _ _, HB0.out⟩
  case round =>
    obtain ⟨j, hj, rfl, HL, hP, hB⟩ := hrel
    have p5 : wr.cell? ⟨w.heap.size, 5, none⟩ = some (.slice A f.len c) := (hP.cell 5).trans rfl
    have HBr := Lib.hid hB
    by_cases hlt : j < f.len
    · obtain ⟨a1, q, hg⟩ := Fr.get_some hlt
      have hok := okAt_at hg
      obtain ⟨b, o, A', c', rfl, -, -, hbl, hrow, hcl⟩ := HK.out.at hg
      have hcell : ∀ i u, (ndC a1 (.slice A' q.len c'))[i]? = some u → wr.cell? ⟨b, o + j * 6 + i, none⟩ = some u := fun i u hu => (hB.cell (p := ⟨b, o + j * 6 + i, none⟩) hbl).trans (hcl i u hu)
      have q0 : (wr).cell? ⟨b, o + j * 6, none⟩ = _ := hcell 0 _ rfl
      have q1 : (wr).cell? ⟨b, o + j * 6 + 1, none⟩ = _ := hcell 1 _ rfl
      have q2 : (wr).cell? ⟨b, o + j * 6 + 2, none⟩ = _ := hcell 2 _ rfl
      have q3 : (wr).cell? ⟨b, o + j * 6 + 3, none⟩ = _ := hcell 3 _ rfl
      have q4 : (wr).cell? ⟨b, o + j * 6 + 4, none⟩ = _ := hcell 4 _ rfl
      have q5 : (wr).cell? ⟨b, o + j * 6 + 5, none⟩ = _ := hcell 5 _ rfl
      have i1 : (0 : Int) ≤ (j : Int) := by omega
      have i2 : (j : Int) < (f.len : Int) := by omega
      have i3 : (f.len : Int) ≤ 1000000 := by have := HZ.out; have := Fr.len_size f; omega
      obtain ⟨rb, hrb⟩ : ∃ z, z = rgtX (a1, q) := ⟨_, rfl⟩
      have HI1 : Hid (Calls Tryz.prog 21 #[.agg #[.string (txt a1.name), .string (txt a1.key), .int .i64 a1.kind, .int .u64 (a1.num : Int), .string (txt a1.text), .slice A' q.len c']] wr (Ans9 (.bool rb) wr)) := Lib.hid (by
        rw [hrb]; exact HI.out j a1 q hg a1 A' c' wr (hrow.under hB (Nat.le_refl _) hB.size) (by have := HZ.out; have := Fr.size_get hg; omega))
      have HC : Hid (∀ i u, (ndC a1 (.slice A' q.len c'))[i]? = some u → w.cell? ⟨b, o + j * 6 + i, none⟩ = some u) := Lib.hid hcl
      have HR : Hid (RowT w.heap.size w (.slice A' q.len c') q) := Lib.hid hrow
      have HG := Lib.hid hg
      have HOK := Lib.hid hok
      have HRB := Lib.hid hrb
      have HP := Lib.hid hP
      have HBL : Hid (b < w.heap.size) := Lib.hid hbl
      clear hcl hg hrow hcell hP hB hok hrb hbl
      go_wp2_with fail
      refine HI1.out.mono ?_
      rintro r w2 ⟨rfl, hb⟩
      have HP2 := Lib.hid (HP.out.below hb HP.out.lt)
      have hB2 := HBr.out.trans (hb.mono HBr.out.size)
      have HB2 := Lib.hid hB2
      have p5' : w2.cell? ⟨w.heap.size, 5, none⟩ = some (.slice (some ⟨b, o, none⟩) f.len c) := (HP2.out.cell 5).trans rfl
      clear hb p5 q0 q1 q2 q3 q4 q5
      cases rb with
      | false =>
        have HF : Hid (rgtF f = false) := Lib.hid (right_none hlt (by rw [HOK.out, ← HRB.out]; rfl))
        clear hB2
        go_wp2_with fail
        go_region
        all_goals go_wp2
        all_goals go_ret
        all_goals exact ⟨by rw [HF.out]; rfl, HB2.out.drew⟩
      | true =>
        by_cases hj0 : j = 0
        · subst hj0
          have HL2 : Hid (∀ n, n < 0 + 1 → okAt f n = true) := Lib.hid (fun n hn => by
            rw [show n = 0 by omega, HOK.out, ← HRB.out]; rfl)
          clear hB2
          go_wp2_with fail
          go_region
          all_goals go_wp2
          all_goals go_roundw
          all_goals first | exact ⟨0 + 1, by omega, by go_num, HL2, HP2.out.below (Below.refl _ _).drew HP2.out.lt, HB2.out.drew⟩ | (simp [intOf]; done) | (simp [intOf]; omega)
        · obtain ⟨m, rfl⟩ : ∃ m, j = m + 1 := ⟨j - 1, by omega⟩
          obtain ⟨a0, k0, hg0⟩ := Fr.get_some (f := f) (n := m) (by omega)
          obtain ⟨b1, o1, A0, c0, ee, -, -, -, hrow0, hcl0⟩ := HK.out.at hg0
          injection ee with ee
          injection ee with e1 e2 e3
          subst e1 e2
          obtain ⟨lb, hlb⟩ : ∃ z, z = lessX a0 a1 := ⟨_, rfl⟩
          have hok2 : okAt f (m + 1) = lb := by
            rw [HOK.out, ← HRB.out, hlb]
            simp [hg0]
          have HOK2 := Lib.hid hok2
          have L0 : LieN w2.drew (ndC a0 (.slice A0 k0.len c0)) (a0, k0) := LieB.make (hrow0.under hB2.drew (Nat.le_refl _) hB2.size)
          have L1 : LieN w2.drew (ndC a1 (.slice A' q.len c')) (a1, q) := LieB.make (HR.out.under hB2.drew (Nat.le_refl _) hB2.size)
          have HLc : Hid (Calls Tryz.prog 34 #[.agg #[.string (txt a0.name), .string (txt a0.key), .int .i64 a0.kind, .int .u64 (a0.num : Int), .string (txt a0.text), .slice A0 k0.len c0], .agg #[.string (txt a1.name), .string (txt a1.key), .int .i64 a1.kind, .int .u64 (a1.num : Int), .string (txt a1.text), .slice A' q.len c']] w2.drew (Ans9 (.bool lb) w2.drew)) := Lib.hid (by
            rw [hlb]; exact rless_any (a0, k0) (a1, q) _ _ w2.drew L0 L1)
          have HQ1 := Lib.hid (And.intro (HP2.out.below (Below.refl _ _).drew HP2.out.lt) (And.intro (fun i u hu => (hB2.drew.cell (p := ⟨b, o + m * 6 + i, none⟩) HBL.out).trans (hcl0 i u hu)) (fun i u hu => (hB2.drew.cell (p := ⟨b, o + (m + 1) * 6 + i, none⟩) HBL.out).trans (HC.out i u hu))))
          have HBd := Lib.hid hB2.drew
          have hm : (0 : Int) ≤ (m : Int) := by omega
          have hn1 : (0 : Int) ≤ (m : Int) + 1 := by omega
          have hn2 : (m : Int) + 1 < (f.len : Int) := by omega
          have hm2 : (m : Int) < (f.len : Int) := by omega
          have jw : IntKind.i64.wrap (m : Int) = (m : Int) := Go.IntWalk.i64_in _ (by omega)
          have HJ := Lib.hid jw
          have HL3 : Hid (lb = true → ∀ n, n < m + 1 + 1 → okAt f n = true) := Lib.hid (fun h n hn => by
            by_cases e : n = m + 1
            · rw [e, HOK2.out, h]
            · exact HL.out n (by omega))
          clear hB2 hcl0 hrow0 hg0 hlb hok2 L0 L1 jw hj0
          go_wp2_with fail
          refine wp_region_noPanic ?_
          refine wp_region_held_drew (S := fun _ => True) (by kernel_rfl) trivial (fun hS => ?_)
          refine wpAnyH_take (i := 0) (oi := ?o_0) (v := ?v_0) ?i_0 (by kernel_rfl) (by kernel_rfl) (by kernel_rfl) (fun _ _ _ h => h) (Or.inl ⟨?g_0, ?y_0⟩) hS ?_
          case i_0 => simp only [layG]; rfl
          case g_0 => rfl
          case y_0 => (intro w hSw; (go_simp <;> with_reducible rfl))
          (try simp only [Act.put, layS])
          refine wpAnyH_take (i := 1) (oi := ?o_1) (v := ?v_1) ?i_1 (by kernel_rfl) (by kernel_rfl) (by kernel_rfl) (fun _ _ _ h => h) (Or.inl ⟨?g_1, ?y_1⟩) hS ?_
          case i_1 => simp only [layG]; rfl
          case g_1 => rfl
          case y_1 => (intro w hSw; (go_simp <;> with_reducible rfl))
          (try simp only [Act.put, layS])
          refine wpAnyH_take (i := 2) (oi := ?o_2) (v := ?v_2) ?i_2 (by kernel_rfl) (by kernel_rfl) (by kernel_rfl) (fun _ _ _ h => h) (Or.inl ⟨?g_2, ?y_2⟩) hS ?_
          case i_2 => simp only [layG]; rfl
          case g_2 => rfl
          case y_2 => (intro w hSw; (go_simp <;> with_reducible rfl))
          (try simp only [Act.put, layS])
          refine wpAnyH_take (i := 3) (oi := ?o_3) (v := ?v_3) ?i_3 (by kernel_rfl) (by kernel_rfl) (by kernel_rfl) (fun _ _ _ h => h) (Or.inl ⟨?g_3, ?y_3⟩) hS ?_
          case i_3 => simp only [layG]; rfl
          case g_3 => rfl
          case y_3 => (intro w hSw; (go_simp <;> with_reducible rfl))
          (try simp only [Act.put, layS])
          refine wpAnyH_take (i := 4) (oi := ?o_4) (v := ?v_4) ?i_4 (by kernel_rfl) (by kernel_rfl) (by kernel_rfl) (fun _ _ _ h => h) (Or.inl ⟨?g_4, ?y_4⟩) hS ?_
          case i_4 => simp only [layG]; rfl
          case g_4 => rfl
          case y_4 => (intro w hSw; (go_simp <;> with_reducible rfl))
          (try simp only [Act.put, layS])
          refine wpAnyH_take (i := 5) (oi := ?o_5) (v := ?v_5) ?i_5 (by kernel_rfl) (by kernel_rfl) (by kernel_rfl) (fun _ _ _ h => h) (Or.inl ⟨?g_5, ?y_5⟩) hS ?_
          case i_5 => simp only [layG]; rfl
          case g_5 => rfl
          case y_5 => (intro w hSw; (go_simp <;> with_reducible rfl))
          (try simp only [Act.put, layS])
          refine held_more (S' := fun w' => Blk w' w.heap.size 27 #[.string (txt nm), .string (txt ky), .int .i64 0, .int .u64 0, .string (txt []), .slice (some ⟨b, o, none⟩) f.len c] ∧ (∀ i u, (ndC a0 (.slice A0 k0.len c0))[i]? = some u → w'.cell? ⟨b, o + m * 6 + i, none⟩ = some u) ∧ (∀ i u, (ndC a1 (.slice A' q.len c'))[i]? = some u → w'.cell? ⟨b, o + (m + 1) * 6 + i, none⟩ = some u)) (fun _ _ => trivial) _ _ _ _ ?_
          replace hS := HQ1.out
          refine wpAnyH_take (i := 6) (oi := ?o_6) (v := ?v_6) ?i_6 (by kernel_rfl) (by kernel_rfl) (by kernel_rfl) (fun _ _ _ h => h) (Or.inl ⟨?g_6, ?y_6⟩) hS ?_
          case i_6 => simp only [layG]; rfl
          case g_6 => rfl
          case y_6 => (intro w hSw; (go_simp <;> with_reducible rfl))
          (try simp only [Act.put, layS])
          refine wpAnyH_take (i := 7) (oi := ?o_7) (v := ?v_7) ?i_7 (by kernel_rfl) (by kernel_rfl) (by kernel_rfl) (fun _ _ _ h => h) (Or.inl ⟨?g_7, ?y_7⟩) hS ?_
          case i_7 => simp only [layG]; rfl
          case g_7 => rfl
          case y_7 => (intro w hSw; have q5 := (hSw.1.cell 5).trans rfl; (go_simp <;> with_reducible rfl))
          (try simp only [Act.put, layS])
          refine wpAnyH_take (i := 8) (oi := ?o_8) (v := ?v_8) ?i_8 (by kernel_rfl) (by kernel_rfl) (by kernel_rfl) (fun _ _ _ h => h) (Or.inl ⟨?g_8, ?y_8⟩) hS ?_
          case i_8 => simp only [layG]; rfl
          case g_8 => rfl
          case y_8 => (intro w hSw; (go_simp <;> with_reducible rfl))
          (try simp only [Act.put, layS])
          refine wpAnyH_take (i := 9) (oi := ?o_9) (v := ?v_9) ?i_9 (by kernel_rfl) (by kernel_rfl) (by kernel_rfl) (fun _ _ _ h => h) (Or.inl ⟨?g_9, ?y_9⟩) hS ?_
          case i_9 => simp only [layG]; rfl
          case g_9 => rfl
          case y_9 => (intro w hSw; (go_simp <;> with_reducible rfl))
          (try simp only [Act.put, layS])
          refine wpAnyH_take (i := 10) (oi := ?o_a) (v := ?v_a) ?i_a (by kernel_rfl) (by kernel_rfl) (by kernel_rfl) (fun _ _ _ h => h) (Or.inl ⟨?g_a, ?y_a⟩) hS ?_
          case i_a => simp only [layG]; rfl
          case g_a => rfl
          case y_a => (intro w hSw; have jw := HJ.out; (go_simp <;> with_reducible rfl))
          (try simp only [Act.put, layS])
          refine wpAnyH_take (i := 11) (oi := ?o_b) (v := ?v_b) ?i_b (by kernel_rfl) (by kernel_rfl) (by kernel_rfl) (fun _ _ _ h => h) (Or.inl ⟨?g_b, ?y_b⟩) hS ?_
          case i_b => simp only [layG]; rfl
          case g_b => rfl
          case y_b => (intro w hSw; have u0 : w.cell? ⟨b, o + m * 6, none⟩ = _ := hSw.2.1 0 _ rfl; have u1 := hSw.2.1 1 _ rfl; have u2 := hSw.2.1 2 _ rfl; have u3 := hSw.2.1 3 _ rfl; have u4 := hSw.2.1 4 _ rfl; have u5 := hSw.2.1 5 _ rfl; (go_simp <;> with_reducible rfl))
          (try simp only [Act.put, layS])
          refine wpAnyH_take (i := 12) (oi := ?o_c) (v := ?v_c) ?i_c (by kernel_rfl) (by kernel_rfl) (by kernel_rfl) (fun _ _ _ h => h) (Or.inl ⟨?g_c, ?y_c⟩) hS ?_
          case i_c => simp only [layG]; rfl
          case g_c => rfl
          case y_c => (intro w hSw; (go_simp <;> with_reducible rfl))
          (try simp only [Act.put, layS])
          refine wpAnyH_take (i := 13) (oi := ?o_d) (v := ?v_d) ?i_d (by kernel_rfl) (by kernel_rfl) (by kernel_rfl) (fun _ _ _ h => h) (Or.inl ⟨?g_d, ?y_d⟩) hS ?_
          case i_d => simp only [layG]; rfl
          case g_d => rfl
          case y_d => (intro w hSw; have q5 := (hSw.1.cell 5).trans rfl; (go_simp <;> with_reducible rfl))
          (try simp only [Act.put, layS])
          refine wpAnyH_take (i := 14) (oi := ?o_e) (v := ?v_e) ?i_e (by kernel_rfl) (by kernel_rfl) (by kernel_rfl) (fun _ _ _ h => h) (Or.inl ⟨?g_e, ?y_e⟩) hS ?_
          case i_e => simp only [layG]; rfl
          case g_e => rfl
          case y_e => (intro w hSw; (go_simp <;> with_reducible rfl))
          (try simp only [Act.put, layS])
          refine wpAnyH_take (i := 15) (oi := ?o_f) (v := ?v_f) ?i_f (by kernel_rfl) (by kernel_rfl) (by kernel_rfl) (fun _ _ _ h => h) (Or.inl ⟨?g_f, ?y_f⟩) hS ?_
          case i_f => simp only [layG]; rfl
          case g_f => rfl
          case y_f => (intro w hSw; (go_simp <;> with_reducible rfl))
          (try simp only [Act.put, layS])
          refine wpAnyH_take (i := 16) (oi := ?o_g) (v := ?v_g) ?i_g (by kernel_rfl) (by kernel_rfl) (by kernel_rfl) (fun _ _ _ h => h) (Or.inl ⟨?g_g, ?y_g⟩) hS ?_
          case i_g => simp only [layG]; rfl
          case g_g => rfl
          case y_g => (intro w hSw; have u0 : w.cell? ⟨b, o + (m + 1) * 6, none⟩ = _ := hSw.2.2 0 _ rfl; have u1 := hSw.2.2 1 _ rfl; have u2 := hSw.2.2 2 _ rfl; have u3 := hSw.2.2 3 _ rfl; have u4 := hSw.2.2 4 _ rfl; have u5 := hSw.2.2 5 _ rfl; (go_simp <;> with_reducible rfl))
          (try simp only [Act.put, layS])
          refine wpAnyH_ready (rs := [17]) (by kernel_rfl) (by simp) ?_
          refine (AllReadyH.cons (o := ?or_h) ?ir_h (fun K hK => ?str_h) AllReadyH.nil)
          case ir_h => simp only [layG]; rfl
          rw [if_pos (by rfl)]
          go_simp
          refine HLc.out.mono ?_
          rintro r w6 ⟨rfl, hb6⟩
          have HX6 := Lib.hid (HQ1.out.1.below hb6 HQ1.out.1.lt)
          have HB6 := Lib.hid (HBd.out.trans (hb6.mono HBd.out.size))
          have HW6 := Lib.hid hb6
          clear hb6
          go_wp2_with fail
          refine hK.out _ _ ?sr_h (fun hS => ?_)
          case sr_h => (exact ⟨HX6.out, fun i u hu => (HW6.out.cell (p := ⟨b, o + m * 6 + i, none⟩) (Nat.lt_of_lt_of_le HBL.out HBd.out.size)).trans (HQ1.out.2.1 i u hu), fun i u hu => (HW6.out.cell (p := ⟨b, o + (m + 1) * 6 + i, none⟩) (Nat.lt_of_lt_of_le HBL.out HBd.out.size)).trans (HQ1.out.2.2 i u hu)⟩)
          clear hK K
          (try simp only [Act.put, layS])
          refine wpAnyH_take (i := 18) (oi := ?o_i) (v := ?v_i) ?i_i (by kernel_rfl) (by kernel_rfl) (by kernel_rfl) (fun _ _ _ h => h) (Or.inl ⟨?g_i, ?y_i⟩) hS ?_
          case i_i => simp only [layG]; rfl
          case g_i => rfl
          case y_i => (intro w hSw; (go_simp <;> with_reducible rfl))
          (try simp only [Act.put, layS])
          refine wpAnyH_take (i := 19) (oi := ?o_j) (v := ?v_j) ?i_j (by kernel_rfl) (by kernel_rfl) (by kernel_rfl) (fun _ _ _ h => h) (Or.inl ⟨?g_j, ?y_j⟩) hS ?_
          case i_j => simp only [layG]; rfl
          case g_j => rfl
          case y_j => (intro w hSw; (go_simp <;> with_reducible rfl))
          (try simp only [Act.put, layS])
          refine wpAnyH_take (i := 20) (oi := ?o_k) (v := ?v_k) ?i_k (by kernel_rfl) (by kernel_rfl) (by kernel_rfl) (fun _ _ _ h => h) (Or.inl ⟨?g_k, ?y_k⟩) hS ?_
          case i_k => simp only [layG]; rfl
          case g_k => rfl
          case y_k => (intro w hSw; (go_simp <;> with_reducible rfl))
          (try simp only [Act.put, layS])
          refine wpAnyH_done (by kernel_rfl) ?_ _
          refine NoPanic.normal ?_
          cases lb with
          | false =>
            have HF : Hid (rgtF f = false) := Lib.hid (right_none hlt HOK2.out)
            clear hS
            go_wp2
            go_ret
            exact ⟨by rw [HF.out]; rfl, HB6.out⟩
          | true =>
            have HL2 := Lib.hid (HL3.out rfl)
            clear hS
            go_wp2
            go_roundw
            case rel => exact ⟨m + 1 + 1, by omega, by go_num, HL2, HX6.out, HB6.out⟩
            case measure => simp [intOf]; omega
    · have i2 : ¬ (j : Int) < (f.len : Int) := by omega
      have HF : Hid (rgtF f = true) := Lib.hid (right_at.2 (fun n hn => HL.out n (by omega)))
      clear hP hB
      go_wp2
      go_ret
      exact ⟨by rw [HF.out]; rfl, HBr.out⟩
theorem rrightf_any (f : NdF) : RightP9 f := by
  refine Fr.byKids (P := RightP9) ?_ f
  clear f
  intro f hkids a A c w hk hsz
  by_cases h0 : a.kind = 0
  · obtain ⟨nm, ky, kd, nu, tx⟩ := a
    simp only at h0
    subst h0
    by_cases h1 : nu = 0 ∧ tx = []
    · obtain ⟨rfl, rfl⟩ := h1
      have e : rgtX ((⟨nm, ky, 0, 0, []⟩ : NdD), f) = rgtF f := by unfold rgtX; simp
      rw [e]
      exact rright_row f hkids nm ky A c w hk hsz
    · have e : rgtX ((⟨nm, ky, 0, nu, tx⟩ : NdD), f) = false := by unfold rgtX; simp; intro h2 h3; exact absurd ⟨h2, h3⟩ h1
      rw [e]
      exact rright_box f nm ky nu tx A c w h1
  · exact rright_leaf f a A c w h0
theorem rright_any (x : Nd) (cs : List Value) (w : World) (hx : LieN w cs x) (hf : Few9 x) : Calls Tryz.prog 21 #[.agg cs.toArray] w (Ans9 (.bool (rgtX x)) w) := by
  obtain ⟨A, c, rfl, hk⟩ := hx.shape
  exact rrightf_any x.2 x.1 A c w hk hf
end Go.Proofs.YtljjaikejfoanaaGreat
namespace Go.Proofs.YtljjaikejfoanaaGreat
open Go.RowKit
theorem res_ct9 {P : Program} {fn : Func} {p u : Tmp} {ty : TypeId} (h : fn.results = #[.cell p ty, .tmp u]) (tmps : Array Value) (w : World) (g : Nat) (t : TypeId) (cs : Array Value) (fr : Nat × Nat) (d : TypeDesc)
    (hp : tmps.getD p undef = .pointer (some ⟨g, 0, none⟩)) (hg : w.heap[g]? = some (.cells cs t fr))
    (hu : P.underlying ty = some d) (hd : (match d with | .struct _ | .array _ _ => true | _ => false) = true) (hi : (P.info? ty).map (·.size) = some cs.size) :
    (results fn tmps).run P w = .ok (.tuple #[.agg cs, tmps.getD u undef]) w := by
  rw [results_cell_tmp h, hp]
  simp [asAddr, run_loadVar_row w g t ty cs fr d hg hu hd hi, Result.andThen]
def set6 (w : World) (b : Nat) (x0 x1 x2 x3 x4 x5 : Value) : World := (((((w.setCell ⟨b, 0, none⟩ x0).setCell ⟨b, 1, none⟩ x1).setCell ⟨b, 2, none⟩ x2).setCell ⟨b, 3, none⟩ x3).setCell ⟨b, 4, none⟩ x4).setCell ⟨b, 5, none⟩ x5
set_option maxHeartbeats 1000000 in
theorem Blk.set6 {w : World} {b : Nat} {t : TypeId} {y0 y1 y2 y3 y4 y5 : Value} (h : Blk w b t #[y0, y1, y2, y3, y4, y5]) (x0 x1 x2 x3 x4 x5 : Value) : Blk (set6 w b x0 x1 x2 x3 x4 x5) b t #[x0, x1, x2, x3, x4, x5] := by
  have h2 := ((((((h).set_ 0 x0).set_ 1 x1).set_ 2 x2).set_ 3 x3).set_ 4 x4).set_ 5 x5
  simp only [layS] at h2
  exact h2
theorem set6_below {B : Nat} {w : World} {b : Nat} {x0 x1 x2 x3 x4 x5 : Value} (h : B ≤ b) : Below B w (set6 w b x0 x1 x2 x3 x4 x5) :=
  ((((((Below.refl B w).setCell (p := ⟨b, 0, none⟩) h x0).setCell (p := ⟨b, 1, none⟩) h x1).setCell (p := ⟨b, 2, none⟩) h x2).setCell (p := ⟨b, 3, none⟩) h x3).setCell (p := ⟨b, 4, none⟩) h x4).setCell (p := ⟨b, 5, none⟩) h x5
theorem set6_other {w : World} {b g : Nat} {x0 x1 x2 x3 x4 x5 : Value} (h : g ≠ b) : (set6 w b x0 x1 x2 x3 x4 x5).heap[g]? = w.heap[g]? := by
  unfold set6
  rw [Below.heap_setCell _ _ _ _ h, Below.heap_setCell _ _ _ _ h, Below.heap_setCell _ _ _ _ h, Below.heap_setCell _ _ _ _ h, Below.heap_setCell _ _ _ _ h, Below.heap_setCell _ _ _ _ h]
theorem set6_size {w : World} {b : Nat} {x0 x1 x2 x3 x4 x5 : Value} : (set6 w b x0 x1 x2 x3 x4 x5).heap.size = w.heap.size := by simp [set6, World.setCell]
theorem LieB.row {b : Nat} {w : World} {a : NdD} {f : NdF} {v : Value} (h : LieB b w (ndC a v) (a, f)) : RowT b w v f := by
  obtain ⟨A, c, e, h2⟩ := h.shape
  have e2 : v = .slice A f.len c := by
    have := congrArg (fun l => l[5]?) e
    simpa using this
  rw [e2]
  exact h2
theorem LieP.set6 {b B g : Nat} {w : World} {cs : List Value} {x : Nd} (h : LieP b B w cs x) (hg : b ≤ g) (hB : g < B) (x0 x1 x2 x3 x4 x5 : Value) : LieP b B (set6 w g x0 x1 x2 x3 x4 x5) cs x :=
  h.keep (fun k hk => set6_other (by omega)) (fun k hk => by rw [set6_size]; exact hk)
theorem LieP.after {b B B' : Nat} {w : World} {cs : List Value} {x : Nd} (h : LieP b B w cs x) (hB : B' ≤ B) : LieP b B' w cs x :=
  h.keep (fun _ _ => rfl) (fun k hk => by rcases hk with h | h; exact .inl h; exact .inr ⟨by omega, h.2⟩)
theorem LieP.below {b B : Nat} {w w' : World} {cs : List Value} {x : Nd} (h : LieP b B w cs x) (hb : Below w.heap.size w w') (hbw : b ≤ w.heap.size) : LieP b B w' cs x :=
  h.keep (fun k hk => hb.block k (by rcases hk with h | h <;> omega)) (fun k hk => by have := hb.size; rcases hk with h | h; exact .inl h; exact .inr ⟨h.1, by omega⟩)
theorem GetX_none {x : Nd} {s : Stp} {l : List Stp} (h : findN s x.2 = none) : GetX x (s :: l) = (noN, false) := by
  unfold GetX; simp only [getX]; rw [findN_none h]
theorem GetX_some {x y : Nd} {s : Stp} {l : List Stp} {i : Nat} (h : findN s x.2 = some i) (hy : x.2.get? i = some y) : GetX x (s :: l) = GetX y l := by
  unfold GetX; simp only [getX]
  obtain ⟨z, h1, h2, h3⟩ := find_stp h
  rw [hy] at h1
  injection h1 with h1
  rw [h3, ← h1]
end Go.Proofs.YtljjaikejfoanaaGreat
namespace Go.Proofs.YtljjaikejfoanaaGreat
open Go.RowKit
structure After (w : World) where
  w' : World
  h : Below w.heap.size w w'
instance (w : World) : Inhabited (After w) := ⟨⟨w, Below.refl _ _⟩⟩
theorem After.cell {w : World} (p : After w) {b o : Nat} {v : Value} (hb : b < w.heap.size) (h : w.cell? ⟨b, o, none⟩ = some v) : p.w'.cell? ⟨b, o, none⟩ = some v := (p.h.cell (p := ⟨b, o, none⟩) hb).trans h
theorem After.blk {w : World} (p : After w) {g o : Nat} {t : TypeId} {cs : Array Value} {v : Value} (h : Blk w g t cs) (hv : cs[o]? = some v) : p.w'.cell? ⟨g, o, none⟩ = some v := p.cell h.lt ((h.cell o).trans hv)
def Grw (v : Value) (w : World) (r : Ending) (w' : World) : Prop := r = .returned v ∧ ∃ q os, w' = Go.Sort.grow (w.drewN q) os
theorem below_grow {w : World} (q : Nat) (os : Array Obj) : Below w.heap.size w (Go.Sort.grow (w.drewN q) os) :=
  ⟨rfl, rfl, rfl, by rw [Go.Sort.size_grow]; exact Nat.le_add_right _ _, fun k hk => Go.Sort.heap_grow_old (w.drewN q) os hk⟩
theorem Grw.ans {v : Value} {w : World} {r : Ending} {w' : World} (h : Grw v w r w') : Ans9 v w r w' := by
  obtain ⟨h1, q, os, rfl⟩ := h
  exact ⟨h1, below_grow q os⟩
theorem Grw.alloc {w : World} (o : Obj) : w.alloc o = Go.Sort.grow (w.drewN 0) #[o] := Go.Sort.alloc_eq_grow w o
def set6o (w : World) (b o : Nat) (x0 x1 x2 x3 x4 x5 : Value) : World := (((((w.setCell ⟨b, o, none⟩ x0).setCell ⟨b, o + 1, none⟩ x1).setCell ⟨b, o + 2, none⟩ x2).setCell ⟨b, o + 3, none⟩ x3).setCell ⟨b, o + 4, none⟩ x4).setCell ⟨b, o + 5, none⟩ x5
theorem set6o_below {B : Nat} {w : World} {b o : Nat} {x0 x1 x2 x3 x4 x5 : Value} (h : B ≤ b) : Below B w (set6o w b o x0 x1 x2 x3 x4 x5) :=
  ((((((Below.refl B w).setCell (p := ⟨b, o, none⟩) h x0).setCell (p := ⟨b, o + 1, none⟩) h x1).setCell (p := ⟨b, o + 2, none⟩) h x2).setCell (p := ⟨b, o + 3, none⟩) h x3).setCell (p := ⟨b, o + 4, none⟩) h x4).setCell (p := ⟨b, o + 5, none⟩) h x5
theorem set6o_other {w : World} {b o g : Nat} {x0 x1 x2 x3 x4 x5 : Value} (h : g ≠ b) : (set6o w b o x0 x1 x2 x3 x4 x5).heap[g]? = w.heap[g]? := by
  unfold set6o
  rw [Below.heap_setCell _ _ _ _ h, Below.heap_setCell _ _ _ _ h, Below.heap_setCell _ _ _ _ h, Below.heap_setCell _ _ _ _ h, Below.heap_setCell _ _ _ _ h, Below.heap_setCell _ _ _ _ h]
theorem set6o_size {w : World} {b o : Nat} {x0 x1 x2 x3 x4 x5 : Value} : (set6o w b o x0 x1 x2 x3 x4 x5).heap.size = w.heap.size := by simp [set6o, World.setCell]
theorem set_mid6 (l k r : List Value) (j : Nat) (u : Value) (h : j < k.length) : (l ++ (k ++ r)).set (l.length + j) u = l ++ (k.set j u ++ r) := by
  rw [List.set_append_right _ _ (by omega), Nat.add_sub_cancel_left, List.set_append_left _ _ h]
theorem OwnK.set6o {w : World} {base b n c o : Nat} {xs1 xs2 : List Value} {y0 y1 y2 y3 y4 y5 : Value} (h : OwnK 27 6 w base (.slice (some ⟨b, 0, none⟩) n c) n (xs1 ++ ([y0, y1, y2, y3, y4, y5] ++ xs2))) (ho : xs1.length = o) (x0 x1 x2 x3 x4 x5 : Value) :
    OwnK 27 6 (set6o w b o x0 x1 x2 x3 x4 x5) base (.slice (some ⟨b, 0, none⟩) n c) n (xs1 ++ ([x0, x1, x2, x3, x4, x5] ++ xs2)) := by
  subst ho
  have a0 := (World.ownsRow.stored h (xs1.length + 0) x0).1
  rw [set_mid6 _ _ _ _ _ (by simp)] at a0
  have a1 := (World.ownsRow.stored a0 (xs1.length + 1) x1).1
  rw [set_mid6 _ _ _ _ _ (by simp)] at a1
  have a2 := (World.ownsRow.stored a1 (xs1.length + 2) x2).1
  rw [set_mid6 _ _ _ _ _ (by simp)] at a2
  have a3 := (World.ownsRow.stored a2 (xs1.length + 3) x3).1
  rw [set_mid6 _ _ _ _ _ (by simp)] at a3
  have a4 := (World.ownsRow.stored a3 (xs1.length + 4) x4).1
  rw [set_mid6 _ _ _ _ _ (by simp)] at a4
  have a5 := (World.ownsRow.stored a4 (xs1.length + 5) x5).1
  rw [set_mid6 _ _ _ _ _ (by simp)] at a5
  exact a5
def OwnT (w : World) (base : Nat) : NdF → List Value → List Nat → Prop
  | .nil, xs, F => xs = [] ∧ F = []
  | .cons a k r, xs, F => ∃ (ys zs : List Value) (F0 F2 : List Nat) (v : Value), xs = ndC a v ++ ys ∧ F = (v.ownBlock.toList ++ F0) ++ F2 ∧
      OwnK 27 6 w base v k.len zs ∧ OwnT w base k zs F0 ∧ OwnT w base r ys F2
def OwnU (w : World) (base : Nat) (v : Value) (k : NdF) (F : List Nat) : Prop := ∃ zs F0, F = v.ownBlock.toList ++ F0 ∧ OwnK 27 6 w base v k.len zs ∧ OwnT w base k zs F0
section
variable {w w' : World} {base base' : Nat} {f g : NdF} {xs ys : List Value} {F G : List Nat}
theorem OwnT.cons_iff {a : NdD} {k r : NdF} : OwnT w base (.cons a k r) xs F ↔ ∃ v ys F1 F2, xs = ndC a v ++ ys ∧ F = F1 ++ F2 ∧ OwnU w base v k F1 ∧ OwnT w base r ys F2 := by
  constructor
  · intro ⟨ys, zs, F0, F2, v, h1, h2, h6, h7, h8⟩
    exact ⟨v, ys, _, F2, h1, h2, ⟨zs, F0, rfl, h6, h7⟩, h8⟩
  · intro ⟨v, ys, F1, F2, h1, h2, ⟨zs, F0, h9, h6, h7⟩, h8⟩
    exact ⟨ys, zs, F0, F2, v, h1, by rw [h2, h9], h6, h7, h8⟩
theorem OwnK.keep {e : TypeId} {k n : Nat} {v : Value} (h : OwnK e k w base v n xs) (hk : ∀ g, v.ownBlock = some g → w'.heap[g]? = w.heap[g]?) : OwnK e k w' base v n xs := by
  refine ⟨h.1, ?_⟩
  rcases h.2 with ⟨rfl, h0⟩ | ⟨g, cap, cur, rfl, hb, hg, hrest⟩
  · exact .inl ⟨rfl, h0⟩
  · exact .inr ⟨g, cap, cur, rfl, hb, (hk g rfl).trans hg, hrest⟩
theorem OwnT.keep (hb : base' ≤ base) : ∀ {f : NdF} {xs : List Value} {F : List Nat}, (∀ g, g ∈ F → w'.heap[g]? = w.heap[g]?) → OwnT w base f xs F → OwnT w' base' f xs F := by
  intro f
  induction f with
  | nil => intro xs F _ h; exact h
  | cons a k r ihk ihr =>
    intro xs F hF ⟨ys, zs, F0, F2, v, h1, h2, h6, h7, h8⟩
    subst h2
    exact ⟨ys, zs, F0, F2, v, h1, rfl, (h6.keep (fun g hg => hF g (by simp [hg]))).mono hb, ihk (fun g hg => hF g (by simp [hg])) h7, ihr (fun g hg => hF g (by simp [hg])) h8⟩
theorem OwnU.keep {v : Value} {k : NdF} (h : OwnU w base v k F) (hF : ∀ g, g ∈ F → w'.heap[g]? = w.heap[g]?) (hb : base' ≤ base) : OwnU w' base' v k F := by
  obtain ⟨zs, F0, rfl, h1, h2⟩ := h
  exact ⟨zs, F0, rfl, (h1.keep (fun g hg => hF g (by simp [hg]))).mono hb, h2.keep hb (fun g hg => hF g (by simp [hg]))⟩
theorem OwnK.fresh {e : TypeId} {k n : Nat} {v : Value} (h : OwnK e k w base v n xs) {g : Nat} (hg : v.ownBlock = some g) : Fresh9 base w g := by
  rcases h.2 with ⟨rfl, h0⟩ | ⟨g', cap, cur, rfl, hb, hg', hrest⟩
  · cases hg
  · injection hg with hg
    subst hg
    exact ⟨hb, cur, _, hg'⟩
theorem OwnT.fresh : ∀ {f : NdF} {xs : List Value} {F : List Nat}, OwnT w base f xs F → ∀ g, g ∈ F → Fresh9 base w g := by
  intro f
  induction f with
  | nil => intro xs F h g hg; rw [h.2] at hg; cases hg
  | cons a k r ihk ihr =>
    intro xs F ⟨ys, zs, F0, F2, v, h1, h2, h6, h7, h8⟩ g hg
    subst h2
    simp only [List.mem_append, Option.mem_toList] at hg
    rcases hg with (hg | hg) | hg
    · exact h6.fresh hg
    · exact ihk h7 g hg
    · exact ihr h8 g hg
theorem OwnU.fresh {v : Value} {k : NdF} (h : OwnU w base v k F) : ∀ g, g ∈ F → Fresh9 base w g := by
  obtain ⟨zs, F0, rfl, h1, h2⟩ := h
  intro g hg
  simp only [List.mem_append, Option.mem_toList] at hg
  rcases hg with hg | hg
  · exact h1.fresh hg
  · exact h2.fresh g hg
theorem OwnT.below (h : OwnT w base f xs F) (hb : Below w.heap.size w w') : OwnT w' base f xs F := h.keep (Nat.le_refl _) (fun g hg => hb.block g (h.fresh g hg).lt)
theorem OwnU.below {v : Value} {k : NdF} (h : OwnU w base v k F) (hb : Below w.heap.size w w') : OwnU w' base v k F := h.keep (fun g hg => hb.block g (h.fresh g hg).lt) (Nat.le_refl _)
theorem OwnK.frv {S : Nat → Prop} {v : Value} {k : NdF} (h : OwnK 27 6 w base v k.len xs) (hr : rowG NdA 6 5 w S noB xs k) (hS : ∀ g, v.ownBlock = some g → S g) : FrV NdA 6 5 w S noB v k := by
  have hh := h
  rcases h.2 with ⟨rfl, h0⟩ | ⟨g, cap, cur, rfl, hb, hg, hnc, hcm, hcs, ht⟩
  · exact ⟨none, 0, by rw [h0], by omega, fun h => absurd h (by omega)⟩
  · refine ⟨_, cap, rfl, hnc, fun h0 => ⟨g, 0, rfl, hS g rfl, hr.at (fun j u hj => ?_)⟩⟩
    have hjl : j < xs.length := (List.getElem?_eq_some_iff.1 hj).1
    have hxl : xs.length = k.len * 6 := h.1
    rw [World.ownsRow.cellAt hh (0 + j) (by omega), Nat.zero_add, hj]
theorem OwnK.aligned {n : Nat} {v : Value} (h : OwnK 27 6 w base v n xs) {a : NdD} : ∀ b o m c, (ndC a v)[5]? = some (.slice (some ⟨b, o, none⟩) m c) → o % 6 = 0 := by
  intro b o m c e
  have e2 : v = .slice (some ⟨b, o, none⟩) m c := by simpa using e
  rcases h.2 with ⟨rfl, h0⟩ | ⟨g, cap, cur, rfl, hrest⟩
  · cases e2
  · injection e2 with e2
    injection e2 with e2
    injection e2 with _ e3
    rw [← e3]
theorem OwnT.row {S : Nat → Prop} : ∀ {f : NdF} {xs : List Value} {F : List Nat}, (∀ g, g ∈ F → S g) → OwnT w base f xs F → rowG NdA 6 5 w S noB xs f := by
  intro f
  induction f with
  | nil => intro xs F _ h; exact h.1
  | cons a k r ihk ihr =>
    intro xs F hF ⟨ys, zs, F0, F2, v, h1, h2, h6, h7, h8⟩
    subst h2
    have hv : v.oneCell' = true := by obtain ⟨A, c, rfl⟩ := h6.shape; rfl
    exact ⟨ndC a v, ys, h1, ⟨rfl, ⟨⟨v, rfl, hv⟩, h6.aligned⟩, v, rfl, h6.frv (ihk (fun g hg => hF g (by simp [hg])) h7) (fun g hg => hF g (by simp [hg]))⟩, ihr (fun g hg => hF g (by simp [hg])) h8⟩
theorem OwnU.frv {v : Value} {k : NdF} (h : OwnU w base v k F) : FrV NdA 6 5 w (fun g => g ∈ F) noB v k := by
  obtain ⟨zs, F0, rfl, h1, h2⟩ := h
  exact h1.frv (h2.row (fun g hg => by simp [hg])) (fun g hg => by simp [hg])
theorem OwnU.shape {v : Value} {k : NdF} (h : OwnU w base v k F) : ∃ A c, v = .slice A k.len c := by
  obtain ⟨zs, F0, rfl, h1, h2⟩ := h
  exact h1.shape
theorem OwnU.new {v : Value} {a : NdD} {k : NdF} (h : OwnU w base v k F) : NewT base w (ndC a v) (a, k) := by
  refine ⟨fun g => g ∈ F, h.fresh, rfl, ⟨⟨v, rfl, ?_⟩, ?_⟩, v, rfl, h.frv⟩
  · obtain ⟨A, c, rfl⟩ := h.shape; rfl
  · obtain ⟨zs, F0, rfl, h1, h2⟩ := h
    exact h1.aligned
theorem OwnU.lies {v : Value} {a : NdD} {k : NdF} (h : OwnU w base v k F) : LieN w (ndC a v) (a, k) := (h.new (a := a)).lies
theorem OwnT.app (h2 : OwnT w base g ys G) : ∀ {f : NdF} {xs : List Value} {F : List Nat}, OwnT w base f xs F → OwnT w base (f.app g) (xs ++ ys) (F ++ G) := by
  intro f
  induction f with
  | nil => intro xs F h; rw [h.1, h.2]; exact h2
  | cons a k r ihk ihr =>
    intro xs F ⟨zs, us, F0, F2, v, h1, h2, h6, h7, h8⟩
    subst h1 h2
    exact ⟨zs ++ ys, us, F0, F2 ++ G, v, by simp, by simp, h6, h7, ihr h8⟩
theorem OwnT.one {a : NdD} {k : NdF} {v : Value} (h : OwnU w base v k F) : OwnT w base (.cons a k .nil) (ndC a v) F := OwnT.cons_iff.2 ⟨v, [], F, [], by simp, by simp, h, rfl, rfl⟩
theorem OwnT.split (n : Nat) : ∀ {f : NdF} {xs : List Value} {F : List Nat}, OwnT w base f xs F → ∃ xs1 xs2 F1 F2, xs = xs1 ++ xs2 ∧ F = F1 ++ F2 ∧ OwnT w base (Fr.take n f) xs1 F1 ∧ OwnT w base (Fr.drop n f) xs2 F2 := by
  induction n with
  | zero => intro f xs F h; exact ⟨[], xs, [], F, rfl, rfl, by cases f <;> exact ⟨rfl, rfl⟩, by cases f <;> exact h⟩
  | succ n ih =>
    intro f xs F h
    cases f with
    | nil => exact ⟨[], xs, [], F, rfl, rfl, ⟨rfl, rfl⟩, h⟩
    | cons a k r =>
      obtain ⟨v, ys, F1, F2, rfl, rfl, h1, h2⟩ := OwnT.cons_iff.1 h
      obtain ⟨ys1, ys2, G1, G2, rfl, rfl, h3, h4⟩ := ih h2
      exact ⟨ndC a v ++ ys1, ys2, F1 ++ G1, G2, by simp, by simp, OwnT.cons_iff.2 ⟨v, ys1, F1, G1, rfl, rfl, h1, h3⟩, h4⟩
theorem OwnT.len (h : OwnT w base f xs F) : xs.length = f.len * 6 := (h.row (S := fun g => g ∈ F) (fun _ h => h)).len
theorem OwnT.at (h : OwnT w base f xs F) {i : Nat} {a : NdD} {k : NdF} (hy : f.get? i = some (a, k)) : ∃ xs1 v xs2 F1 Fk F2, xs = xs1 ++ (ndC a v ++ xs2) ∧ F = F1 ++ (Fk ++ F2) ∧ xs1.length = i * 6 ∧ OwnT w base (Fr.take i f) xs1 F1 ∧ OwnU w base v k Fk ∧ OwnT w base (Fr.drop (i + 1) f) xs2 F2 := by
  obtain ⟨xs1, xs2, F1, F2, rfl, rfl, h1, h2⟩ := h.split i
  rw [(Fr.get_drop hy).1] at h2
  obtain ⟨v, ys, G1, G2, rfl, rfl, h3, h4⟩ := OwnT.cons_iff.1 h2
  exact ⟨xs1, v, ys, F1, G1, G2, rfl, rfl, by rw [h1.len, Fr.len_take _ _ (by have := Fr.get_lt hy; omega)], h1, h3, h4⟩
def updF (i : Nat) (y : Nd) (f : NdF) : NdF := (Fr.take i f).app (.cons y.1 y.2 (Fr.drop (i + 1) f))
theorem OwnT.upd {i : Nat} {a : NdD} {k : NdF} {v : Value} {xs1 xs2 : List Value} {F1 F2 Fk : List Nat} (h1 : OwnT w base (Fr.take i f) xs1 F1) (h2 : OwnU w base v k Fk) (h3 : OwnT w base (Fr.drop (i + 1) f) xs2 F2) : OwnT w base (updF i (a, k) f) (xs1 ++ (ndC a v ++ xs2)) (F1 ++ (Fk ++ F2)) :=
  OwnT.app (OwnT.cons_iff.2 ⟨v, xs2, Fk, F2, rfl, rfl, h2, h3⟩) h1
end
def Keeps (base : Nat) (F : List Nat) (w w' : World) : Prop := Below base w w' ∧ ∀ g, g < w.heap.size → g ∉ F → w'.heap[g]? = w.heap[g]?
theorem Keeps.refl (base : Nat) (F : List Nat) (w : World) : Keeps base F w w := ⟨Below.refl _ _, fun _ _ _ => rfl⟩
theorem Keeps.trans {base : Nat} {F G : List Nat} {a b c : World} (h : Keeps base F a b) (k : Keeps base G b c) (hG : ∀ g, g ∈ G → g ∈ F ∨ a.heap.size ≤ g) : Keeps base F a c :=
  ⟨h.1.trans k.1, fun g hg hF => (k.2 g (Nat.lt_of_lt_of_le hg h.1.size) (fun hm => by rcases hG g hm with h' | h'; exact hF h'; omega)).trans (h.2 g hg hF)⟩
end Go.Proofs.YtljjaikejfoanaaGreat
