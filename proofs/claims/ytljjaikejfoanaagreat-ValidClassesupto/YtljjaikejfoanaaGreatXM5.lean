/- What ValidClasses stands on: TrvB. -/
import Derived.Test.YtljjaikejfoanaaGreatXM0
import Derived.Test.YtljjaikejfoanaaGreatXM3
import Derived.Test.YtljjaikejfoanaaGreatXM4
import Derived.IntWalk
set_option linter.unusedSimpArgs false
set_option linter.unusedVariables false
namespace Go.Proofs.YtljjaikejfoanaaGreat
open Go.RowKit
def DRightP (f : NdF) : Prop := ∀ (a : NdD) (A : Option Addr) (c : Nat) (w : World), RowT w.heap.size w (.slice A f.len c) f → f.size ≤ 1000000 →
  Calls Tryz.prog 45 #[.agg #[.string (txt a.name), .string (txt a.key), .int .i64 a.kind, .int .u64 (a.num : Int), .string (txt a.text), .slice A f.len c]] w (Ans9 (.bool (rgtX (a, f))) w)
set_option maxRecDepth 100000 in
set_option maxHeartbeats 2000000 in
theorem dright_leaf (f : NdF) (a : NdD) (A : Option Addr) (c : Nat) (w : World) (h0 : a.kind ≠ 0) :
  Calls Tryz.prog 45 #[.agg #[.string (txt a.name), .string (txt a.key), .int .i64 a.kind, .int .u64 (a.num : Int), .string (txt a.text), .slice A f.len c]] w (Ans9 (.bool (rgtX (a, f))) w) := by
 have h1 : Blk (w.alloc (.cells #[.string (txt a.name), .string (txt a.key), .int .i64 a.kind, .int .u64 (a.num : Int), .string (txt a.text), .slice A f.len c] 27)) w.heap.size 27 #[.string (txt a.name), .string (txt a.key), .int .i64 a.kind, .int .u64 (a.num : Int), .string (txt a.text), .slice A f.len c] := Blk.new _ _ _
 have HB0 : Hid (Below w.heap.size w (w.alloc (.cells #[.string (txt a.name), .string (txt a.key), .int .i64 a.kind, .int .u64 (a.num : Int), .string (txt a.text), .slice A f.len c] 27))) := Lib.hid ((Below.refl _ _).alloc (Nat.le_refl _) _)
 have HL : Hid (∀ W, Calls Tryz.prog 65 #[.agg #[.string (txt a.name), .string (txt a.key), .int .i64 a.kind, .int .u64 (a.num : Int), .string (txt a.text), .slice A f.len c]] W (Ans9 (.bool true) W)) := Lib.hid (fun W => by
  have h := leafis_any a (.slice A f.len c) W
  rw [show decide (a.kind ≠ 0) = true by simp [h0]] at h
  exact h)
 have HV : Hid (rgtX (a, f) = decide (f.len = 0)) := Lib.hid (by unfold rgtX; rw [if_pos h0])
 have H1 := Lib.hid h1
 have q0 := (H1.out.cell 0).trans rfl
 have q1 := (H1.out.cell 1).trans rfl
 have q2 := (H1.out.cell 2).trans rfl
 have q3 := (H1.out.cell 3).trans rfl
 have q4 := (H1.out.cell 4).trans rfl
 have q5 := (H1.out.cell 5).trans rfl
 clear h1 h0
 by_cases hl : f.len = 0
 ·have e3 : ((f.len : Int) == 0) = true := by simp [hl]
  have HW : Hid (f.len = 0) := Lib.hid hl
  clear hl
  go_enter Tryz.func45, Tryz.ntmps45
  go_wp2_with fail
  refine (HL.out _).mono ?_
  rintro r w3 ⟨rfl, hb3⟩
  have q5' : w3.cell? ⟨w.heap.size, 5, none⟩ = some (.slice A f.len c) := ((H1.out.below hb3 H1.out.lt).cell 5).trans rfl
  have HB3 := Lib.hid (HB0.out.trans (hb3.mono HB0.out.size))
  clear hb3
  go_wp2
  go_ret
  exact ⟨by rw [HV.out, decide_eq_true HW.out]; rfl, HB3.out⟩
 ·have e3 : ((f.len : Int) == 0) = false := by simp [hl]
  have HW : Hid (¬ f.len = 0) := Lib.hid hl
  clear hl
  go_enter Tryz.func45, Tryz.ntmps45
  go_wp2_with fail
  refine (HL.out _).mono ?_
  rintro r w3 ⟨rfl, hb3⟩
  have q5' : w3.cell? ⟨w.heap.size, 5, none⟩ = some (.slice A f.len c) := ((H1.out.below hb3 H1.out.lt).cell 5).trans rfl
  have HB3 := Lib.hid (HB0.out.trans (hb3.mono HB0.out.size))
  clear hb3
  go_wp2
  go_ret
  exact ⟨by rw [HV.out, decide_eq_false HW.out]; rfl, HB3.out⟩
set_option maxRecDepth 100000 in
set_option maxHeartbeats 2000000 in
theorem dright_box (f : NdF) (nm ky : List UInt8) (nu : Nat) (tx : List UInt8) (A : Option Addr) (c : Nat) (w : World) (h0 : ¬ (nu = 0 ∧ tx = [])) :
  Calls Tryz.prog 45 #[.agg #[.string (txt nm), .string (txt ky), .int .i64 0, .int .u64 (nu : Int), .string (txt tx), .slice A f.len c]] w (Ans9 (.bool false) w) := by
 have h1 : Blk (w.alloc (.cells #[.string (txt nm), .string (txt ky), .int .i64 0, .int .u64 (nu : Int), .string (txt tx), .slice A f.len c] 27)) w.heap.size 27 #[.string (txt nm), .string (txt ky), .int .i64 0, .int .u64 (nu : Int), .string (txt tx), .slice A f.len c] := Blk.new _ _ _
 have HB0 : Hid (Below w.heap.size w (w.alloc (.cells #[.string (txt nm), .string (txt ky), .int .i64 0, .int .u64 (nu : Int), .string (txt tx), .slice A f.len c] 27))) := Lib.hid ((Below.refl _ _).alloc (Nat.le_refl _) _)
 have HL : Hid (∀ W, Calls Tryz.prog 65 #[.agg #[.string (txt nm), .string (txt ky), .int .i64 0, .int .u64 (nu : Int), .string (txt tx), .slice A f.len c]] W (Ans9 (.bool false) W)) := Lib.hid (fun W => leafis_any (⟨nm, ky, 0, nu, tx⟩ : NdD) (.slice A f.len c) W)
 have H1 := Lib.hid h1
 have q0 := (H1.out.cell 0).trans rfl
 have q1 := (H1.out.cell 1).trans rfl
 have q2 := (H1.out.cell 2).trans rfl
 have q3 := (H1.out.cell 3).trans rfl
 have q4 := (H1.out.cell 4).trans rfl
 have q5 := (H1.out.cell 5).trans rfl
 have tt : (txt tx).toList = tx := txt_toList _
 clear h1
 by_cases h2 : nu = 0
 ·subst h2
  have e4 : tx.isEmpty = false := by cases tx with | nil => exact absurd ⟨rfl, rfl⟩ h0 | cons => rfl
  have e5 : (tx == []) = false := by cases tx with | nil => cases e4 | cons => rfl
  clear h0
  go_enter Tryz.func45, Tryz.ntmps45
  go_wp2_with fail
  refine (HL.out _).mono ?_
  rintro r w3 ⟨rfl, hb3⟩
  have HP := Lib.hid (H1.out.below hb3 H1.out.lt)
  have HB3 := Lib.hid (HB0.out.trans (hb3.mono HB0.out.size))
  clear hb3
  have p0 := (HP.out.cell 0).trans rfl
  have p1 := (HP.out.cell 1).trans rfl
  have p2 := (HP.out.cell 2).trans rfl
  have p3 := (HP.out.cell 3).trans rfl
  have p4 := (HP.out.cell 4).trans rfl
  have p5 := (HP.out.cell 5).trans rfl
  go_wp2
  go_ret
  exact ⟨rfl, HB3.out⟩
 ·have e3 : ((nu : Int) == 0) = false := by simp [h2]
  have e6 : (nu == 0) = false := by simp [h2]
  clear h0
  go_enter Tryz.func45, Tryz.ntmps45
  go_wp2_with fail
  refine (HL.out _).mono ?_
  rintro r w3 ⟨rfl, hb3⟩
  have HP := Lib.hid (H1.out.below hb3 H1.out.lt)
  have HB3 := Lib.hid (HB0.out.trans (hb3.mono HB0.out.size))
  clear hb3
  have p0 := (HP.out.cell 0).trans rfl
  have p1 := (HP.out.cell 1).trans rfl
  have p2 := (HP.out.cell 2).trans rfl
  have p3 := (HP.out.cell 3).trans rfl
  have p4 := (HP.out.cell 4).trans rfl
  have p5 := (HP.out.cell 5).trans rfl
  go_wp2
  go_ret
  exact ⟨rfl, HB3.out⟩
set_option maxRecDepth 100000 in
set_option maxHeartbeats 4000000 in
theorem dright_row (f : NdF) (hkids : ∀ n a k, f.get? n = some (a, k) → DRightP k) (nm ky : List UInt8) (A : Option Addr) (c : Nat) (w : World) (hk : RowT w.heap.size w (.slice A f.len c) f) (hsz : f.size ≤ 1000000) :
  Calls Tryz.prog 45 #[.agg #[.string (txt nm), .string (txt ky), .int .i64 0, .int .u64 0, .string (txt []), .slice A f.len c]] w (Ans9 (.bool (rgtF f)) w) := by
 have h1 : Blk (w.alloc (.cells #[.string (txt nm), .string (txt ky), .int .i64 0, .int .u64 0, .string (txt []), .slice A f.len c] 27)) w.heap.size 27 #[.string (txt nm), .string (txt ky), .int .i64 0, .int .u64 0, .string (txt []), .slice A f.len c] := Blk.new _ _ _
 have HB0 : Hid (Below w.heap.size w (w.alloc (.cells #[.string (txt nm), .string (txt ky), .int .i64 0, .int .u64 0, .string (txt []), .slice A f.len c] 27))) := Lib.hid ((Below.refl _ _).alloc (Nat.le_refl _) _)
 have HL0 : Hid (∀ W, Calls Tryz.prog 65 #[.agg #[.string (txt nm), .string (txt ky), .int .i64 0, .int .u64 0, .string (txt []), .slice A f.len c]] W (Ans9 (.bool false) W)) := Lib.hid (fun W => leafis_any (⟨nm, ky, 0, 0, []⟩ : NdD) (.slice A f.len c) W)
 have H1 := Lib.hid h1
 have q0 := (H1.out.cell 0).trans rfl
 have q1 := (H1.out.cell 1).trans rfl
 have q2 := (H1.out.cell 2).trans rfl
 have q3 := (H1.out.cell 3).trans rfl
 have q4 := (H1.out.cell 4).trans rfl
 have q5 := (H1.out.cell 5).trans rfl
 have HI := Lib.hid hkids
 have HK : Hid (RowT w.heap.size w (.slice A f.len c) f) := Lib.hid hk
 have HZ : Hid (f.size ≤ 1000000) := Lib.hid hsz
 have tt : (txt []).toList = [] := txt_toList _
 clear hkids hk hsz h1
 go_enter Tryz.func45, Tryz.ntmps45
 go_wp2_with fail
 refine (HL0.out _).mono ?_
 rintro r w3 ⟨rfl, hb3⟩
 have HP := Lib.hid (H1.out.below hb3 H1.out.lt)
 have HB3 := Lib.hid (HB0.out.trans (hb3.mono HB0.out.size))
 clear hb3 q0 q1 q2 q3 q4 q5
 have p0 := (HP.out.cell 0).trans rfl
 have p1 := (HP.out.cell 1).trans rfl
 have p2 := (HP.out.cell 2).trans rfl
 have p3 := (HP.out.cell 3).trans rfl
 have p4 := (HP.out.cell 4).trans rfl
 have p5 := (HP.out.cell 5).trans rfl
 go_wp2
 go_loopw [18] (fun i wr => ∃ j : Nat, j ≤ f.len ∧ i = .int .i64 (j : Int) ∧ Hid (∀ n, n < j → okAt f n = true) ∧ Blk wr w.heap.size 27 #[.string (txt nm), .string (txt ky), .int .i64 0, .int .u64 0, .string (txt []), .slice A f.len c] ∧ Below w.heap.size w wr) (fun i _ => f.len - (intOf i).toNat)
 case atStart => exact ⟨0, Nat.zero_le _, rfl, Lib.hid (fun n h => by omega), HP.out, HB3.out⟩
 case round =>
  clear p0 p1 p2 p3 p4 p5 HP HB3
  obtain ⟨j, hj, rfl, HL, hP, hB⟩ := hrel
  have HBr := Lib.hid hB
  have HP := Lib.hid hP
  by_cases hlt : j < f.len
  ·obtain ⟨a1, q, hg⟩ := Fr.get_some hlt
   have hok := okAt_at hg
   obtain ⟨b, o, A', c', rfl, -, -, hbl, hrow, hcl⟩ := HK.out.at hg
   have hcell : ∀ i u, (ndC a1 (.slice A' q.len c'))[i]? = some u → wr.cell? ⟨b, o + j * 6 + i, none⟩ = some u := fun i u hu => (hB.cell (p := ⟨b, o + j * 6 + i, none⟩) hbl).trans (hcl i u hu)
   have q0 : (wr).cell? ⟨b, o + j * 6, none⟩ = _ := hcell 0 _ rfl
   have q1 : (wr).cell? ⟨b, o + j * 6 + 1, none⟩ = _ := hcell 1 _ rfl
   have q2 : (wr).cell? ⟨b, o + j * 6 + 2, none⟩ = _ := hcell 2 _ rfl
   have q3 : (wr).cell? ⟨b, o + j * 6 + 3, none⟩ = _ := hcell 3 _ rfl
   have q4 : (wr).cell? ⟨b, o + j * 6 + 4, none⟩ = _ := hcell 4 _ rfl
   have q5 : (wr).cell? ⟨b, o + j * 6 + 5, none⟩ = _ := hcell 5 _ rfl
   have i1 : (0 : Int) ≤ (j : Int) := by omega
   have i2 : (j : Int) < (f.len : Int) := by omega
   have i3 : (f.len : Int) ≤ 1000000 := by have := HZ.out; have := Fr.len_size f; omega
   obtain ⟨rb, hrb⟩ : ∃ z, z = rgtX (a1, q) := ⟨_, rfl⟩
   have hBK : Below w.heap.size w (wr.alloc (.cells #[.string (txt a1.name), .string (txt a1.key), .int .i64 a1.kind, .int .u64 (a1.num : Int), .string (txt a1.text), .slice A' q.len c'] 27)) := hB.alloc hB.size _
   have HRt : Hid (∀ W, Below w.heap.size w W → Calls Tryz.prog 45 #[.agg #[.string (txt a1.name), .string (txt a1.key), .int .i64 a1.kind, .int .u64 (a1.num : Int), .string (txt a1.text), .slice A' q.len c']] W (Ans9 (.bool rb) W)) := Lib.hid (fun W hW => by
    rw [hrb]; exact HI.out j a1 q hg a1 A' c' _ (hrow.under hW (Nat.le_refl _) hW.size) (by have := HZ.out; have := Fr.size_get hg; omega))
   have hbk : Blk (wr.alloc (.cells #[.string (txt a1.name), .string (txt a1.key), .int .i64 a1.kind, .int .u64 (a1.num : Int), .string (txt a1.text), .slice A' q.len c'] 27)) wr.heap.size 27 #[.string (txt a1.name), .string (txt a1.key), .int .i64 a1.kind, .int .u64 (a1.num : Int), .string (txt a1.text), .slice A' q.len c'] := Blk.new _ _ _
   have hbp : Blk (wr.alloc (.cells #[.string (txt a1.name), .string (txt a1.key), .int .i64 a1.kind, .int .u64 (a1.num : Int), .string (txt a1.text), .slice A' q.len c'] 27)) w.heap.size 27 #[.string (txt nm), .string (txt ky), .int .i64 0, .int .u64 0, .string (txt []), .slice (some ⟨b, o, none⟩) f.len c] := hP.alloc _
   have HBD := Lib.hid hBK.drew
   have HPD : Hid (Blk (wr.alloc (.cells #[.string (txt a1.name), .string (txt a1.key), .int .i64 a1.kind, .int .u64 (a1.num : Int), .string (txt a1.text), .slice A' q.len c'] 27)).drew w.heap.size 27 #[.string (txt nm), .string (txt ky), .int .i64 0, .int .u64 0, .string (txt []), .slice (some ⟨b, o, none⟩) f.len c]) := Lib.hid hbp
   have HKD : Hid (Blk (wr.alloc (.cells #[.string (txt a1.name), .string (txt a1.key), .int .i64 a1.kind, .int .u64 (a1.num : Int), .string (txt a1.text), .slice A' q.len c'] 27)).drew wr.heap.size 27 #[.string (txt a1.name), .string (txt a1.key), .int .i64 a1.kind, .int .u64 (a1.num : Int), .string (txt a1.text), .slice A' q.len c']) := Lib.hid hbk
   have HBL := Lib.hid hbl
   by_cases hj0 : j = 0
   ·subst hj0
    simp only [Nat.zero_mul, Nat.add_zero] at q0 q1 q2 q3 q4 q5
    have HLx : Hid (rb = false → rgtF f = false) := Lib.hid (fun h => right_none hlt (by rw [hok, ← hrb, h]; rfl))
    have HL2 : Hid (rb = true → ∀ n, n < 0 + 1 → okAt f n = true) := Lib.hid (fun h n hn => by
     rw [show n = 0 by omega, hok, ← hrb, h]; rfl)
    clear hcl hg hrow hcell hP hB hok hrb hbl hBK hbk hbp
    go_wp2_with fail
    clear q0 q1 q2 q3 q4 q5
    refine wp_region_noPanic ?_
    refine wp_region_held_drew (S := fun _ => True) (by kernel_rfl) trivial (fun hS => ?_)
    refine held_more (S' := fun w' => Blk w' wr.heap.size 27 #[.string (txt a1.name), .string (txt a1.key), .int .i64 a1.kind, .int .u64 (a1.num : Int), .string (txt a1.text), .slice A' q.len c']) (fun _ _ => trivial) _ _ _ _ ?_
    replace hS := HKD.out
    refine wpAnyH_take (i := 0) (oi := ?o_0) (v := ?v_0) ?i_0 (by kernel_rfl) (by kernel_rfl) (by kernel_rfl) (fun _ _ _ h => h) (Or.inl ⟨?g_0, ?y_0⟩) hS ?_
    case i_0 => simp only [layG]; rfl
    case g_0 => rfl
    case y_0 => (intro w hSw; (go_simp <;> with_reducible rfl))
    (try simp only [Act.put, layS])
    refine wpAnyH_take (i := 1) (oi := ?o_1) (v := ?v_1) ?i_1 (by kernel_rfl) (by kernel_rfl) (by kernel_rfl) (fun _ _ _ h => h) (Or.inl ⟨?g_1, ?y_1⟩) hS ?_
    case i_1 => simp only [layG]; rfl
    case g_1 => rfl
    case y_1 => (intro w hSw; (go_simp <;> with_reducible rfl))
    (try simp only [Act.put, layS])
    refine wpAnyH_take (i := 2) (oi := ?o_2) (v := ?v_2) ?i_2 (by kernel_rfl) (by kernel_rfl) (by kernel_rfl) (fun _ _ _ h => h) (Or.inl ⟨?g_2, ?y_2⟩) hS ?_
    case i_2 => simp only [layG]; rfl
    case g_2 => rfl
    case y_2 => (intro w hSw; (go_simp <;> with_reducible rfl))
    (try simp only [Act.put, layS])
    refine wpAnyH_take (i := 3) (oi := ?o_3) (v := undef) ?i_3 (by kernel_rfl) (by kernel_rfl) (by kernel_rfl) (fun _ _ _ h => h) (Or.inr ⟨?g_3, rfl⟩) hS ?_
    case i_3 => simp only [layG]; rfl
    case g_3 => rfl
    (try simp only [Act.put, layS])
    refine wpAnyH_take (i := 4) (oi := ?o_4) (v := undef) ?i_4 (by kernel_rfl) (by kernel_rfl) (by kernel_rfl) (fun _ _ _ h => h) (Or.inr ⟨?g_4, rfl⟩) hS ?_
    case i_4 => simp only [layG]; rfl
    case g_4 => rfl
    (try simp only [Act.put, layS])
    refine wpAnyH_take (i := 5) (oi := ?o_5) (v := undef) ?i_5 (by kernel_rfl) (by kernel_rfl) (by kernel_rfl) (fun _ _ _ h => h) (Or.inr ⟨?g_5, rfl⟩) hS ?_
    case i_5 => simp only [layG]; rfl
    case g_5 => rfl
    (try simp only [Act.put, layS])
    refine wpAnyH_take (i := 6) (oi := ?o_6) (v := undef) ?i_6 (by kernel_rfl) (by kernel_rfl) (by kernel_rfl) (fun _ _ _ h => h) (Or.inr ⟨?g_6, rfl⟩) hS ?_
    case i_6 => simp only [layG]; rfl
    case g_6 => rfl
    (try simp only [Act.put, layS])
    refine wpAnyH_take (i := 7) (oi := ?o_7) (v := undef) ?i_7 (by kernel_rfl) (by kernel_rfl) (by kernel_rfl) (fun _ _ _ h => h) (Or.inr ⟨?g_7, rfl⟩) hS ?_
    case i_7 => simp only [layG]; rfl
    case g_7 => rfl
    (try simp only [Act.put, layS])
    refine wpAnyH_take (i := 8) (oi := ?o_8) (v := undef) ?i_8 (by kernel_rfl) (by kernel_rfl) (by kernel_rfl) (fun _ _ _ h => h) (Or.inr ⟨?g_8, rfl⟩) hS ?_
    case i_8 => simp only [layG]; rfl
    case g_8 => rfl
    (try simp only [Act.put, layS])
    refine wpAnyH_take (i := 9) (oi := ?o_9) (v := undef) ?i_9 (by kernel_rfl) (by kernel_rfl) (by kernel_rfl) (fun _ _ _ h => h) (Or.inr ⟨?g_9, rfl⟩) hS ?_
    case i_9 => simp only [layG]; rfl
    case g_9 => rfl
    (try simp only [Act.put, layS])
    refine wpAnyH_take (i := 10) (oi := ?o_a) (v := undef) ?i_a (by kernel_rfl) (by kernel_rfl) (by kernel_rfl) (fun _ _ _ h => h) (Or.inr ⟨?g_a, rfl⟩) hS ?_
    case i_a => simp only [layG]; rfl
    case g_a => rfl
    (try simp only [Act.put, layS])
    refine wpAnyH_take (i := 11) (oi := ?o_b) (v := undef) ?i_b (by kernel_rfl) (by kernel_rfl) (by kernel_rfl) (fun _ _ _ h => h) (Or.inr ⟨?g_b, rfl⟩) hS ?_
    case i_b => simp only [layG]; rfl
    case g_b => rfl
    (try simp only [Act.put, layS])
    refine wpAnyH_take (i := 12) (oi := ?o_c) (v := ?v_c) ?i_c (by kernel_rfl) (by kernel_rfl) (by kernel_rfl) (fun _ _ _ h => h) (Or.inl ⟨?g_c, ?y_c⟩) hS ?_
    case i_c => simp only [layG]; rfl
    case g_c => rfl
    case y_c => (intro w hSw; (go_simp <;> with_reducible rfl))
    (try simp only [Act.put, layS])
    refine wpAnyH_take (i := 13) (oi := ?o_d) (v := ?v_d) ?i_d (by kernel_rfl) (by kernel_rfl) (by kernel_rfl) (fun _ _ _ h => h) (Or.inl ⟨?g_d, ?y_d⟩) hS ?_
    case i_d => simp only [layG]; rfl
    case g_d => rfl
    case y_d => (intro w hSw; (go_simp <;> with_reducible rfl))
    (try simp only [Act.put, layS])
    refine wpAnyH_take (i := 14) (oi := ?o_e) (v := ?v_e) ?i_e (by kernel_rfl) (by kernel_rfl) (by kernel_rfl) (fun _ _ _ h => h) (Or.inl ⟨?g_e, ?y_e⟩) hS ?_
    case i_e => simp only [layG]; rfl
    case g_e => rfl
    case y_e => (intro w hSw; have q0 := (hSw.cell 0).trans rfl; have q1 := (hSw.cell 1).trans rfl; have q2 := (hSw.cell 2).trans rfl; have q3 := (hSw.cell 3).trans rfl; have q4 := (hSw.cell 4).trans rfl; have q5 := (hSw.cell 5).trans rfl; (go_simp <;> with_reducible rfl))
    (try simp only [Act.put, layS])
    refine wpAnyH_ready (rs := [15]) (by kernel_rfl) (by simp) ?_
    refine (AllReadyH.cons (o := ?or_f) ?ir_f (fun K hK => ?str_f) AllReadyH.nil)
    case ir_f => simp only [layG]; rfl
    rw [if_pos (by rfl)]
    go_simp
    refine (HRt.out _ HBD.out).mono ?_
    rintro r w6 ⟨rfl, hb6⟩
    have HX6 := Lib.hid (HKD.out.below hb6 HKD.out.lt)
    have HP6 := Lib.hid (HPD.out.below hb6 HPD.out.lt)
    have HB6 := Lib.hid (HBD.out.trans (hb6.mono HBD.out.size))
    clear hb6
    go_wp2_with fail
    refine hK.out _ _ ?sr_f (fun hS => ?_)
    case sr_f => (exact HX6.out)
    clear hK K
    (try simp only [Act.put, layS])
    refine wpAnyH_take (i := 16) (oi := ?o_g) (v := ?v_g) ?i_g (by kernel_rfl) (by kernel_rfl) (by kernel_rfl) (fun _ _ _ h => h) (Or.inl ⟨?g_g, ?y_g⟩) hS ?_
    case i_g => simp only [layG]; rfl
    case g_g => rfl
    case y_g => (intro w hSw; (go_simp <;> with_reducible rfl))
    (try simp only [Act.put, layS])
    refine wpAnyH_take (i := 17) (oi := ?o_h) (v := ?v_h) ?i_h (by kernel_rfl) (by kernel_rfl) (by kernel_rfl) (fun _ _ _ h => h) (Or.inl ⟨?g_h, ?y_h⟩) hS ?_
    case i_h => simp only [layG]; rfl
    case g_h => rfl
    case y_h => (intro w hSw; (go_simp <;> with_reducible rfl))
    (try simp only [Act.put, layS])
    refine wpAnyH_done (by kernel_rfl) ?_ _
    refine NoPanic.normal ?_
    clear hS
    cases rb with
    | false =>
     go_wp2
     go_ret
     exact ⟨by rw [HLx.out (by first | rfl | trivial)]; rfl, HB6.out⟩
    | true =>
     go_wp2
     go_roundw
     case rel => exact ⟨0 + 1, by omega, by go_num, Lib.hid (HL2.out (by first | rfl | trivial)), HP6.out, HB6.out⟩
     case measure => simp [intOf]; omega
   ·obtain ⟨m, rfl⟩ : ∃ m, j = m + 1 := ⟨j - 1, by omega⟩
    obtain ⟨a0, k9, hg0⟩ := Fr.get_some (f := f) (n := m) (by omega)
    obtain ⟨b1, o1, A0, c0, ee, -, -, -, hrow0, hcl0⟩ := HK.out.at hg0
    injection ee with ee
    injection ee with e1 e2 e3
    subst e1 e2
    obtain ⟨lb, hlb⟩ : ∃ z, z = lessX a0 a1 := ⟨_, rfl⟩
    have hok2 : okAt f (m + 1) = (rb && lb) := by
     rw [hok, ← hrb, hlb]
     simp [hg0]
    have HLc : Hid (∀ W, Calls Tryz.prog 66 #[.agg #[.string (txt a0.name), .string (txt a0.key), .int .i64 a0.kind, .int .u64 (a0.num : Int), .string (txt a0.text), .slice A0 k9.len c0], .agg #[.string (txt a1.name), .string (txt a1.key), .int .i64 a1.kind, .int .u64 (a1.num : Int), .string (txt a1.text), .slice A' q.len c']] W (Ans9 (.bool lb) W)) := Lib.hid (fun W => by
     rw [hlb]; exact less_any a0 a1 _ _ _ rfl rfl)
    have HCD : Hid (∀ i u, (ndC a0 (.slice A0 k9.len c0))[i]? = some u → (wr.alloc (.cells #[.string (txt a1.name), .string (txt a1.key), .int .i64 a1.kind, .int .u64 (a1.num : Int), .string (txt a1.text), .slice A' q.len c'] 27)).drew.cell? ⟨b, o + m * 6 + i, none⟩ = some u) := Lib.hid (fun i u hu => (hBK.drew.cell (p := ⟨b, o + m * 6 + i, none⟩) hbl).trans (hcl0 i u hu))
    have n1 : (0 : Int) ≤ (m : Int) := by omega
    have n2 : (m : Int) < (f.len : Int) := by omega
    have n3 : decide ((m : Int) + 1 > 0) = true := decide_eq_true (by omega)
    have n4 : (0 : Int) < (m : Int) + 1 := by omega
    have n5 : (m : Int) + 1 < (f.len : Int) := by omega
    have HLx : Hid ((rb && lb) = false → rgtF f = false) := Lib.hid (fun h => right_none hlt (by rw [hok2, h]))
    have HL3 : Hid ((rb && lb) = true → ∀ n, n < m + 1 + 1 → okAt f n = true) := Lib.hid (fun h n hn => by
     by_cases e : n = m + 1
     ·rw [e, hok2, h]
     ·exact HL.out n (by omega))
    have jw : IntKind.i64.wrap (m : Int) = (m : Int) := Go.IntWalk.i64_in _ (by omega)
    have HJ := Lib.hid jw
    clear hcl hg hrow hcell hP hB hok hrb hbl hBK hbk hbp hcl0 hrow0 hg0 hlb hok2 hj0 jw
    cases lb with
    | false =>
     go_wp2_with fail
     clear q0 q1 q2 q3 q4 q5
     refine wp_region_noPanic ?_
     refine wp_region_held_drew (S := fun _ => True) (by kernel_rfl) trivial (fun hS => ?_)
     refine held_more (S' := fun w' => Blk w' w.heap.size 27 #[.string (txt nm), .string (txt ky), .int .i64 0, .int .u64 0, .string (txt []), .slice (some ⟨b, o, none⟩) f.len c] ∧ Blk w' wr.heap.size 27 #[.string (txt a1.name), .string (txt a1.key), .int .i64 a1.kind, .int .u64 (a1.num : Int), .string (txt a1.text), .slice A' q.len c'] ∧ ∀ i u, (ndC a0 (.slice A0 k9.len c0))[i]? = some u → w'.cell? ⟨b, o + m * 6 + i, none⟩ = some u) (fun _ _ => trivial) _ _ _ _ ?_
     replace hS := And.intro HPD.out (And.intro HKD.out HCD.out)
     refine wpAnyH_take (i := 0) (oi := ?o_i) (v := ?v_i) ?i_i (by kernel_rfl) (by kernel_rfl) (by kernel_rfl) (fun _ _ _ h => h) (Or.inl ⟨?g_i, ?y_i⟩) hS ?_
     case i_i => simp only [layG]; rfl
     case g_i => rfl
     case y_i => (intro w hSw; (go_simp <;> with_reducible rfl))
     (try simp only [Act.put, layS])
     refine wpAnyH_take (i := 1) (oi := ?o_j) (v := ?v_j) ?i_j (by kernel_rfl) (by kernel_rfl) (by kernel_rfl) (fun _ _ _ h => h) (Or.inl ⟨?g_j, ?y_j⟩) hS ?_
     case i_j => simp only [layG]; rfl
     case g_j => rfl
     case y_j => (intro w hSw; (go_simp <;> with_reducible rfl))
     (try simp only [Act.put, layS])
     refine wpAnyH_take (i := 2) (oi := ?o_k) (v := ?v_k) ?i_k (by kernel_rfl) (by kernel_rfl) (by kernel_rfl) (fun _ _ _ h => h) (Or.inl ⟨?g_k, ?y_k⟩) hS ?_
     case i_k => simp only [layG]; rfl
     case g_k => rfl
     case y_k => (intro w hSw; (go_simp <;> with_reducible rfl))
     (try simp only [Act.put, layS])
     refine wpAnyH_take (i := 3) (oi := ?o_l) (v := ?v_l) ?i_l (by kernel_rfl) (by kernel_rfl) (by kernel_rfl) (fun _ _ _ h => h) (Or.inl ⟨?g_l, ?y_l⟩) hS ?_
     case i_l => simp only [layG]; rfl
     case g_l => rfl
     case y_l => (intro w hSw; (go_simp <;> with_reducible rfl))
     (try simp only [Act.put, layS])
     refine wpAnyH_take (i := 4) (oi := ?o_m) (v := ?v_m) ?i_m (by kernel_rfl) (by kernel_rfl) (by kernel_rfl) (fun _ _ _ h => h) (Or.inl ⟨?g_m, ?y_m⟩) hS ?_
     case i_m => simp only [layG]; rfl
     case g_m => rfl
     case y_m => (intro w hSw; have q5 := (hSw.1.cell 5).trans rfl; (go_simp <;> with_reducible rfl))
     (try simp only [Act.put, layS])
     refine wpAnyH_take (i := 5) (oi := ?o_n) (v := ?v_n) ?i_n (by kernel_rfl) (by kernel_rfl) (by kernel_rfl) (fun _ _ _ h => h) (Or.inl ⟨?g_n, ?y_n⟩) hS ?_
     case i_n => simp only [layG]; rfl
     case g_n => rfl
     case y_n => (intro w hSw; (go_simp <;> with_reducible rfl))
     (try simp only [Act.put, layS])
     refine wpAnyH_take (i := 6) (oi := ?o_o) (v := ?v_o) ?i_o (by kernel_rfl) (by kernel_rfl) (by kernel_rfl) (fun _ _ _ h => h) (Or.inl ⟨?g_o, ?y_o⟩) hS ?_
     case i_o => simp only [layG]; rfl
     case g_o => rfl
     case y_o => (intro w hSw; have jw := HJ.out; (go_simp <;> with_reducible rfl))
     (try simp only [Act.put, layS])
     refine wpAnyH_take (i := 7) (oi := ?o_p) (v := ?v_p) ?i_p (by kernel_rfl) (by kernel_rfl) (by kernel_rfl) (fun _ _ _ h => h) (Or.inl ⟨?g_p, ?y_p⟩) hS ?_
     case i_p => simp only [layG]; rfl
     case g_p => rfl
     case y_p => (intro w hSw; (go_simp <;> with_reducible rfl))
     (try simp only [Act.put, layS])
     refine wpAnyH_take (i := 8) (oi := ?o_q) (v := ?v_q) ?i_q (by kernel_rfl) (by kernel_rfl) (by kernel_rfl) (fun _ _ _ h => h) (Or.inl ⟨?g_q, ?y_q⟩) hS ?_
     case i_q => simp only [layG]; rfl
     case g_q => rfl
     case y_q => (intro w hSw; have u0 : w.cell? ⟨b, o + m * 6, none⟩ = _ := hSw.2.2 0 _ rfl; have u1 := hSw.2.2 1 _ rfl; have u2 := hSw.2.2 2 _ rfl; have u3 := hSw.2.2 3 _ rfl; have u4 := hSw.2.2 4 _ rfl; have u5 := hSw.2.2 5 _ rfl; (go_simp <;> with_reducible rfl))
     (try simp only [Act.put, layS])
     refine wpAnyH_take (i := 9) (oi := ?o_r) (v := ?v_r) ?i_r (by kernel_rfl) (by kernel_rfl) (by kernel_rfl) (fun _ _ _ h => h) (Or.inl ⟨?g_r, ?y_r⟩) hS ?_
     case i_r => simp only [layG]; rfl
     case g_r => rfl
     case y_r => (intro w hSw; have q0 := (hSw.2.1.cell 0).trans rfl; have q1 := (hSw.2.1.cell 1).trans rfl; have q2 := (hSw.2.1.cell 2).trans rfl; have q3 := (hSw.2.1.cell 3).trans rfl; have q4 := (hSw.2.1.cell 4).trans rfl; have q5 := (hSw.2.1.cell 5).trans rfl; (go_simp <;> with_reducible rfl))
     (try simp only [Act.put, layS])
     refine wpAnyH_ready (rs := [10]) (by kernel_rfl) (by simp) ?_
     refine (AllReadyH.cons (o := ?or_s) ?ir_s (fun K hK => ?str_s) AllReadyH.nil)
     case ir_s => simp only [layG]; rfl
     rw [if_pos (by rfl)]
     go_simp
     refine (HLc.out _).mono ?_
     rintro r w5 ⟨rfl, hb5⟩
     have HX5 := Lib.hid (HKD.out.below hb5 HKD.out.lt)
     have HP5 := Lib.hid (HPD.out.below hb5 HPD.out.lt)
     have HB5 := Lib.hid (HBD.out.trans (hb5.mono HBD.out.size))
     have HC5 : Hid (∀ i u, (ndC a0 (.slice A0 k9.len c0))[i]? = some u → w5.cell? ⟨b, o + m * 6 + i, none⟩ = some u) := Lib.hid (fun i u hu => (hb5.cell (p := ⟨b, o + m * 6 + i, none⟩) (Nat.lt_of_lt_of_le HBL.out HBD.out.size)).trans (HCD.out i u hu))
     clear hb5
     go_wp2_with fail
     refine hK.out _ _ ?sr_s (fun hS => ?_)
     case sr_s => (exact ⟨HP5.out, HX5.out, HC5.out⟩)
     clear hK K
     (try simp only [Act.put, layS])
     refine wpAnyH_take (i := 11) (oi := ?o_t) (v := ?v_t) ?i_t (by kernel_rfl) (by kernel_rfl) (by kernel_rfl) (fun _ _ _ h => h) (Or.inl ⟨?g_t, ?y_t⟩) hS ?_
     case i_t => simp only [layG]; rfl
     case g_t => rfl
     case y_t => (intro w hSw; (go_simp <;> with_reducible rfl))
     (try simp only [Act.put, layS])
     refine wpAnyH_take (i := 12) (oi := ?o_u) (v := ?v_u) ?i_u (by kernel_rfl) (by kernel_rfl) (by kernel_rfl) (fun _ _ _ h => h) (Or.inl ⟨?g_u, ?y_u⟩) hS ?_
     case i_u => simp only [layG]; rfl
     case g_u => rfl
     case y_u => (intro w hSw; (go_simp <;> with_reducible rfl))
     (try simp only [Act.put, layS])
     refine wpAnyH_take (i := 13) (oi := ?o_v) (v := ?v_v) ?i_v (by kernel_rfl) (by kernel_rfl) (by kernel_rfl) (fun _ _ _ h => h) (Or.inl ⟨?g_v, ?y_v⟩) hS ?_
     case i_v => simp only [layG]; rfl
     case g_v => rfl
     case y_v => (intro w hSw; (go_simp <;> with_reducible rfl))
     (try simp only [Act.put, layS])
     refine wpAnyH_take (i := 14) (oi := ?o_w) (v := undef) ?i_w (by kernel_rfl) (by kernel_rfl) (by kernel_rfl) (fun _ _ _ h => h) (Or.inr ⟨?g_w, rfl⟩) hS ?_
     case i_w => simp only [layG]; rfl
     case g_w => rfl
     (try simp only [Act.put, layS])
     refine wpAnyH_take (i := 15) (oi := ?o_x) (v := undef) ?i_x (by kernel_rfl) (by kernel_rfl) (by kernel_rfl) (fun _ _ _ h => h) (Or.inr ⟨?g_x, rfl⟩) hS ?_
     case i_x => simp only [layG]; rfl
     case g_x => rfl
     (try simp only [Act.put, layS])
     refine wpAnyH_take (i := 16) (oi := ?o_y) (v := undef) ?i_y (by kernel_rfl) (by kernel_rfl) (by kernel_rfl) (fun _ _ _ h => h) (Or.inr ⟨?g_y, rfl⟩) hS ?_
     case i_y => simp only [layG]; rfl
     case g_y => rfl
     (try simp only [Act.put, layS])
     refine wpAnyH_take (i := 17) (oi := ?o_z) (v := ?v_z) ?i_z (by kernel_rfl) (by kernel_rfl) (by kernel_rfl) (fun _ _ _ h => h) (Or.inl ⟨?g_z, ?y_z⟩) hS ?_
     case i_z => simp only [layG]; rfl
     case g_z => rfl
     case y_z => (intro w hSw; (go_simp <;> with_reducible rfl))
     (try simp only [Act.put, layS])
     refine wpAnyH_done (by kernel_rfl) ?_ _
     refine NoPanic.normal ?_
     clear hS
     go_wp2
     go_ret
     exact ⟨by rw [HLx.out (by simp)]; rfl, HB5.out⟩
    | true =>
     go_wp2_with fail
     clear q0 q1 q2 q3 q4 q5
     refine wp_region_noPanic ?_
     refine wp_region_held_drew (S := fun _ => True) (by kernel_rfl) trivial (fun hS => ?_)
     refine held_more (S' := fun w' => Blk w' w.heap.size 27 #[.string (txt nm), .string (txt ky), .int .i64 0, .int .u64 0, .string (txt []), .slice (some ⟨b, o, none⟩) f.len c] ∧ Blk w' wr.heap.size 27 #[.string (txt a1.name), .string (txt a1.key), .int .i64 a1.kind, .int .u64 (a1.num : Int), .string (txt a1.text), .slice A' q.len c'] ∧ ∀ i u, (ndC a0 (.slice A0 k9.len c0))[i]? = some u → w'.cell? ⟨b, o + m * 6 + i, none⟩ = some u) (fun _ _ => trivial) _ _ _ _ ?_
     replace hS := And.intro HPD.out (And.intro HKD.out HCD.out)
     refine wpAnyH_take (i := 0) (oi := ?o_10) (v := ?v_10) ?i_10 (by kernel_rfl) (by kernel_rfl) (by kernel_rfl) (fun _ _ _ h => h) (Or.inl ⟨?g_10, ?y_10⟩) hS ?_
     case i_10 => simp only [layG]; rfl
     case g_10 => rfl
     case y_10 => (intro w hSw; (go_simp <;> with_reducible rfl))
     (try simp only [Act.put, layS])
     refine wpAnyH_take (i := 1) (oi := ?o_11) (v := ?v_11) ?i_11 (by kernel_rfl) (by kernel_rfl) (by kernel_rfl) (fun _ _ _ h => h) (Or.inl ⟨?g_11, ?y_11⟩) hS ?_
     case i_11 => simp only [layG]; rfl
     case g_11 => rfl
     case y_11 => (intro w hSw; (go_simp <;> with_reducible rfl))
     (try simp only [Act.put, layS])
     refine wpAnyH_take (i := 2) (oi := ?o_12) (v := ?v_12) ?i_12 (by kernel_rfl) (by kernel_rfl) (by kernel_rfl) (fun _ _ _ h => h) (Or.inl ⟨?g_12, ?y_12⟩) hS ?_
     case i_12 => simp only [layG]; rfl
     case g_12 => rfl
     case y_12 => (intro w hSw; (go_simp <;> with_reducible rfl))
     (try simp only [Act.put, layS])
     refine wpAnyH_take (i := 3) (oi := ?o_13) (v := ?v_13) ?i_13 (by kernel_rfl) (by kernel_rfl) (by kernel_rfl) (fun _ _ _ h => h) (Or.inl ⟨?g_13, ?y_13⟩) hS ?_
     case i_13 => simp only [layG]; rfl
     case g_13 => rfl
     case y_13 => (intro w hSw; (go_simp <;> with_reducible rfl))
     (try simp only [Act.put, layS])
     refine wpAnyH_take (i := 4) (oi := ?o_14) (v := ?v_14) ?i_14 (by kernel_rfl) (by kernel_rfl) (by kernel_rfl) (fun _ _ _ h => h) (Or.inl ⟨?g_14, ?y_14⟩) hS ?_
     case i_14 => simp only [layG]; rfl
     case g_14 => rfl
     case y_14 => (intro w hSw; have q5 := (hSw.1.cell 5).trans rfl; (go_simp <;> with_reducible rfl))
     (try simp only [Act.put, layS])
     refine wpAnyH_take (i := 5) (oi := ?o_15) (v := ?v_15) ?i_15 (by kernel_rfl) (by kernel_rfl) (by kernel_rfl) (fun _ _ _ h => h) (Or.inl ⟨?g_15, ?y_15⟩) hS ?_
     case i_15 => simp only [layG]; rfl
     case g_15 => rfl
     case y_15 => (intro w hSw; (go_simp <;> with_reducible rfl))
     (try simp only [Act.put, layS])
     refine wpAnyH_take (i := 6) (oi := ?o_16) (v := ?v_16) ?i_16 (by kernel_rfl) (by kernel_rfl) (by kernel_rfl) (fun _ _ _ h => h) (Or.inl ⟨?g_16, ?y_16⟩) hS ?_
     case i_16 => simp only [layG]; rfl
     case g_16 => rfl
     case y_16 => (intro w hSw; have jw := HJ.out; (go_simp <;> with_reducible rfl))
     (try simp only [Act.put, layS])
     refine wpAnyH_take (i := 7) (oi := ?o_17) (v := ?v_17) ?i_17 (by kernel_rfl) (by kernel_rfl) (by kernel_rfl) (fun _ _ _ h => h) (Or.inl ⟨?g_17, ?y_17⟩) hS ?_
     case i_17 => simp only [layG]; rfl
     case g_17 => rfl
     case y_17 => (intro w hSw; (go_simp <;> with_reducible rfl))
     (try simp only [Act.put, layS])
     refine wpAnyH_take (i := 8) (oi := ?o_18) (v := ?v_18) ?i_18 (by kernel_rfl) (by kernel_rfl) (by kernel_rfl) (fun _ _ _ h => h) (Or.inl ⟨?g_18, ?y_18⟩) hS ?_
     case i_18 => simp only [layG]; rfl
     case g_18 => rfl
     case y_18 => (intro w hSw; have u0 : w.cell? ⟨b, o + m * 6, none⟩ = _ := hSw.2.2 0 _ rfl; have u1 := hSw.2.2 1 _ rfl; have u2 := hSw.2.2 2 _ rfl; have u3 := hSw.2.2 3 _ rfl; have u4 := hSw.2.2 4 _ rfl; have u5 := hSw.2.2 5 _ rfl; (go_simp <;> with_reducible rfl))
     (try simp only [Act.put, layS])
     refine wpAnyH_take (i := 9) (oi := ?o_19) (v := ?v_19) ?i_19 (by kernel_rfl) (by kernel_rfl) (by kernel_rfl) (fun _ _ _ h => h) (Or.inl ⟨?g_19, ?y_19⟩) hS ?_
     case i_19 => simp only [layG]; rfl
     case g_19 => rfl
     case y_19 => (intro w hSw; have q0 := (hSw.2.1.cell 0).trans rfl; have q1 := (hSw.2.1.cell 1).trans rfl; have q2 := (hSw.2.1.cell 2).trans rfl; have q3 := (hSw.2.1.cell 3).trans rfl; have q4 := (hSw.2.1.cell 4).trans rfl; have q5 := (hSw.2.1.cell 5).trans rfl; (go_simp <;> with_reducible rfl))
     (try simp only [Act.put, layS])
     refine wpAnyH_ready (rs := [10]) (by kernel_rfl) (by simp) ?_
     refine (AllReadyH.cons (o := ?or_1a) ?ir_1a (fun K hK => ?str_1a) AllReadyH.nil)
     case ir_1a => simp only [layG]; rfl
     rw [if_pos (by rfl)]
     go_simp
     refine (HLc.out _).mono ?_
     rintro r w5 ⟨rfl, hb5⟩
     have HX5 := Lib.hid (HKD.out.below hb5 HKD.out.lt)
     have HP5 := Lib.hid (HPD.out.below hb5 HPD.out.lt)
     have HB5 := Lib.hid (HBD.out.trans (hb5.mono HBD.out.size))
     have HC5 : Hid (∀ i u, (ndC a0 (.slice A0 k9.len c0))[i]? = some u → w5.cell? ⟨b, o + m * 6 + i, none⟩ = some u) := Lib.hid (fun i u hu => (hb5.cell (p := ⟨b, o + m * 6 + i, none⟩) (Nat.lt_of_lt_of_le HBL.out HBD.out.size)).trans (HCD.out i u hu))
     clear hb5
     go_wp2_with fail
     refine hK.out _ _ ?sr_1a (fun hS => ?_)
     case sr_1a => (exact ⟨HP5.out, HX5.out, HC5.out⟩)
     clear hK K
     (try simp only [Act.put, layS])
     refine wpAnyH_take (i := 11) (oi := ?o_1b) (v := ?v_1b) ?i_1b (by kernel_rfl) (by kernel_rfl) (by kernel_rfl) (fun _ _ _ h => h) (Or.inl ⟨?g_1b, ?y_1b⟩) hS ?_
     case i_1b => simp only [layG]; rfl
     case g_1b => rfl
     case y_1b => (intro w hSw; (go_simp <;> with_reducible rfl))
     (try simp only [Act.put, layS])
     refine wpAnyH_take (i := 12) (oi := ?o_1c) (v := ?v_1c) ?i_1c (by kernel_rfl) (by kernel_rfl) (by kernel_rfl) (fun _ _ _ h => h) (Or.inl ⟨?g_1c, ?y_1c⟩) hS ?_
     case i_1c => simp only [layG]; rfl
     case g_1c => rfl
     case y_1c => (intro w hSw; (go_simp <;> with_reducible rfl))
     (try simp only [Act.put, layS])
     refine wpAnyH_take (i := 13) (oi := ?o_1d) (v := ?v_1d) ?i_1d (by kernel_rfl) (by kernel_rfl) (by kernel_rfl) (fun _ _ _ h => h) (Or.inl ⟨?g_1d, ?y_1d⟩) hS ?_
     case i_1d => simp only [layG]; rfl
     case g_1d => rfl
     case y_1d => (intro w hSw; (go_simp <;> with_reducible rfl))
     (try simp only [Act.put, layS])
     refine wpAnyH_take (i := 14) (oi := ?o_1e) (v := ?v_1e) ?i_1e (by kernel_rfl) (by kernel_rfl) (by kernel_rfl) (fun _ _ _ h => h) (Or.inl ⟨?g_1e, ?y_1e⟩) hS ?_
     case i_1e => simp only [layG]; rfl
     case g_1e => rfl
     case y_1e => (intro w hSw; have q0 := (hSw.2.1.cell 0).trans rfl; have q1 := (hSw.2.1.cell 1).trans rfl; have q2 := (hSw.2.1.cell 2).trans rfl; have q3 := (hSw.2.1.cell 3).trans rfl; have q4 := (hSw.2.1.cell 4).trans rfl; have q5 := (hSw.2.1.cell 5).trans rfl; (go_simp <;> with_reducible rfl))
     (try simp only [Act.put, layS])
     refine wpAnyH_ready (rs := [15]) (by kernel_rfl) (by simp) ?_
     refine (AllReadyH.cons (o := ?or_1f) ?ir_1f (fun K hK => ?str_1f) AllReadyH.nil)
     case ir_1f => simp only [layG]; rfl
     rw [if_pos (by rfl)]
     go_simp
     refine (HRt.out _ HB5.out).mono ?_
     rintro r w6 ⟨rfl, hb6⟩
     have HX6 := Lib.hid (HX5.out.below hb6 HX5.out.lt)
     have HP6 := Lib.hid (HP5.out.below hb6 HP5.out.lt)
     have HB6 := Lib.hid (HB5.out.trans (hb6.mono HB5.out.size))
     have HC6 : Hid (∀ i u, (ndC a0 (.slice A0 k9.len c0))[i]? = some u → w6.cell? ⟨b, o + m * 6 + i, none⟩ = some u) := Lib.hid (fun i u hu => (hb6.cell (p := ⟨b, o + m * 6 + i, none⟩) (Nat.lt_of_lt_of_le HBL.out HB5.out.size)).trans (HC5.out i u hu))
     clear hb6
     go_wp2_with fail
     refine hK.out _ _ ?sr_1f (fun hS => ?_)
     case sr_1f => (exact ⟨HP6.out, HX6.out, HC6.out⟩)
     clear hK K
     (try simp only [Act.put, layS])
     refine wpAnyH_take (i := 16) (oi := ?o_1g) (v := ?v_1g) ?i_1g (by kernel_rfl) (by kernel_rfl) (by kernel_rfl) (fun _ _ _ h => h) (Or.inl ⟨?g_1g, ?y_1g⟩) hS ?_
     case i_1g => simp only [layG]; rfl
     case g_1g => rfl
     case y_1g => (intro w hSw; (go_simp <;> with_reducible rfl))
     (try simp only [Act.put, layS])
     refine wpAnyH_take (i := 17) (oi := ?o_1h) (v := ?v_1h) ?i_1h (by kernel_rfl) (by kernel_rfl) (by kernel_rfl) (fun _ _ _ h => h) (Or.inl ⟨?g_1h, ?y_1h⟩) hS ?_
     case i_1h => simp only [layG]; rfl
     case g_1h => rfl
     case y_1h => (intro w hSw; (go_simp <;> with_reducible rfl))
     (try simp only [Act.put, layS])
     refine wpAnyH_done (by kernel_rfl) ?_ _
     refine NoPanic.normal ?_
     clear hS
     cases rb with
     | false =>
      go_wp2
      go_ret
      exact ⟨by rw [HLx.out (by first | rfl | trivial)]; rfl, HB6.out⟩
     | true =>
      go_wp2
      go_roundw
      case rel => exact ⟨m + 1 + 1, by omega, by go_num, Lib.hid (HL3.out (by first | rfl | trivial)), HP6.out, HB6.out⟩
      case measure => simp [intOf]; omega
  ·have i2 : ¬ (j : Int) < (f.len : Int) := by omega
   have HF : Hid (rgtF f = true) := Lib.hid (right_at.2 (fun n hn => HL.out n (by omega)))
   clear hP hB
   go_wp2
   go_ret
   exact ⟨by rw [HF.out]; rfl, HBr.out⟩
theorem drightf_any (f : NdF) : DRightP f := by
 refine Fr.byKids (P := DRightP) ?_ f
 clear f
 intro f hkids a A c w hk hsz
 by_cases h0 : a.kind = 0
 ·obtain ⟨nm, ky, kd, nu, tx⟩ := a
  simp only at h0
  subst h0
  by_cases h1 : nu = 0 ∧ tx = []
  ·obtain ⟨rfl, rfl⟩ := h1
   have e : rgtX ((⟨nm, ky, 0, 0, []⟩ : NdD), f) = rgtF f := by unfold rgtX; simp
   rw [e]
   exact dright_row f hkids nm ky A c w hk hsz
  ·have e : rgtX ((⟨nm, ky, 0, nu, tx⟩ : NdD), f) = false := by unfold rgtX; simp; intro h2 h3; exact absurd ⟨h2, h3⟩ h1
   rw [e]
   exact dright_box f nm ky nu tx A c w h1
 ·exact dright_leaf f a A c w h0
end Go.Proofs.YtljjaikejfoanaaGreat
