/- TrvB -/
import Derived.Test.YtodlhgflfcadmaaGreatUM6
set_option linter.unusedSimpArgs false
set_option linter.unusedVariables false
set_option maxRecDepth 100000
set_option maxHeartbeats 8000000
namespace Go.Proofs.YtodlhgflfcadmaaGreat
open Go.RowKit
def DRightP (f : NdF) : Prop := ∀ (a : NdD) (A : Option Addr) (c : Nat) (w : World), RowT w.heap.size w (.slice A f.len c) f → f.size ≤ 1000000 →
  Calls Tryz.prog 81 #[.agg (cN a (.slice A f.len c))] w (Ans9 (.bool (rgtX (a, f))) w)
theorem dright_leaf (f : NdF) (a : NdD) (A : Option Addr) (c : Nat) (w : World) (h0 : a.kind ≠ 0) :
  Calls Tryz.prog 81 #[.agg (cN a (.slice A f.len c))] w (Ans9 (.bool (rgtX (a, f))) w) := by
 have h1 : Blk (w.alloc (.cells (cN a (.slice A f.len c)) 27)) w.heap.size 27 (cN a (.slice A f.len c)) := Blk.new _ _ _
 have HB0 : Hid (Below w.heap.size w (w.alloc (.cells (cN a (.slice A f.len c)) 27))) := hHd bAl
 have HL : Hid (∀ W, Calls Tryz.prog 103 #[.agg (cN a (.slice A f.len c))] W (Ans9 (.bool true) W)) := hHd (fun W => by
  have h := leafis_any a (.slice A f.len c) W
  rw [show decide (a.kind ≠ 0) = true by simp [h0]] at h
  exact h)
 have HV : Hid (rgtX (a, f) = decide (f.len = 0)) := hHd (by unfold rgtX; rw [if_pos h0])
 have H1 := hHd h1
 obtain ⟨q0, q1, q2, q3, q4, q5⟩ := cl6 H1.out
 clear h1 h0
 by_cases hl : f.len = 0
 ·have e3 : ((f.len : Int) == 0) = true := by simp [hl]
  have HW : Hid (f.len = 0) := hHd hl
  clear hl
  go_enter Tryz.func81, Tryz.ntmps81
  go_wp2_with fail
  refine (HL.out _).mono ?_
  rintro r w3 ⟨rfl, hb3⟩
  have q5' : w3.cell? ⟨w.heap.size, 5, none⟩ = some (.slice A f.len c) := ((H1.out.below hb3 H1.out.lt).cell 5).trans rfl
  have HB3 := hHd (HB0.out.trans (hb3.mono HB0.out.size))
  clear hb3
  go_wp2
  go_ret
  exact ⟨by rw [HV.out, decide_eq_true HW.out]; rfl, HB3.out⟩
 ·have e3 : ((f.len : Int) == 0) = false := by simp [hl]
  have HW : Hid (¬ f.len = 0) := hHd hl
  clear hl
  go_enter Tryz.func81, Tryz.ntmps81
  go_wp2_with fail
  refine (HL.out _).mono ?_
  rintro r w3 ⟨rfl, hb3⟩
  have q5' : w3.cell? ⟨w.heap.size, 5, none⟩ = some (.slice A f.len c) := ((H1.out.below hb3 H1.out.lt).cell 5).trans rfl
  have HB3 := hHd (HB0.out.trans (hb3.mono HB0.out.size))
  clear hb3
  go_wp2
  go_ret
  exact ⟨by rw [HV.out, decide_eq_false HW.out]; rfl, HB3.out⟩
theorem dright_box (f : NdF) (nm ky : List UInt8) (nu : Nat) (tx : List UInt8) (A : Option Addr) (c : Nat) (w : World) (h0 : ¬ (nu = 0 ∧ tx = [])) :
  Calls Tryz.prog 81 #[.agg #[.string (txt nm), .string (txt ky), .int .i64 0, .int .u64 (nu : Int), .string (txt tx), .slice A f.len c]] w (Ans9 (.bool false) w) := by
 have h1 : Blk (w.alloc (.cells #[.string (txt nm), .string (txt ky), .int .i64 0, .int .u64 (nu : Int), .string (txt tx), .slice A f.len c] 27)) w.heap.size 27 #[.string (txt nm), .string (txt ky), .int .i64 0, .int .u64 (nu : Int), .string (txt tx), .slice A f.len c] := Blk.new _ _ _
 have HB0 : Hid (Below w.heap.size w (w.alloc (.cells #[.string (txt nm), .string (txt ky), .int .i64 0, .int .u64 (nu : Int), .string (txt tx), .slice A f.len c] 27))) := hHd bAl
 have HL : Hid (∀ W, Calls Tryz.prog 103 #[.agg #[.string (txt nm), .string (txt ky), .int .i64 0, .int .u64 (nu : Int), .string (txt tx), .slice A f.len c]] W (Ans9 (.bool false) W)) := hHd (fun W => leafis_any (⟨nm, ky, 0, nu, tx⟩ : NdD) (.slice A f.len c) W)
 have H1 := hHd h1
 obtain ⟨q0, q1, q2, q3, q4, q5⟩ := cl6 H1.out
 have tt : (txt tx).toList = tx := txt_toList _
 clear h1
 by_cases h2 : nu = 0
 ·subst h2
  have e4 : tx.isEmpty = false := by cases tx with | nil => exact absurd ⟨rfl, rfl⟩ h0 | cons => rfl
  have e5 : (tx == []) = false := by cases tx with | nil => cases e4 | cons => rfl
  clear h0
  go_enter Tryz.func81, Tryz.ntmps81
  go_wp2_with fail
  refine (HL.out _).mono ?_
  rintro r w3 ⟨rfl, hb3⟩
  have HP := hHd (H1.out.below hb3 H1.out.lt)
  have HB3 := hHd (HB0.out.trans (hb3.mono HB0.out.size))
  clear hb3
  obtain ⟨p0, p1, p2, p3, p4, p5⟩ := cl6 HP.out
  go_wp2
  go_ret
  exact ⟨rfl, HB3.out⟩
 ·have e3 : ((nu : Int) == 0) = false := by simp [h2]
  have e6 : (nu == 0) = false := by simp [h2]
  clear h0
  go_enter Tryz.func81, Tryz.ntmps81
  go_wp2_with fail
  refine (HL.out _).mono ?_
  rintro r w3 ⟨rfl, hb3⟩
  have HP := hHd (H1.out.below hb3 H1.out.lt)
  have HB3 := hHd (HB0.out.trans (hb3.mono HB0.out.size))
  clear hb3
  obtain ⟨p0, p1, p2, p3, p4, p5⟩ := cl6 HP.out
  go_wp2
  go_ret
  exact ⟨rfl, HB3.out⟩
theorem dright_row (f : NdF) (hkids : ∀ n a k, f.get? n = some (a, k) → DRightP k) (nm ky : List UInt8) (A : Option Addr) (c : Nat) (w : World) (hk : RowT w.heap.size w (.slice A f.len c) f) (hsz : f.size ≤ 1000000) :
  Calls Tryz.prog 81 #[.agg #[.string (txt nm), .string (txt ky), .int .i64 0, .int .u64 0, .string (txt []), .slice A f.len c]] w (Ans9 (.bool (rgtF f)) w) := by
 have h1 : Blk (w.alloc (.cells #[.string (txt nm), .string (txt ky), .int .i64 0, .int .u64 0, .string (txt []), .slice A f.len c] 27)) w.heap.size 27 #[.string (txt nm), .string (txt ky), .int .i64 0, .int .u64 0, .string (txt []), .slice A f.len c] := Blk.new _ _ _
 have HB0 : Hid (Below w.heap.size w (w.alloc (.cells #[.string (txt nm), .string (txt ky), .int .i64 0, .int .u64 0, .string (txt []), .slice A f.len c] 27))) := hHd bAl
 have HL0 : Hid (∀ W, Calls Tryz.prog 103 #[.agg #[.string (txt nm), .string (txt ky), .int .i64 0, .int .u64 0, .string (txt []), .slice A f.len c]] W (Ans9 (.bool false) W)) := hHd (fun W => leafis_any (⟨nm, ky, 0, 0, []⟩ : NdD) (.slice A f.len c) W)
 have H1 := hHd h1
 obtain ⟨q0, q1, q2, q3, q4, q5⟩ := cl6 H1.out
 have HI := hHd hkids
 have HK : Hid (RowT w.heap.size w (.slice A f.len c) f) := hHd hk
 have HZ : Hid (f.size ≤ 1000000) := hHd hsz
 have tt : (txt []).toList = [] := txt_toList _
 clear hkids hk hsz h1
 go_enter Tryz.func81, Tryz.ntmps81
 go_wp2_with fail
 refine (HL0.out _).mono ?_
 rintro r w3 ⟨rfl, hb3⟩
 have HP := hHd (H1.out.below hb3 H1.out.lt)
 have HB3 := hHd (HB0.out.trans (hb3.mono HB0.out.size))
 clear hb3 q0 q1 q2 q3 q4 q5
 obtain ⟨p0, p1, p2, p3, p4, p5⟩ := cl6 HP.out
 go_wp2
 go_loopw [18] (fun i wr => ∃ j : Nat, j ≤ f.len ∧ i = .int .i64 (j : Int) ∧ Hid (∀ n, n < j → okAt f n = true) ∧ Blk wr w.heap.size 27 #[.string (txt nm), .string (txt ky), .int .i64 0, .int .u64 0, .string (txt []), .slice A f.len c] ∧ Below w.heap.size w wr) (fun i _ => f.len - (intOf i).toNat)
 case atStart => exact ⟨0, Nat.zero_le _, rfl, hHd (fun n h => by omega), HP.out, HB3.out⟩
 case round =>
  clear p0 p1 p2 p3 p4 p5 HP HB3
  obtain ⟨j, hj, rfl, HL, hP, hB⟩ := hrel
  have HBr := hHd hB
  have HP := hHd hP
  by_cases hlt : j < f.len
  ·obtain ⟨a1, q, hg⟩ := Fr.get_some hlt
   have hok := okAt_at hg
   obtain ⟨b, o, A', c', rfl, -, -, hbl, hrow, hcl⟩ := HK.out.at hg
   have hcell : ∀ i u, (ndC a1 (.slice A' q.len c'))[i]? = some u → wr.cell? ⟨b, o + j * 6 + i, none⟩ = some u := fun i u hu => (hB.cell (p := ⟨b, o + j * 6 + i, none⟩) hbl).trans (hcl i u hu)
   have q0 : (wr).cell? ⟨b, o + j * 6, none⟩ = _ := hcell 0 _ rfl
   have q1 : (wr).cell? ⟨b, o + j * 6 + 1, none⟩ = _ := hcell 1 _ rfl
   have q2 : (wr).cell? ⟨b, o + j * 6 + 2, none⟩ = _ := hcell 2 _ rfl
   have q3 : (wr).cell? ⟨b, o + j * 6 + 3, none⟩ = _ := hcell 3 _ rfl
   have q4 : (wr).cell? ⟨b, o + j * 6 + 4, none⟩ = _ := hcell 4 _ rfl
   have q5 : (wr).cell? ⟨b, o + j * 6 + 5, none⟩ = _ := hcell 5 _ rfl
   have i1 : (0 : Int) ≤ (j : Int) := by omega
   have i2 : (j : Int) < (f.len : Int) := by omega
   have i3 : (f.len : Int) ≤ 1000000 := by have := HZ.out; have := Fr.len_size f; omega
   obtain ⟨rb, hrb⟩ : ∃ z, z = rgtX (a1, q) := ⟨_, rfl⟩
   have hBK : Below w.heap.size w (wr.alloc (.cells (cN a1 (.slice A' q.len c')) 27)) := hB.alloc hB.size _
   have HRt : Hid (∀ W, Below w.heap.size w W → Calls Tryz.prog 81 #[.agg (cN a1 (.slice A' q.len c'))] W (Ans9 (.bool rb) W)) := hHd (fun W hW => by
    rw [hrb]; exact HI.out j a1 q hg a1 A' c' _ (hrow.under hW (Nat.le_refl _) hW.size) (by have := HZ.out; have := Fr.size_get hg; omega))
   have hbk : Blk (wr.alloc (.cells (cN a1 (.slice A' q.len c')) 27)) wr.heap.size 27 (cN a1 (.slice A' q.len c')) := Blk.new _ _ _
   have hbp : Blk (wr.alloc (.cells (cN a1 (.slice A' q.len c')) 27)) w.heap.size 27 #[.string (txt nm), .string (txt ky), .int .i64 0, .int .u64 0, .string (txt []), .slice (some ⟨b, o, none⟩) f.len c] := hP.alloc _
   have HBD := hHd hBK.drew
   have HPD : Hid (Blk (wr.alloc (.cells (cN a1 (.slice A' q.len c')) 27)).drew w.heap.size 27 #[.string (txt nm), .string (txt ky), .int .i64 0, .int .u64 0, .string (txt []), .slice (some ⟨b, o, none⟩) f.len c]) := hHd hbp
   have HKD : Hid (Blk (wr.alloc (.cells (cN a1 (.slice A' q.len c')) 27)).drew wr.heap.size 27 (cN a1 (.slice A' q.len c'))) := hHd hbk
   have HBL := hHd hbl
   by_cases hj0 : j = 0
   ·subst hj0
    simp only [Nat.zero_mul, Nat.add_zero] at q0 q1 q2 q3 q4 q5
    have HLx : Hid (rb = false → rgtF f = false) := hHd (fun h => right_none hlt (by rw [hok, ← hrb, h]; rfl))
    have HL2 : Hid (rb = true → ∀ n, n < 0 + 1 → okAt f n = true) := hHd (fun h n hn => by
     rw [show n = 0 by omega, hok, ← hrb, h]; rfl)
    clear hcl hg hrow hcell hP hB hok hrb hbl hBK hbk hbp
    go_wp2_with fail
    clear q0 q1 q2 q3 q4 q5
    refine wp_region_noPanic ?_
    refine wp_region_held_drew (S := fun _ => True) (by kernel_rfl) trivial (fun hS => ?_)
    refine held_more (S' := fun w' => Blk w' wr.heap.size 27 (cN a1 (.slice A' q.len c'))) (fun _ _ => trivial) _ _ _ _ ?_
    replace hS := HKD.out
    refine tkH 0 hS ?_
    refine tkH 1 hS ?_
    refine tkH 2 hS ?_
    refine tkHo 3 hS ?_
    refine tkHo 4 hS ?_
    refine tkHo 5 hS ?_
    refine tkHo 6 hS ?_
    refine tkHo 7 hS ?_
    refine tkHo 8 hS ?_
    refine tkHo 9 hS ?_
    refine tkHo 10 hS ?_
    refine tkHo 11 hS ?_
    refine tkH 12 hS ?_
    refine tkH 13 hS ?_
    refine tkH 14 hS ?_ (hy := fun w hSw => by obtain ⟨q0, q1, q2, q3, q4, q5⟩ := cl6 hSw; (go_simp <;> with_reducible rfl))
    refine rdy1 15 fun K hK => ?_
    go_simp
    refine (HRt.out _ HBD.out).mono ?_
    rintro r w6 ⟨rfl, hb6⟩
    have HX6 := hHd (HKD.out.below hb6 HKD.out.lt)
    have HP6 := hHd (HPD.out.below hb6 HPD.out.lt)
    have HB6 := hHd (HBD.out.trans (hb6.mono HBD.out.size))
    clear hb6
    go_wp2_with fail
    refine hK.out _ _ ?sr_0 (fun hS => ?_)
    case sr_0 => (exact HX6.out)
    clear hK K
    (try simp only [Act.put, layS])
    refine tkH 16 hS ?_
    refine tkH 17 hS ?_
    refine wpAnyH_done (by kernel_rfl) ?_ _
    refine NoPanic.normal ?_
    clear hS
    cases rb with
    | false =>
     go_wp2
     go_ret
     exact ⟨by rw [HLx.out (by first | rfl | trivial)]; rfl, HB6.out⟩
    | true =>
     go_wp2
     go_roundw
     case rel => exact ⟨0 + 1, by omega, by go_num, hHd (HL2.out (by first | rfl | trivial)), HP6.out, HB6.out⟩
     case measure => simp [intOf]; omega
   ·obtain ⟨m, rfl⟩ : ∃ m, j = m + 1 := ⟨j - 1, by omega⟩
    obtain ⟨a0, k9, hg0⟩ := Fr.get_some (f := f) (n := m) (by omega)
    obtain ⟨b1, o1, A0, c0, ee, -, -, -, hrow0, hcl0⟩ := HK.out.at hg0
    injection ee with ee
    injection ee with e1 e2 e3
    subst e1 e2
    obtain ⟨lb, hlb⟩ : ∃ z, z = lessX a0 a1 := ⟨_, rfl⟩
    have hok2 : okAt f (m + 1) = (rb && lb) := by
     rw [hok, ← hrb, hlb]
     simp [hg0]
    have HLc : Hid (∀ W, Calls Tryz.prog 104 #[.agg (cN a0 (.slice A0 k9.len c0)), .agg (cN a1 (.slice A' q.len c'))] W (Ans9 (.bool lb) W)) := hHd (fun W => by
     rw [hlb]; exact less_any a0 a1 _ _ _ rfl rfl)
    have HCD : Hid (∀ i u, (ndC a0 (.slice A0 k9.len c0))[i]? = some u → (wr.alloc (.cells (cN a1 (.slice A' q.len c')) 27)).drew.cell? ⟨b, o + m * 6 + i, none⟩ = some u) := hHd (fun i u hu => (hBK.drew.cell (p := ⟨b, o + m * 6 + i, none⟩) hbl).trans (hcl0 i u hu))
    have n1 : (0 : Int) ≤ (m : Int) := by omega
    have n2 : (m : Int) < (f.len : Int) := by omega
    have n3 : decide ((m : Int) + 1 > 0) = true := decide_eq_true (by omega)
    have n4 : (0 : Int) < (m : Int) + 1 := by omega
    have n5 : (m : Int) + 1 < (f.len : Int) := by omega
    have HLx : Hid ((rb && lb) = false → rgtF f = false) := hHd (fun h => right_none hlt (by rw [hok2, h]))
    have HL3 : Hid ((rb && lb) = true → ∀ n, n < m + 1 + 1 → okAt f n = true) := hHd (fun h n hn => by
     by_cases e : n = m + 1
     ·rw [e, hok2, h]
     ·exact HL.out n (by omega))
    have jw : IntKind.i64.wrap (m : Int) = (m : Int) := Go.IntWalk.i64_in _ (by omega)
    have HJ := hHd jw
    clear hcl hg hrow hcell hP hB hok hrb hbl hBK hbk hbp hcl0 hrow0 hg0 hlb hok2 hj0 jw
    cases lb with
    | false =>
     go_wp2_with fail
     clear q0 q1 q2 q3 q4 q5
     refine wp_region_noPanic ?_
     refine wp_region_held_drew (S := fun _ => True) (by kernel_rfl) trivial (fun hS => ?_)
     refine held_more (S' := fun w' => Blk w' w.heap.size 27 #[.string (txt nm), .string (txt ky), .int .i64 0, .int .u64 0, .string (txt []), .slice (some ⟨b, o, none⟩) f.len c] ∧ Blk w' wr.heap.size 27 (cN a1 (.slice A' q.len c')) ∧ ∀ i u, (ndC a0 (.slice A0 k9.len c0))[i]? = some u → w'.cell? ⟨b, o + m * 6 + i, none⟩ = some u) (fun _ _ => trivial) _ _ _ _ ?_
     replace hS := And.intro HPD.out (And.intro HKD.out HCD.out)
     refine tkH 0 hS ?_
     refine tkH 1 hS ?_
     refine tkH 2 hS ?_
     refine tkH 3 hS ?_
     refine tkH 4 hS ?_ (hy := fun w hSw => by have q5 := (hSw.1.cell 5).trans rfl; (go_simp <;> with_reducible rfl))
     refine tkH 5 hS ?_
     refine tkH 6 hS ?_ (hy := fun w hSw => by have jw := HJ.out; (go_simp <;> with_reducible rfl))
     refine tkH 7 hS ?_
     refine tkH 8 hS ?_ (hy := fun w hSw => by have u0 : w.cell? ⟨b, o + m * 6, none⟩ = _ := hSw.2.2 0 _ rfl; have u1 := hSw.2.2 1 _ rfl; have u2 := hSw.2.2 2 _ rfl; have u3 := hSw.2.2 3 _ rfl; have u4 := hSw.2.2 4 _ rfl; have u5 := hSw.2.2 5 _ rfl; (go_simp <;> with_reducible rfl))
     refine tkH 9 hS ?_ (hy := fun w hSw => by obtain ⟨q0, q1, q2, q3, q4, q5⟩ := cl6 hSw.2.1; (go_simp <;> with_reducible rfl))
     refine rdy1 10 fun K hK => ?_
     go_simp
     refine (HLc.out _).mono ?_
     rintro r w5 ⟨rfl, hb5⟩
     have HX5 := hHd (HKD.out.below hb5 HKD.out.lt)
     have HP5 := hHd (HPD.out.below hb5 HPD.out.lt)
     have HB5 := hHd (HBD.out.trans (hb5.mono HBD.out.size))
     have HC5 : Hid (∀ i u, (ndC a0 (.slice A0 k9.len c0))[i]? = some u → w5.cell? ⟨b, o + m * 6 + i, none⟩ = some u) := hHd (fun i u hu => (hb5.cell (p := ⟨b, o + m * 6 + i, none⟩) (Nat.lt_of_lt_of_le HBL.out HBD.out.size)).trans (HCD.out i u hu))
     clear hb5
     go_wp2_with fail
     refine hK.out _ _ ?sr_1 (fun hS => ?_)
     case sr_1 => (exact ⟨HP5.out, HX5.out, HC5.out⟩)
     clear hK K
     (try simp only [Act.put, layS])
     refine tkH 11 hS ?_
     refine tkH 12 hS ?_
     refine tkH 13 hS ?_
     refine tkHo 14 hS ?_
     refine tkHo 15 hS ?_
     refine tkHo 16 hS ?_
     refine tkH 17 hS ?_
     refine wpAnyH_done (by kernel_rfl) ?_ _
     refine NoPanic.normal ?_
     clear hS
     go_wp2
     go_ret
     exact ⟨by rw [HLx.out (by simp)]; rfl, HB5.out⟩
    | true =>
     go_wp2_with fail
     clear q0 q1 q2 q3 q4 q5
     refine wp_region_noPanic ?_
     refine wp_region_held_drew (S := fun _ => True) (by kernel_rfl) trivial (fun hS => ?_)
     refine held_more (S' := fun w' => Blk w' w.heap.size 27 #[.string (txt nm), .string (txt ky), .int .i64 0, .int .u64 0, .string (txt []), .slice (some ⟨b, o, none⟩) f.len c] ∧ Blk w' wr.heap.size 27 (cN a1 (.slice A' q.len c')) ∧ ∀ i u, (ndC a0 (.slice A0 k9.len c0))[i]? = some u → w'.cell? ⟨b, o + m * 6 + i, none⟩ = some u) (fun _ _ => trivial) _ _ _ _ ?_
     replace hS := And.intro HPD.out (And.intro HKD.out HCD.out)
     refine tkH 0 hS ?_
     refine tkH 1 hS ?_
     refine tkH 2 hS ?_
     refine tkH 3 hS ?_
     refine tkH 4 hS ?_ (hy := fun w hSw => by have q5 := (hSw.1.cell 5).trans rfl; (go_simp <;> with_reducible rfl))
     refine tkH 5 hS ?_
     refine tkH 6 hS ?_ (hy := fun w hSw => by have jw := HJ.out; (go_simp <;> with_reducible rfl))
     refine tkH 7 hS ?_
     refine tkH 8 hS ?_ (hy := fun w hSw => by have u0 : w.cell? ⟨b, o + m * 6, none⟩ = _ := hSw.2.2 0 _ rfl; have u1 := hSw.2.2 1 _ rfl; have u2 := hSw.2.2 2 _ rfl; have u3 := hSw.2.2 3 _ rfl; have u4 := hSw.2.2 4 _ rfl; have u5 := hSw.2.2 5 _ rfl; (go_simp <;> with_reducible rfl))
     refine tkH 9 hS ?_ (hy := fun w hSw => by obtain ⟨q0, q1, q2, q3, q4, q5⟩ := cl6 hSw.2.1; (go_simp <;> with_reducible rfl))
     refine rdy1 10 fun K hK => ?_
     go_simp
     refine (HLc.out _).mono ?_
     rintro r w5 ⟨rfl, hb5⟩
     have HX5 := hHd (HKD.out.below hb5 HKD.out.lt)
     have HP5 := hHd (HPD.out.below hb5 HPD.out.lt)
     have HB5 := hHd (HBD.out.trans (hb5.mono HBD.out.size))
     have HC5 : Hid (∀ i u, (ndC a0 (.slice A0 k9.len c0))[i]? = some u → w5.cell? ⟨b, o + m * 6 + i, none⟩ = some u) := hHd (fun i u hu => (hb5.cell (p := ⟨b, o + m * 6 + i, none⟩) (Nat.lt_of_lt_of_le HBL.out HBD.out.size)).trans (HCD.out i u hu))
     clear hb5
     go_wp2_with fail
     refine hK.out _ _ ?sr_2 (fun hS => ?_)
     case sr_2 => (exact ⟨HP5.out, HX5.out, HC5.out⟩)
     clear hK K
     (try simp only [Act.put, layS])
     refine tkH 11 hS ?_
     refine tkH 12 hS ?_
     refine tkH 13 hS ?_
     refine tkH 14 hS ?_ (hy := fun w hSw => by obtain ⟨q0, q1, q2, q3, q4, q5⟩ := cl6 hSw.2.1; (go_simp <;> with_reducible rfl))
     refine rdy1 15 fun K hK => ?_
     go_simp
     refine (HRt.out _ HB5.out).mono ?_
     rintro r w6 ⟨rfl, hb6⟩
     have HX6 := hHd (HX5.out.below hb6 HX5.out.lt)
     have HP6 := hHd (HP5.out.below hb6 HP5.out.lt)
     have HB6 := hHd (HB5.out.trans (hb6.mono HB5.out.size))
     have HC6 : Hid (∀ i u, (ndC a0 (.slice A0 k9.len c0))[i]? = some u → w6.cell? ⟨b, o + m * 6 + i, none⟩ = some u) := hHd (fun i u hu => (hb6.cell (p := ⟨b, o + m * 6 + i, none⟩) (Nat.lt_of_lt_of_le HBL.out HB5.out.size)).trans (HC5.out i u hu))
     clear hb6
     go_wp2_with fail
     refine hK.out _ _ ?sr_3 (fun hS => ?_)
     case sr_3 => (exact ⟨HP6.out, HX6.out, HC6.out⟩)
     clear hK K
     (try simp only [Act.put, layS])
     refine tkH 16 hS ?_
     refine tkH 17 hS ?_
     refine wpAnyH_done (by kernel_rfl) ?_ _
     refine NoPanic.normal ?_
     clear hS
     cases rb with
     | false =>
      go_wp2
      go_ret
      exact ⟨by rw [HLx.out (by first | rfl | trivial)]; rfl, HB6.out⟩
     | true =>
      go_wp2
      go_roundw
      case rel => exact ⟨m + 1 + 1, by omega, by go_num, hHd (HL3.out (by first | rfl | trivial)), HP6.out, HB6.out⟩
      case measure => simp [intOf]; omega
  ·have i2 : ¬ (j : Int) < (f.len : Int) := by omega
   have HF : Hid (rgtF f = true) := hHd (right_at.2 (fun n hn => HL.out n (by omega)))
   clear hP hB
   go_wp2
   go_ret
   exact ⟨by rw [HF.out]; rfl, HBr.out⟩
theorem drightf_any (f : NdF) : DRightP f := by
 refine Fr.byKids (P := DRightP) ?_ f
 clear f
 intro f hkids a A c w hk hsz
 by_cases h0 : a.kind = 0
 ·obtain ⟨nm, ky, kd, nu, tx⟩ := a
  simp only at h0
  subst h0
  by_cases h1 : nu = 0 ∧ tx = []
  ·obtain ⟨rfl, rfl⟩ := h1
   have e : rgtX ((⟨nm, ky, 0, 0, []⟩ : NdD), f) = rgtF f := by unfold rgtX; simp
   rw [e]
   exact dright_row f hkids nm ky A c w hk hsz
  ·have e : rgtX ((⟨nm, ky, 0, nu, tx⟩ : NdD), f) = false := by unfold rgtX; simp; intro h2 h3; exact absurd ⟨h2, h3⟩ h1
   rw [e]
   exact dright_box f nm ky nu tx A c w h1
 ·exact dright_leaf f a A c w h0
end Go.Proofs.YtodlhgflfcadmaaGreat
