/- TreRefC EdtRefA ForestC TreRefD TreBox EdtRefH -/
import Derived.Test.YtleidkpdpabkpaaGreatDoorBM7
import Derived.Deep.DeepCutAuto
set_option linter.unusedSimpArgs false
set_option linter.unusedVariables false
set_option maxRecDepth 100000
set_option maxHeartbeats 8000000
namespace Go.Proofs.YtleidkpdpabkpaaGreatDoor
open Go.RowKit
def RightP9 (f : NdF) : Prop := ∀ (a : NdD) (A : Option Addr) (c : Nat) (w : World), RowT w.heap.size w (.slice A f.len c) f → f.size ≤ 1000000 →
  Calls Tryz.prog 66 #[.agg (cN a (.slice A f.len c))] w (Ans9 (.bool (rgtX (a, f))) w)
theorem rright_leaf (f : NdF) (a : NdD) (A : Option Addr) (c : Nat) (w : World) (h0 : a.kind ≠ 0) :
  Calls Tryz.prog 66 #[.agg (cN a (.slice A f.len c))] w (Ans9 (.bool (rgtX (a, f))) w) := by
 have hB : Below w.heap.size w (w.alloc (.cells (cN a (.slice A f.len c)) 42)) := bAl
 have HB0 := hHd hB
 have e1 : (a.kind == 0) = false := beq_eq_false_iff_ne.2 h0
 have e2 : (a.kind != 0) = true := by simp [h0]
 have HV : Hid (rgtX (a, f) = decide (f.len = 0)) := hHd (by unfold rgtX; rw [if_pos h0])
 clear hB h0
 by_cases hl : f.len = 0
 ·have e3 : ((f.len : Int) == 0) = true := by simp [hl]
  have HW : Hid (f.len = 0) := hHd hl
  clear hl
  go_enter Tryz.func66, Tryz.ntmps66
  go_wp2
  go_ret
  exact ⟨by rw [HV.out, decide_eq_true HW.out]; rfl, HB0.out⟩
 ·have e3 : ((f.len : Int) == 0) = false := by simp [hl]
  have HW : Hid (¬ f.len = 0) := hHd hl
  clear hl
  go_enter Tryz.func66, Tryz.ntmps66
  go_wp2
  go_ret
  exact ⟨by rw [HV.out, decide_eq_false HW.out]; rfl, HB0.out⟩
theorem rright_box (f : NdF) (nm ky : List UInt8) (nu : Nat) (tx : List UInt8) (A : Option Addr) (c : Nat) (w : World) (h0 : ¬ (nu = 0 ∧ tx = [])) :
  Calls Tryz.prog 66 #[.agg #[.string (txt nm), .string (txt ky), .int .i64 0, .int .u64 (nu : Int), .string (txt tx), .slice A f.len c]] w (Ans9 (.bool false) w) := by
 have hB : Below w.heap.size w (w.alloc (.cells #[.string (txt nm), .string (txt ky), .int .i64 0, .int .u64 (nu : Int), .string (txt tx), .slice A f.len c] 42)) := bAl
 have HB0 := hHd hB
 have tt : (txt tx).toList = tx := txt_toList _
 clear hB
 by_cases h1 : nu = 0
 ·subst h1
  have e4 : tx.isEmpty = false := by cases tx with | nil => exact absurd ⟨rfl, rfl⟩ h0 | cons => rfl
  have e5 : (tx == []) = false := by cases tx with | nil => cases e4 | cons => rfl
  clear h0
  go_enter Tryz.func66, Tryz.ntmps66
  go_wp2
  go_ret
  exact ⟨rfl, HB0.out⟩
 ·have e3 : ((nu : Int) == 0) = false := by simp [h1]
  clear h0
  go_enter Tryz.func66, Tryz.ntmps66
  go_wp2
  go_ret
  exact ⟨rfl, HB0.out⟩
theorem okAt_at {f : NdF} {j : Nat} {a1 : NdD} {q : NdF} (hg : f.get? j = some (a1, q)) : okAt f j = (rgtX (a1, q) && (decide (j = 0) || (match f.get? (j - 1) with | none => true | some z => lessX z.1 a1))) := by
 unfold okAt
 rw [hg]
 cases j with
 | zero => simp
 | succ j =>
  simp only [Nat.add_sub_cancel]
  rw [show decide (j + 1 = 0) = false by simp, Bool.false_or]
  cases f.get? j <;> rfl
theorem rright_row (f : NdF) (hkids : ∀ n a k, f.get? n = some (a, k) → RightP9 k) (nm ky : List UInt8) (A : Option Addr) (c : Nat) (w : World) (hk : RowT w.heap.size w (.slice A f.len c) f) (hsz : f.size ≤ 1000000) :
  Calls Tryz.prog 66 #[.agg #[.string (txt nm), .string (txt ky), .int .i64 0, .int .u64 0, .string (txt []), .slice A f.len c]] w (Ans9 (.bool (rgtF f)) w) := by
 have hB : Below w.heap.size w (w.alloc (.cells #[.string (txt nm), .string (txt ky), .int .i64 0, .int .u64 0, .string (txt []), .slice A f.len c] 42)) := bAl
 have HB0 := hHd hB
 have HI := hHd hkids
 have HK : Hid (RowT w.heap.size w (.slice A f.len c) f) := hHd hk
 have HZ : Hid (f.size ≤ 1000000) := hHd hsz
 have tt : (txt []).toList = [] := txt_toList _
 clear hkids hk hsz hB
 go_enter Tryz.func66, Tryz.ntmps66
 go_wp2
 go_loopw [3] (fun i wr => ∃ j : Nat, j ≤ f.len ∧ i = .int .i64 (j : Int) ∧ Hid (∀ n, n < j → okAt f n = true) ∧ Blk wr w.heap.size 42 #[.string (txt nm), .string (txt ky), .int .i64 0, .int .u64 0, .string (txt []), .slice A f.len c] ∧ Below w.heap.size w wr) (fun i _ => f.len - (intOf i).toNat)
 case atStart => exact ⟨0, Nat.zero_le _, rfl, hHd (fun n h => by omega), Blk.new _ _ _, HB0.out⟩
 case round =>
  obtain ⟨j, hj, rfl, HL, hP, hB⟩ := hrel
  have p5 : wr.cell? ⟨w.heap.size, 5, none⟩ = some (.slice A f.len c) := (hP.cell 5).trans rfl
  have HBr := hHd hB
  by_cases hlt : j < f.len
  ·obtain ⟨a1, q, hg⟩ := Fr.get_some hlt
   have hok := okAt_at hg
   obtain ⟨b, o, A', c', rfl, -, -, hbl, hrow, hcl⟩ := HK.out.at hg
   have hcell : ∀ i u, (ndC a1 (.slice A' q.len c'))[i]? = some u → wr.cell? ⟨b, o + j * 6 + i, none⟩ = some u := fun i u hu => (hB.cell (p := ⟨b, o + j * 6 + i, none⟩) hbl).trans (hcl i u hu)
   have q0 : (wr).cell? ⟨b, o + j * 6, none⟩ = _ := hcell 0 _ rfl
   have q1 : (wr).cell? ⟨b, o + j * 6 + 1, none⟩ = _ := hcell 1 _ rfl
   have q2 : (wr).cell? ⟨b, o + j * 6 + 2, none⟩ = _ := hcell 2 _ rfl
   have q3 : (wr).cell? ⟨b, o + j * 6 + 3, none⟩ = _ := hcell 3 _ rfl
   have q4 : (wr).cell? ⟨b, o + j * 6 + 4, none⟩ = _ := hcell 4 _ rfl
   have q5 : (wr).cell? ⟨b, o + j * 6 + 5, none⟩ = _ := hcell 5 _ rfl
   have i1 : (0 : Int) ≤ (j : Int) := by omega
   have i2 : (j : Int) < (f.len : Int) := by omega
   have i3 : (f.len : Int) ≤ 1000000 := by have := HZ.out; have := Fr.len_size f; omega
   obtain ⟨rb, hrb⟩ : ∃ z, z = rgtX (a1, q) := ⟨_, rfl⟩
   have HI1 : Hid (Calls Tryz.prog 66 #[.agg (cN a1 (.slice A' q.len c'))] wr (Ans9 (.bool rb) wr)) := hHd (by
    rw [hrb]; exact HI.out j a1 q hg a1 A' c' wr (hrow.under hB (Nat.le_refl _) hB.size) (by have := HZ.out; have := Fr.size_get hg; omega))
   have HC : Hid (∀ i u, (ndC a1 (.slice A' q.len c'))[i]? = some u → w.cell? ⟨b, o + j * 6 + i, none⟩ = some u) := hHd hcl
   have HR : Hid (RowT w.heap.size w (.slice A' q.len c') q) := hHd hrow
   have HG := hHd hg
   have HOK := hHd hok
   have HRB := hHd hrb
   have HP := hHd hP
   have HBL : Hid (b < w.heap.size) := hHd hbl
   clear hcl hg hrow hcell hP hB hok hrb hbl
   go_wp2_with fail
   refine HI1.out.mono ?_
   rintro r w2 ⟨rfl, hb⟩
   have HP2 := hHd (HP.out.below hb HP.out.lt)
   have hB2 := HBr.out.trans (hb.mono HBr.out.size)
   have HB2 := hHd hB2
   have p5' : w2.cell? ⟨w.heap.size, 5, none⟩ = some (.slice (some ⟨b, o, none⟩) f.len c) := (HP2.out.cell 5).trans rfl
   clear hb p5 q0 q1 q2 q3 q4 q5
   cases rb with
   | false =>
    have HF : Hid (rgtF f = false) := hHd (right_none hlt (by rw [HOK.out, ← HRB.out]; rfl))
    clear hB2
    go_wp2_with fail
    go_region
    all_goals go_wp2
    all_goals go_ret
    all_goals exact ⟨by rw [HF.out]; rfl, HB2.out.drew⟩
   | true =>
    by_cases hj0 : j = 0
    ·subst hj0
     have HL2 : Hid (∀ n, n < 0 + 1 → okAt f n = true) := hHd (fun n hn => by
      rw [show n = 0 by omega, HOK.out, ← HRB.out]; rfl)
     clear hB2
     go_wp2_with fail
     go_region
     all_goals go_wp2
     all_goals go_roundw
     all_goals first | exact ⟨0 + 1, by omega, by go_num, HL2, HP2.out.below (Below.refl _ _).drew HP2.out.lt, HB2.out.drew⟩ | (simp [intOf]; done) | (simp [intOf]; omega)
    ·obtain ⟨m, rfl⟩ : ∃ m, j = m + 1 := ⟨j - 1, by omega⟩
     obtain ⟨a0, k0, hg0⟩ := Fr.get_some (f := f) (n := m) (by omega)
     obtain ⟨b1, o1, A0, c0, ee, -, -, -, hrow0, hcl0⟩ := HK.out.at hg0
     injection ee with ee
     injection ee with e1 e2 e3
     subst e1 e2
     obtain ⟨lb, hlb⟩ : ∃ z, z = lessX a0 a1 := ⟨_, rfl⟩
     have hok2 : okAt f (m + 1) = lb := by
      rw [HOK.out, ← HRB.out, hlb]
      simp [hg0]
     have HOK2 := hHd hok2
     have L0 : LieN w2.drew (ndC a0 (.slice A0 k0.len c0)) (a0, k0) := LieB.make (hrow0.under hB2.drew (Nat.le_refl _) hB2.size)
     have L1 : LieN w2.drew (ndC a1 (.slice A' q.len c')) (a1, q) := LieB.make (HR.out.under hB2.drew (Nat.le_refl _) hB2.size)
     have HLc : Hid (Calls Tryz.prog 69 #[.agg (cN a0 (.slice A0 k0.len c0)), .agg (cN a1 (.slice A' q.len c'))] w2.drew (Ans9 (.bool lb) w2.drew)) := hHd (by
      rw [hlb]; exact rless_any (a0, k0) (a1, q) _ _ w2.drew L0 L1)
     have HQ1 := hHd (And.intro (HP2.out.below (Below.refl _ _).drew HP2.out.lt) (And.intro (fun i u hu => (hB2.drew.cell (p := ⟨b, o + m * 6 + i, none⟩) HBL.out).trans (hcl0 i u hu)) (fun i u hu => (hB2.drew.cell (p := ⟨b, o + (m + 1) * 6 + i, none⟩) HBL.out).trans (HC.out i u hu))))
     have HBd := hHd hB2.drew
     have hm : (0 : Int) ≤ (m : Int) := by omega
     have hn1 : (0 : Int) ≤ (m : Int) + 1 := by omega
     have hn2 : (m : Int) + 1 < (f.len : Int) := by omega
     have hm2 : (m : Int) < (f.len : Int) := by omega
     have jw : IntKind.i64.wrap (m : Int) = (m : Int) := Go.IntWalk.i64_in _ (by omega)
     have HJ := hHd jw
     have HL3 : Hid (lb = true → ∀ n, n < m + 1 + 1 → okAt f n = true) := hHd (fun h n hn => by
      by_cases e : n = m + 1
      ·rw [e, HOK2.out, h]
      ·exact HL.out n (by omega))
     clear hB2 hcl0 hrow0 hg0 hlb hok2 L0 L1 jw hj0
     go_wp2_with fail
     refine wp_region_noPanic ?_
     refine wp_region_held_drew (S := fun _ => True) (by kernel_rfl) trivial (fun hS => ?_)
     refine tkH 0 hS ?_
     refine tkH 1 hS ?_
     refine tkH 2 hS ?_
     refine tkH 3 hS ?_
     refine tkH 4 hS ?_
     refine tkH 5 hS ?_
     refine held_more (S' := fun w' => Blk w' w.heap.size 42 #[.string (txt nm), .string (txt ky), .int .i64 0, .int .u64 0, .string (txt []), .slice (some ⟨b, o, none⟩) f.len c] ∧ (∀ i u, (ndC a0 (.slice A0 k0.len c0))[i]? = some u → w'.cell? ⟨b, o + m * 6 + i, none⟩ = some u) ∧ (∀ i u, (ndC a1 (.slice A' q.len c'))[i]? = some u → w'.cell? ⟨b, o + (m + 1) * 6 + i, none⟩ = some u)) (fun _ _ => trivial) _ _ _ _ ?_
     replace hS := HQ1.out
     refine tkH 6 hS ?_
     refine tkH 7 hS ?_ (hy := fun w hSw => by have q5 := (hSw.1.cell 5).trans rfl; (go_simp <;> with_reducible rfl))
     refine tkH 8 hS ?_
     refine tkH 9 hS ?_
     refine tkH 10 hS ?_ (hy := fun w hSw => by have jw := HJ.out; (go_simp <;> with_reducible rfl))
     refine tkH 11 hS ?_ (hy := fun w hSw => by have u0 : w.cell? ⟨b, o + m * 6, none⟩ = _ := hSw.2.1 0 _ rfl; have u1 := hSw.2.1 1 _ rfl; have u2 := hSw.2.1 2 _ rfl; have u3 := hSw.2.1 3 _ rfl; have u4 := hSw.2.1 4 _ rfl; have u5 := hSw.2.1 5 _ rfl; (go_simp <;> with_reducible rfl))
     refine tkH 12 hS ?_
     refine tkH 13 hS ?_ (hy := fun w hSw => by have q5 := (hSw.1.cell 5).trans rfl; (go_simp <;> with_reducible rfl))
     refine tkH 14 hS ?_
     refine tkH 15 hS ?_
     refine tkH 16 hS ?_ (hy := fun w hSw => by have u0 : w.cell? ⟨b, o + (m + 1) * 6, none⟩ = _ := hSw.2.2 0 _ rfl; have u1 := hSw.2.2 1 _ rfl; have u2 := hSw.2.2 2 _ rfl; have u3 := hSw.2.2 3 _ rfl; have u4 := hSw.2.2 4 _ rfl; have u5 := hSw.2.2 5 _ rfl; (go_simp <;> with_reducible rfl))
     refine rdy1 17 fun K hK => ?_
     go_simp
     refine HLc.out.mono ?_
     rintro r w6 ⟨rfl, hb6⟩
     have HX6 := hHd (HQ1.out.1.below hb6 HQ1.out.1.lt)
     have HB6 := hHd (HBd.out.trans (hb6.mono HBd.out.size))
     have HW6 := hHd hb6
     clear hb6
     go_wp2_with fail
     refine hK.out _ _ ?sr_0 (fun hS => ?_)
     case sr_0 => (exact ⟨HX6.out, fun i u hu => (HW6.out.cell (p := ⟨b, o + m * 6 + i, none⟩) (Nat.lt_of_lt_of_le HBL.out HBd.out.size)).trans (HQ1.out.2.1 i u hu), fun i u hu => (HW6.out.cell (p := ⟨b, o + (m + 1) * 6 + i, none⟩) (Nat.lt_of_lt_of_le HBL.out HBd.out.size)).trans (HQ1.out.2.2 i u hu)⟩)
     clear hK K
     (try simp only [Act.put, layS])
     refine tkH 18 hS ?_
     refine tkH 19 hS ?_
     refine tkH 20 hS ?_
     refine wpAnyH_done (by kernel_rfl) ?_ _
     refine NoPanic.normal ?_
     cases lb with
     | false =>
      have HF : Hid (rgtF f = false) := hHd (right_none hlt HOK2.out)
      clear hS
      go_wp2
      go_ret
      exact ⟨by rw [HF.out]; rfl, HB6.out⟩
     | true =>
      have HL2 := hHd (HL3.out rfl)
      clear hS
      go_wp2
      go_roundw
      case rel => exact ⟨m + 1 + 1, by omega, by go_num, HL2, HX6.out, HB6.out⟩
      case measure => simp [intOf]; omega
  ·have i2 : ¬ (j : Int) < (f.len : Int) := by omega
   have HF : Hid (rgtF f = true) := hHd (right_at.2 (fun n hn => HL.out n (by omega)))
   clear hP hB
   go_wp2
   go_ret
   exact ⟨by rw [HF.out]; rfl, HBr.out⟩
theorem rrightf_any (f : NdF) : RightP9 f := by
 refine Fr.byKids (P := RightP9) ?_ f
 clear f
 intro f hkids a A c w hk hsz
 by_cases h0 : a.kind = 0
 ·obtain ⟨nm, ky, kd, nu, tx⟩ := a
  simp only at h0
  subst h0
  by_cases h1 : nu = 0 ∧ tx = []
  ·obtain ⟨rfl, rfl⟩ := h1
   have e : rgtX ((⟨nm, ky, 0, 0, []⟩ : NdD), f) = rgtF f := by unfold rgtX; simp
   rw [e]
   exact rright_row f hkids nm ky A c w hk hsz
  ·have e : rgtX ((⟨nm, ky, 0, nu, tx⟩ : NdD), f) = false := by unfold rgtX; simp; intro h2 h3; exact absurd ⟨h2, h3⟩ h1
   rw [e]
   exact rright_box f nm ky nu tx A c w h1
 ·exact rright_leaf f a A c w h0
theorem rright_any (x : Nd) (cs : List Value) (w : World) (hx : LieN w cs x) (hf : Few9 x) : Calls Tryz.prog 66 #[.agg cs.toArray] w (Ans9 (.bool (rgtX x)) w) := by
 obtain ⟨A, c, rfl, hk⟩ := hx.shape
 exact rrightf_any x.2 x.1 A c w hk hf
section
attribute [local go_sem] Oper.semAt_some
theorem val_eql18 (k : Int) (n : Nat) (s : List UInt8) (W : World) : (binOp .eql 39 (.agg #[.int .i64 k, .int .u64 (n : Int), .string (txt s)]) (.agg #[.int .i64 0, .int .u64 0, .string ⟨#[]⟩])).run Tryz.prog W = .ok (.bool (decide (k = 0 ∧ n = 0 ∧ s = []))) W := by
 rw [run_eql_struct, show (10000 : Nat) = 9999 + 1 from rfl, run_equalIn_agg W 9999 39 _ _ (by simp only [Program.fieldsOf, Tryz.underlying39]) (by kernel_rfl)]
 simp only [Program.fieldsOf, Tryz.underlying39]
 simp only [Op.eqFields]
 go_simp
 simp only [txt_toList]
 by_cases h1 : k = 0
 ·by_cases h2 : n = 0
  ·cases s with
   | nil => simp [h1, h2]
   | cons x y => simp [h1, h2]
  ·simp [h1, h2]
 ·simp [h1]
def emp18 (a : NdD) (f : NdF) : Bool := decide (a.name = []) && (decide (a.key = []) && (decide (a.kind = 0 ∧ a.num = 0 ∧ a.text = []) && decide (f.len = 0)))
theorem emp18_is (a : NdD) (f : NdF) : emp18 a f = decide ((a, f) = noN) := by
 obtain ⟨nm, ky, kd, nu, tx⟩ := a
 unfold emp18 noN zeroT
 by_cases h : ((⟨nm, ky, kd, nu, tx⟩, f) : Nd) = (⟨[], [], 0, 0, []⟩, .nil)
 ·rw [decide_eq_true h]
  injection h with h1 h2
  injection h1 with e1 e2 e3 e4 e5
  subst e1 e2 e3 e4 e5 h2
  decide
 ·rw [decide_eq_false h]
  rw [Bool.eq_false_iff]
  intro h2
  simp only [Bool.and_eq_true, decide_eq_true_eq] at h2
  obtain ⟨e1, e2, ⟨e3, e4, e5⟩, e6⟩ := h2
  subst e1 e2 e3 e4 e5
  cases f with
  | nil => exact h rfl
  | cons => simp [Fr.len] at e6
def okAt18 (f : NdF) (n : Nat) : Bool := match f.get? n with | none => true | some x => okN18 x
theorem okF_cons (a : NdD) (k r : NdF) : okF18 (.cons a k r) = (okN18 (a, k) && okF18 r) := by simp only [okF18, okN18]
theorem okF_at : ∀ {f : NdF}, okF18 f = true ↔ ∀ n, n < f.len → okAt18 f n = true := by
 intro f
 induction f with
 | nil => exact ⟨fun _ n h => absurd h (Nat.not_lt_zero _), fun _ => rfl⟩
 | cons a k r _ ih =>
  rw [okF_cons, Bool.and_eq_true, ih]
  constructor
  ·rintro ⟨h1, h2⟩ n hn
   cases n with
   | zero => exact h1
   | succ n => exact h2 n (by simp only [Fr.len] at hn; omega)
  ·intro h
   exact ⟨h 0 (by simp only [Fr.len]; omega), fun n hn => h (n + 1) (by simp only [Fr.len]; omega)⟩
theorem okF_no {f : NdF} {n : Nat} (hn : n < f.len) (h : okAt18 f n = false) : okF18 f = false := by
 rw [Bool.eq_false_iff]
 intro h2
 rw [okF_at.1 h2 n hn] at h
 cases h
end
section
variable {α : Type} {D : RdOf α} {e : TypeId} {K p : Nat} {w w' : World} {base : Nat} {S S' N N' : Nat → Prop} {v : Value} {f g : Fr α}
theorem FrAt.take (n : Nat) : ∀ {f : Fr α} {b o : Nat}, FrAt D K p w S N f b o → FrAt D K p w S N (Fr.take n f) b o := by
 induction n with
 | zero => intro f b o h; cases f <;> trivial
 | succ n ih =>
  intro f b o h
  cases f with
  | nil => trivial
  | cons a k r => exact ⟨h.1, ih h.2⟩
theorem FrV.front {A : Option Addr} {L c n : Nat} (hn : n ≤ f.len) (h : FrV D K p w S N (.slice A L c) f) : FrV D K p w S N (.slice A n c) (Fr.take n f) := by
 obtain ⟨A', c', e, h1, h2⟩ := h
 injection e with e1 e2 e3
 subst e1 e2 e3
 have hl := Fr.len_take n f hn
 refine ⟨A, c, by rw [hl], by omega, fun h0 => ?_⟩
 obtain ⟨b, o, h3, h4, h5⟩ := h2 (by omega)
 exact ⟨b, o, h3, h4, h5.take n⟩
theorem FrV.back {b o L c n : Nat} (hn : n ≤ f.len) (h : FrV D K p w S N (.slice (some ⟨b, o, none⟩) L c) f) : FrV D K p w S N (.slice (some ⟨b, o + n * K, none⟩) (f.len - n) (c - n)) (Fr.drop n f) := by
 obtain ⟨A', c', e, h1, h2⟩ := h
 injection e with e1 e2 e3
 subst e2 e3
 have hl := Fr.len_drop n f
 refine ⟨_, _, by rw [hl], by omega, fun h0 => ?_⟩
 obtain ⟨b', o', h3, h4, h5⟩ := h2 (by omega)
 rw [← e1] at h3
 injection h3 with h3
 injection h3 with e4 e5 _
 subst e4 e5
 exact ⟨b, _, rfl, h4, h5.drop n⟩
theorem FrV.none_ (A : Option Addr) (c : Nat) : FrV D K p w S N (.slice A 0 c) (.nil : Fr α) := ⟨A, c, rfl, Nat.zero_le _, fun h => absurd h (by simp [Fr.len])⟩
def AppGs (D : RdOf α) (e : TypeId) (K p : Nat) (base : Nat) (S N : Nat → Prop) (w : World) (v : Value) (f : Fr α) (v' : Value) (w' : World) : Prop :=
 OwnG D e K p w' base S N v' f ∧ w.grownBy w' v.ownBlock ∧ (v'.ownBlock = v.ownBlock ∨ v'.ownBlock = some w.heap.size)
theorem AppGs.below {v' : Value} {g : Fr α} (h : AppGs D e K p base S N w v g v' w') (hown : OwnG D e K p w base S N v f) (hb : base ≤ w.heap.size) : Below base w w' :=
 (Below.refl _ _).grown h.2.1 hb fun b e => (hown.lt b e).1
end
def SameP9 (f : NdF) : Prop := ∀ (g : NdF) (a b : NdD) (A B : Option Addr) (c d : Nat) (w : World), RowT w.heap.size w (.slice A f.len c) f → RowT w.heap.size w (.slice B g.len d) g → f.size ≤ 1000000 → g.size ≤ 1000000 →
  Calls Tryz.prog 32 #[.agg (cN a (.slice A f.len c)), .agg (cN b (.slice B g.len d))] w (Ans9 (.bool (decide (((a, f) : Nd) = (b, g)))) w)
theorem rsame_name (a b : NdD) (A B : Option Addr) (m n c d : Nat) (w : World) (h : (a.name == b.name) = false) :
  Calls Tryz.prog 32 #[.agg (cN a (.slice A m c)), .agg (cN b (.slice B n d))] w (Ans9 (.bool false) w) := by
 have HB : Hid (Below w.heap.size w ((w.alloc (.cells (cN a (.slice A m c)) 42)).alloc (.cells (cN b (.slice B n d)) 42))) := hHd (bAl.alloc (by simp) _)
 have t1 : (txt a.name).toList = a.name := txt_toList _
 have t2 : (txt b.name).toList = b.name := txt_toList _
 go_enter Tryz.func32, Tryz.ntmps32
 go_wp2
 go_ret
 exact ⟨rfl, HB.out⟩
theorem rsame_key (a b : NdD) (A B : Option Addr) (m n c d : Nat) (w : World) (h : (a.name == b.name) = true) (h2 : (a.key == b.key) = false) :
  Calls Tryz.prog 32 #[.agg (cN a (.slice A m c)), .agg (cN b (.slice B n d))] w (Ans9 (.bool false) w) := by
 have HB : Hid (Below w.heap.size w ((w.alloc (.cells (cN a (.slice A m c)) 42)).alloc (.cells (cN b (.slice B n d)) 42))) := hHd (bAl.alloc (by simp) _)
 have t1 : (txt a.name).toList = a.name := txt_toList _
 have t2 : (txt b.name).toList = b.name := txt_toList _
 have t3 : (txt a.key).toList = a.key := txt_toList _
 have t4 : (txt b.key).toList = b.key := txt_toList _
 go_enter Tryz.func32, Tryz.ntmps32
 go_wp2
 go_ret
 exact ⟨rfl, HB.out⟩
theorem rsame_val (a b : NdD) (A B : Option Addr) (m n c d : Nat) (w : World) (h : (a.name == b.name) = true) (h2 : (a.key == b.key) = true) (h3 : ¬ (a.kind = b.kind ∧ a.num = b.num ∧ a.text = b.text)) :
  Calls Tryz.prog 32 #[.agg (cN a (.slice A m c)), .agg (cN b (.slice B n d))] w (Ans9 (.bool false) w) := by
 have HB : Hid (Below w.heap.size w ((w.alloc (.cells (cN a (.slice A m c)) 42)).alloc (.cells (cN b (.slice B n d)) 42))) := hHd (bAl.alloc (by simp) _)
 have t1 : (txt a.name).toList = a.name := txt_toList _
 have t2 : (txt b.name).toList = b.name := txt_toList _
 have t3 : (txt a.key).toList = a.key := txt_toList _
 have t4 : (txt b.key).toList = b.key := txt_toList _
 have t5 : (txt a.text).toList = a.text := txt_toList _
 have t6 : (txt b.text).toList = b.text := txt_toList _
 have e : ((a.kind == b.kind) && ((a.num == b.num) && (a.text == b.text))) = false := by
  rw [Bool.eq_false_iff]
  intro e
  simp only [Bool.and_eq_true, beq_iff_eq] at e
  exact h3 e
 clear h3
 cases e1 : (a.kind == b.kind) with
 | false =>
  clear e
  go_enter Tryz.func32, Tryz.ntmps32
  go_wp2
  go_ret
  exact ⟨rfl, HB.out⟩
 | true =>
  cases e2 : (a.num == b.num) with
  | false =>
   have e2' : ((a.num : Int) == (b.num : Int)) = false := by rw [beq_eq_false_iff_ne] at e2 ⊢; omega
   clear e
   go_enter Tryz.func32, Tryz.ntmps32
   go_wp2
   go_ret
   exact ⟨rfl, HB.out⟩
  | true =>
   have e2' : ((a.num : Int) == (b.num : Int)) = true := by rw [beq_iff_eq] at e2 ⊢; omega
   have e3 : (a.text == b.text) = false := by rw [e1, e2] at e; simpa using e
   clear e
   go_enter Tryz.func32, Tryz.ntmps32
   go_wp2
   go_ret
   exact ⟨rfl, HB.out⟩
theorem rsame_len (a : NdD) (A B : Option Addr) (m n c d : Nat) (w : World) (h : m ≠ n) :
  Calls Tryz.prog 32 #[.agg (cN a (.slice A m c)), .agg (cN a (.slice B n d))] w (Ans9 (.bool false) w) := by
 have HB : Hid (Below w.heap.size w ((w.alloc (.cells (cN a (.slice A m c)) 42)).alloc (.cells (cN a (.slice B n d)) 42))) := hHd (bAl.alloc (by simp) _)
 have t1 : (txt a.name).toList = a.name := txt_toList _
 have t3 : (txt a.key).toList = a.key := txt_toList _
 have t5 : (txt a.text).toList = a.text := txt_toList _
 have e1 : (m == n) = false := beq_eq_false_iff_ne.2 h
 have e2 : ((m : Int) == (n : Int)) = false := by rw [beq_eq_false_iff_ne]; omega
 clear h
 go_enter Tryz.func32, Tryz.ntmps32
 go_wp2
 go_ret
 exact ⟨rfl, HB.out⟩
theorem rsame_row (f g : NdF) (hkids : ∀ n a k, f.get? n = some (a, k) → SameP9 k) (a : NdD) (A B : Option Addr) (c d L : Nat) (w : World) (hf : RowT w.heap.size w (.slice A L c) f) (hg : RowT w.heap.size w (.slice B L d) g) (hsf : f.size ≤ 1000000) (hsg : g.size ≤ 1000000) :
  Calls Tryz.prog 32 #[.agg (cN a (.slice A L c)), .agg (cN a (.slice B L d))] w (Ans9 (.bool (decide (f = g))) w) := by
 have t1 : (txt a.name).toList = a.name := txt_toList _
 have t3 : (txt a.key).toList = a.key := txt_toList _
 have t5 : (txt a.text).toList = a.text := txt_toList _
 have hb2 : Blk ((w.alloc (.cells (cN a (.slice A L c)) 42)).alloc (.cells (cN a (.slice B L d)) 42)) (w.heap.size + 1) 42 (cN a (.slice B L d)) := by
  have h := Blk.new (w.alloc (.cells (cN a (.slice A L c)) 42)) 42 (cN a (.slice B L d))
  rw [show (w.alloc (.cells (cN a (.slice A L c)) 42)).heap.size = w.heap.size + 1 by simp] at h
  exact h
 have HQ := hHd (And.intro ((Blk.new w 42 (cN a (.slice A L c))).alloc (.cells (cN a (.slice B L d)) 42)) (And.intro hb2 (show Below w.heap.size w ((w.alloc (.cells (cN a (.slice A L c)) 42)).alloc (.cells (cN a (.slice B L d)) 42)) from bAl.alloc (by simp) _)))
 have HI := hHd hkids
 have HKF : Hid (RowT w.heap.size w (.slice A L c) f) := hHd hf
 have HKG : Hid (RowT w.heap.size w (.slice B L d) g) := hHd hg
 have HZ := hHd (And.intro hsf hsg)
 have HLF : Hid (L = f.len) := hHd hf.len.1
 have HLG : Hid (L = g.len) := hHd hg.len.1
 have i3 : (L : Int) ≤ 1000000 := by have := HLF.out; have := Fr.len_size f; omega
 clear hkids hf hg hsf hsg hb2
 go_enter Tryz.func32, Tryz.ntmps32
 go_wp2
 go_loopw [5, 6] (fun i v6 wr => ∃ j : Nat, j ≤ L ∧ i = .int .i64 (j : Int) ∧ Hid (∀ n, n < j → f.get? n = g.get? n) ∧ Blk wr w.heap.size 42 (cN a (.slice A L c)) ∧ Blk wr (w.heap.size + 1) 42 (cN a (.slice B L d)) ∧ Below w.heap.size w wr) (fun i _ _ => L - (intOf i).toNat)
 case atStart => exact ⟨0, Nat.zero_le _, rfl, hHd (fun n h => by omega), HQ.out.1, HQ.out.2.1, HQ.out.2.2⟩
 case round =>
  obtain ⟨j, hj, rfl, HL, hX, hY, hB⟩ := hrel
  have HBr := hHd hB
  have p5 : wr.cell? ⟨w.heap.size, 5, none⟩ = some (.slice A L c) := (hX.cell 5).trans rfl
  by_cases hlt : j < L
  ·obtain ⟨a1, q1, hg1⟩ := Fr.get_some (f := f) (n := j) (by have := HLF.out; omega)
   obtain ⟨a2, q2, hg2⟩ := Fr.get_some (f := g) (n := j) (by have := HLG.out; omega)
   obtain ⟨b1, o1, A1, c1, rfl, -, -, hbl1, hrow1, hcl1⟩ := HKF.out.at hg1
   obtain ⟨b2, o2, A2, c2, rfl, -, -, hbl2, hrow2, hcl2⟩ := HKG.out.at hg2
   have i1 : (0 : Int) ≤ (j : Int) := by omega
   have i2 : (j : Int) < (L : Int) := by omega
   obtain ⟨rb, hrb⟩ : ∃ z, z = decide (((a1, q1) : Nd) = (a2, q2)) := ⟨_, rfl⟩
   have HI1 : Hid (Calls Tryz.prog 32 #[.agg (cN a1 (.slice A1 q1.len c1)), .agg (cN a2 (.slice A2 q2.len c2))] wr.drew (Ans9 (.bool rb) wr.drew)) := hHd (by
    rw [hrb]
    exact HI.out j a1 q1 hg1 q2 a1 a2 A1 A2 c1 c2 wr.drew (hrow1.under hB.drew (Nat.le_refl _) hB.size) (hrow2.under hB.drew (Nat.le_refl _) hB.size) (by have := HZ.out.1; have := Fr.size_get hg1; omega) (by have := HZ.out.2; have := Fr.size_get hg2; omega))
   have HQ1 := hHd (And.intro (hX.below (Below.refl _ _).drew hX.lt) (And.intro (hY.below (Below.refl _ _).drew hY.lt) (And.intro (fun i u hu => (hB.drew.cell (p := ⟨b1, o1 + j * 6 + i, none⟩) hbl1).trans (hcl1 i u hu)) (fun i u hu => (hB.drew.cell (p := ⟨b2, o2 + j * 6 + i, none⟩) hbl2).trans (hcl2 i u hu)))))
   have HBd := hHd hB.drew
   have HLL := hHd (And.intro hbl1 hbl2)
   have HG1 := hHd hg1
   have HG2 := hHd hg2
   have HRB := hHd hrb
   clear hcl1 hcl2 hrow1 hrow2 hg1 hg2 hX hY hB hrb hbl1 hbl2
   go_wp2_with fail
   refine wp_region_noPanic ?_
   refine wp_region_held_drew (S := fun _ => True) (by kernel_rfl) trivial (fun hS => ?_)
   refine held_more (S' := fun w' => Blk w' w.heap.size 42 (cN a (.slice (some ⟨b1, o1, none⟩) L c)) ∧ Blk w' (w.heap.size + 1) 42 (cN a (.slice (some ⟨b2, o2, none⟩) L d)) ∧ (∀ i u, (ndC a1 (.slice A1 q1.len c1))[i]? = some u → w'.cell? ⟨b1, o1 + j * 6 + i, none⟩ = some u) ∧ (∀ i u, (ndC a2 (.slice A2 q2.len c2))[i]? = some u → w'.cell? ⟨b2, o2 + j * 6 + i, none⟩ = some u)) (fun _ _ => trivial) _ _ _ _ ?_
   replace hS := HQ1.out
   refine tkH 0 hS ?_
   refine tkH 1 hS ?_ (hy := fun w hSw => by have q5 := (hSw.1.cell 5).trans rfl; (go_simp <;> with_reducible rfl))
   refine tkH 2 hS ?_
   refine tkH 3 hS ?_
   refine tkH 4 hS ?_ (hy := fun w hSw => by have u0 : w.cell? ⟨b1, o1 + j * 6, none⟩ = _ := hSw.2.2.1 0 _ rfl; have u1 := hSw.2.2.1 1 _ rfl; have u2 := hSw.2.2.1 2 _ rfl; have u3 := hSw.2.2.1 3 _ rfl; have u4 := hSw.2.2.1 4 _ rfl; have u5 := hSw.2.2.1 5 _ rfl; (go_simp <;> with_reducible rfl))
   refine tkH 5 hS ?_
   refine tkH 6 hS ?_ (hy := fun w hSw => by have q5 := (hSw.2.1.cell 5).trans rfl; (go_simp <;> with_reducible rfl))
   refine tkH 7 hS ?_
   refine tkH 8 hS ?_
   refine tkH 9 hS ?_ (hy := fun w hSw => by have u0 : w.cell? ⟨b2, o2 + j * 6, none⟩ = _ := hSw.2.2.2 0 _ rfl; have u1 := hSw.2.2.2 1 _ rfl; have u2 := hSw.2.2.2 2 _ rfl; have u3 := hSw.2.2.2 3 _ rfl; have u4 := hSw.2.2.2 4 _ rfl; have u5 := hSw.2.2.2 5 _ rfl; (go_simp <;> with_reducible rfl))
   refine rdy1 10 fun K hK => ?_
   go_simp
   refine HI1.out.mono ?_
   rintro r w6 ⟨rfl, hb6⟩
   have HX6 := hHd (HQ1.out.1.below hb6 HQ1.out.1.lt)
   have HY6 := hHd (HQ1.out.2.1.below hb6 HQ1.out.2.1.lt)
   have HB6 := hHd (HBd.out.trans (hb6.mono HBd.out.size))
   have HW6 := hHd hb6
   clear hb6
   go_wp2_with fail
   refine hK.out _ _ ?sr_0 (fun hS => ?_)
   case sr_0 => (exact ⟨HX6.out, HY6.out, fun i u hu => (HW6.out.cell (p := ⟨b1, o1 + j * 6 + i, none⟩) (Nat.lt_of_lt_of_le HLL.out.1 HBd.out.size)).trans (HQ1.out.2.2.1 i u hu), fun i u hu => (HW6.out.cell (p := ⟨b2, o2 + j * 6 + i, none⟩) (Nat.lt_of_lt_of_le HLL.out.2 HBd.out.size)).trans (HQ1.out.2.2.2 i u hu)⟩)
   clear hK K
   (try simp only [Act.put, layS])
   refine tkH 11 hS ?_
   refine wpAnyH_done (by kernel_rfl) ?_ _
   refine NoPanic.normal ?_
   cases rb with
   | false =>
    have HF : Hid (decide (f = g) = false) := hHd (decide_eq_false (fun e => by
     have h1 := HG1.out
     rw [e, HG2.out] at h1
     injection h1 with h1
     have h2 := HRB.out
     rw [h1] at h2
     simp at h2))
    clear hS p5
    go_wp2
    go_ret
    exact ⟨by rw [HF.out]; rfl, HB6.out⟩
   | true =>
    have HL2 : Hid (∀ n, n < j + 1 → f.get? n = g.get? n) := hHd (fun n hn => by
     by_cases e : n = j
     ·subst e
      have h2 : ((a1, q1) : Nd) = (a2, q2) := of_decide_eq_true HRB.out.symm
      rw [HG1.out, HG2.out, h2]
     ·exact HL.out n (by omega))
    clear hS p5
    go_wp2
    go_roundw
    case rel => exact ⟨j + 1, by omega, by go_num, HL2, HX6.out, HY6.out, HB6.out⟩
    case measure => simp [intOf]; omega
  ·have i2 : ¬ (j : Int) < (L : Int) := by omega
   have HF : Hid (decide (f = g) = true) := hHd (decide_eq_true (Fr.ext (by have := HLF.out; have := HLG.out; omega) (fun n hn => HL.out n (by have := HLF.out; omega))))
   clear hX hY hB
   go_wp2
   go_ret
   exact ⟨by rw [HF.out]; rfl, HBr.out⟩
theorem rsamef_any (f : NdF) : SameP9 f := by
 refine Fr.byKids (P := SameP9) ?_ f
 clear f
 intro f hkids g a b A B c d w hf hg hsf hsg
 by_cases h1 : a.name = b.name
 ·by_cases h2 : a.key = b.key
  ·by_cases h3 : a.kind = b.kind ∧ a.num = b.num ∧ a.text = b.text
   ·obtain rfl : a = b := NdD.ext_ h1 h2 h3.1 h3.2.1 h3.2.2
    by_cases h4 : f.len = g.len
    ·rw [← h4] at hg ⊢
     refine (rsame_row f g hkids a A B c d f.len w hf hg hsf hsg).mono fun _ _ h => h.bool ?_
     by_cases e : f = g
     ·rw [e, decide_eq_true rfl, decide_eq_true rfl]
     ·rw [decide_eq_false e, decide_eq_false (fun h => e (Prod.ext_iff.1 h).2)]
    ·exact (rsame_len a A B _ _ c d w h4).mono fun _ _ h => h.bool (decide_eq_false (fun e => h4 (by rw [show f = g from (Prod.ext_iff.1 e).2]))).symm
   ·exact (rsame_val a b A B _ _ c d w (beq_iff_eq.2 h1) (beq_iff_eq.2 h2) h3).mono fun _ _ h => h.bool (decide_eq_false (fun e => h3 (by rw [show a = b from (Prod.ext_iff.1 e).1]; exact ⟨rfl, rfl, rfl⟩))).symm
  ·exact (rsame_key a b A B _ _ c d w (beq_iff_eq.2 h1) (beq_eq_false_iff_ne.2 h2)).mono fun _ _ h => h.bool (decide_eq_false (fun e => h2 (by rw [show a = b from (Prod.ext_iff.1 e).1]))).symm
 ·exact (rsame_name a b A B _ _ c d w (beq_eq_false_iff_ne.2 h1)).mono fun _ _ h => h.bool (decide_eq_false (fun e => h1 (by rw [show a = b from (Prod.ext_iff.1 e).1]))).symm
theorem rsamet_any (x y : Nd) (cs ds : List Value) (w : World) (hx : LieN w cs x) (hy : LieN w ds y) (hf : Few9 x) (hg : Few9 y) : Calls Tryz.prog 32 #[.agg cs.toArray, .agg ds.toArray] w (Ans9 (.bool (decide (x = y))) w) := by
 obtain ⟨A, c, rfl, hk⟩ := hx.shape
 obtain ⟨B, d, rfl, hk2⟩ := hy.shape
 exact rsamef_any x.2 y.2 x.1 y.1 A B c d w hk hk2 hf hg
theorem res_ct9 {P : Program} {fn : Func} {p u : Tmp} {ty : TypeId} (h : fn.results = #[.cell p ty, .tmp u]) (tmps : Array Value) (w : World) (g : Nat) (t : TypeId) (cs : Array Value) (fr : Nat × Nat) (d : TypeDesc)
  (hp : tmps.getD p undef = .pointer (some ⟨g, 0, none⟩)) (hg : w.heap[g]? = some (.cells cs t fr))
  (hu : P.underlying ty = some d) (hd : (match d with | .struct _ | .array _ _ => true | _ => false) = true) (hi : (P.info? ty).map (·.size) = some cs.size) :
  (results fn tmps).run P w = .ok (.tuple #[.agg cs, tmps.getD u undef]) w := by
 rw [results_cell_tmp h, hp]
 simp [asAddr, run_loadVar_row w g t ty cs fr d hg hu hd hi, Result.andThen]
def set6 (w : World) (b : Nat) (x0 x1 x2 x3 x4 x5 : Value) : World := (((((w.setCell ⟨b, 0, none⟩ x0).setCell ⟨b, 1, none⟩ x1).setCell ⟨b, 2, none⟩ x2).setCell ⟨b, 3, none⟩ x3).setCell ⟨b, 4, none⟩ x4).setCell ⟨b, 5, none⟩ x5
theorem Blk.set6 {w : World} {b : Nat} {t : TypeId} {y0 y1 y2 y3 y4 y5 : Value} (h : Blk w b t #[y0, y1, y2, y3, y4, y5]) (x0 x1 x2 x3 x4 x5 : Value) : Blk (set6 w b x0 x1 x2 x3 x4 x5) b t #[x0, x1, x2, x3, x4, x5] := by
 have h2 := ((((((h).set_ 0 x0).set_ 1 x1).set_ 2 x2).set_ 3 x3).set_ 4 x4).set_ 5 x5
 simp only [layS] at h2
 exact h2
theorem set6_below {B : Nat} {w : World} {b : Nat} {x0 x1 x2 x3 x4 x5 : Value} (h : B ≤ b) : Below B w (set6 w b x0 x1 x2 x3 x4 x5) :=
 ((((((Below.refl B w).setCell (p := ⟨b, 0, none⟩) h x0).setCell (p := ⟨b, 1, none⟩) h x1).setCell (p := ⟨b, 2, none⟩) h x2).setCell (p := ⟨b, 3, none⟩) h x3).setCell (p := ⟨b, 4, none⟩) h x4).setCell (p := ⟨b, 5, none⟩) h x5
theorem set6_other {w : World} {b g : Nat} {x0 x1 x2 x3 x4 x5 : Value} (h : g ≠ b) : (set6 w b x0 x1 x2 x3 x4 x5).heap[g]? = w.heap[g]? := by
 unfold set6
 rw [Below.heap_setCell _ _ _ _ h, Below.heap_setCell _ _ _ _ h, Below.heap_setCell _ _ _ _ h, Below.heap_setCell _ _ _ _ h, Below.heap_setCell _ _ _ _ h, Below.heap_setCell _ _ _ _ h]
theorem set6_size {w : World} {b : Nat} {x0 x1 x2 x3 x4 x5 : Value} : (set6 w b x0 x1 x2 x3 x4 x5).heap.size = w.heap.size := by simp [set6, World.setCell]
theorem LieB.row {b : Nat} {w : World} {a : NdD} {f : NdF} {v : Value} (h : LieB b w (ndC a v) (a, f)) : RowT b w v f := by
 obtain ⟨A, c, e, h2⟩ := h.shape
 have e2 : v = .slice A f.len c := by
  have := congrArg (fun l => l[5]?) e
  simpa using this
 rw [e2]
 exact h2
theorem LieP.set6 {b B g : Nat} {w : World} {cs : List Value} {x : Nd} (h : LieP b B w cs x) (hg : b ≤ g) (hB : g < B) (x0 x1 x2 x3 x4 x5 : Value) : LieP b B (set6 w g x0 x1 x2 x3 x4 x5) cs x :=
 h.keep (fun k hk => set6_other (by omega)) (fun k hk => by rw [set6_size]; exact hk)
theorem LieP.after {b B B' : Nat} {w : World} {cs : List Value} {x : Nd} (h : LieP b B w cs x) (hB : B' ≤ B) : LieP b B' w cs x :=
 h.keep (fun _ _ => rfl) (fun k hk => by rcases hk with h | h; exact .inl h; exact .inr ⟨by omega, h.2⟩)
theorem LieP.below {b B : Nat} {w w' : World} {cs : List Value} {x : Nd} (h : LieP b B w cs x) (hb : Below w.heap.size w w') (hbw : b ≤ w.heap.size) : LieP b B w' cs x :=
 h.keep (fun k hk => hb.block k (by rcases hk with h | h <;> omega)) (fun k hk => by have := hb.size; rcases hk with h | h; exact .inl h; exact .inr ⟨h.1, by omega⟩)
theorem GetX_none {x : Nd} {s : Stp} {l : List Stp} (h : findN s x.2 = none) : GetX x (s :: l) = (noN, false) := by
 unfold GetX; simp only [getX]; rw [findN_none h]
theorem GetX_some {x y : Nd} {s : Stp} {l : List Stp} {i : Nat} (h : findN s x.2 = some i) (hy : x.2.get? i = some y) : GetX x (s :: l) = GetX y l := by
 unfold GetX; simp only [getX]
 obtain ⟨z, h1, h2, h3⟩ := find_stp h
 rw [hy] at h1
 injection h1 with h1
 rw [h3, ← h1]
section
attribute [local go_sem] Oper.semAt_some
theorem sz_drop18 {u : Nat} {d : List UInt8} {q : Fo} {k : Fo} {j : Nat} (h : Fo.drop j k = .cons u d q (Fo.drop (j + 1) k)) : 1 + d.length + q.sz ≤ k.sz := by
 have h1 := Fo.sz_app (Fo.take j k) (Fo.drop j k)
 rw [Fo.take_app_drop, h] at h1
 simp only [Fo.sz] at h1
 omega
theorem len_sz18 : ∀ k : Fo, k.len ≤ k.sz := by
 intro k
 induction k with
 | nil => exact Nat.le_refl _
 | cons t d k r _ ih => simp only [Fo.len, Fo.sz]; omega
def OwnR18 (base : Nat) (w : World) (v : Value) (f : NdF) : Prop := ∃ S, (∀ g, S g → base ≤ g) ∧ OwnG NdT 42 6 5 w base S noB v f
theorem OwnR18.nil (base : Nat) (w : World) : OwnR18 base w (.slice none 0 0) .nil := ⟨fun _ => False, fun _ h => h.elim, OwnG.nil _ _⟩
theorem OwnR18.below {base : Nat} {w w' : World} {v : Value} {f : NdF} (h : OwnR18 base w v f) (hb : Below w.heap.size w w') : OwnR18 base w' v f := by
 obtain ⟨S, h1, h2⟩ := h
 exact ⟨S, h1, h2.below stay_nd hb⟩
theorem OwnR18.shape {base : Nat} {w : World} {v : Value} {f : NdF} (h : OwnR18 base w v f) : ∃ A c, v = .slice A f.len c := h.choose_spec.2.shape
theorem OwnR18.lt {base : Nat} {w : World} {v : Value} {f : NdF} (h : OwnR18 base w v f) : ∀ k, v.ownBlock = some k → base ≤ k ∧ k < w.heap.size := h.choose_spec.2.lt
theorem OwnR18.more {base B : Nat} {w w' : World} {v : Value} {f : NdF} {cs : List Value} {x : Nd} (h : OwnR18 base w v f) (hb : Below w.heap.size w w') (hB : w.heap.size ≤ B) (hbB : base ≤ B) (hx : LieP 0 B w' cs x) :
  ∃ S, (∀ g, S g → base ≤ g) ∧ OwnG NdT 42 6 5 w' base S noB v f ∧ FrN NdT 6 5 w' S noB cs x.1 x.2 := by
 obtain ⟨S, h1, h2⟩ := h
 have h3 := h2.below stay_nd hb
 refine ⟨fun g => S g ∨ (B ≤ g ∧ g < w'.heap.size), fun g hg => hg.elim (h1 g) (fun h => Nat.le_trans hbB h.1), h3.widen stay_nd (fun g hg => .inl hg) (fun _ h => h) (fun g hg => ?_) (fun g hg => absurd hg (by exact id)), ?_⟩
 ·rcases hg with hg | hg
  ·exact h3.1 g hg
  ·refine ⟨hg.2, fun e => ?_⟩
   have := (h2.lt g e.symm).2
   have := hg.1
   omega
 ·exact FrN.mono stay_nd hx (fun g hg => .inr (hg.elim (fun h => absurd h (Nat.not_lt_zero _)) id)) (fun _ h => h)
theorem OwnR18.row {base : Nat} {w : World} {v : Value} {f : NdF} (h : OwnR18 base w v f) : RowP 0 base w v f := by
 obtain ⟨S, h1, h2⟩ := h
 refine FrV.mono stay_nd (h2.frv stay_nd) (fun g hg => ?_) (fun _ h => h)
 rcases hg with hg | hg
 ·exact .inr ⟨h1 g hg, (h2.1 g hg).1⟩
 ·exact .inr (h2.lt g hg)
def Bx18 (w : World) (t : Nat) (d : List UInt8) (A : Option Addr) (k : Fo) (c : Nat) (a : NdD) (v : Value) (W : World) : Prop :=
 Blk W w.heap.size 79 #[.int .u64 (t : Int), .string (txt d), .slice A k.len c] ∧ Blk W (w.heap.size + 1) 42 #[.string ⟨#[]⟩, .string ⟨#[]⟩, .int .i64 0, .int .u64 0, .string ⟨#[]⟩, .slice none 0 0] ∧ Blk W (w.heap.size + 2) 42 (cN a v) ∧ Below w.heap.size w W
theorem Bx18.go {w : World} {t : Nat} {d : List UInt8} {A : Option Addr} {k : Fo} {c : Nat} {a : NdD} {v : Value} {W W' : World} (h : Bx18 w t d A k c a v W) (hb : Below W.heap.size W W') : Bx18 w t d A k c a v W' :=
 ⟨h.1.below hb h.1.lt, h.2.1.below hb h.2.1.lt, h.2.2.1.below hb h.2.2.1.lt, h.2.2.2.trans (hb.mono h.2.2.2.size)⟩
end
end Go.Proofs.YtleidkpdpabkpaaGreatDoor
