/- What ValidClasses stands on: Law10D. -/
import Derived.Test.YtljjaikejfoanaaGreatXM0
import Derived.Test.YtljjaikejfoanaaGreatXM11
import Derived.Test.YtljjaikejfoanaaGreatXM14
import Derived.Test.YtljjaikejfoanaaGreatXM32
import Derived.Test.YtljjaikejfoanaaGreatXM33
set_option linter.unusedSimpArgs false
set_option linter.unusedVariables false
namespace Go.Proofs.YtljjaikejfoanaaGreat
open Go.RowKit
attribute [local go_sem] Oper.semAt_some
abbrev PtE := NdD × NdF × Value
def ptC (ys : List PtE) : List Value := ys.flatMap fun y => ndC y.1 y.2.2
theorem ptC_at : ∀ (ys : List PtE) (i j : Nat) (y : PtE), ys[i]? = some y → j < 6 → (ptC ys)[i * 6 + j]? = (ndC y.1 y.2.2)[j]? := by
 intro ys
 induction ys with
 | nil => intro i j y h; simp at h
 | cons x ys ih =>
  intro i j y h hj
  unfold ptC at ih ⊢
  rw [List.flatMap_cons]
  cases i with
  | zero =>
   simp at h
   subst h
   rw [Nat.zero_mul, Nat.zero_add, List.getElem?_append_left (by simp; omega)]
  | succ i =>
   have e : (ndC x.1 x.2.2).length = 6 := rfl
   rw [List.getElem?_append_right (by rw [e]; omega), e, show (i + 1) * 6 + j - 6 = i * 6 + j by omega]
   exact ih i j y (by simpa using h) hj
theorem ptC_snoc (ys : List PtE) (y : PtE) : ptC (ys ++ [y]) = ptC ys ++ ndC y.1 y.2.2 := by simp [ptC]
def PtOk (w : World) (f : NdF) (y : PtE) : Prop := (∃ m, f.get? m = some (y.1, y.2.1)) ∧ y.1.name = nPort ∧ ∃ A c, y.2.2 = .slice A y.2.1.len c ∧ RowT w.heap.size w (.slice A y.2.1.len c) y.2.1
theorem cellsStr10 : (Tryz.prog.info? 9).map (fun i => (i.zero, i.size, i.bytes)) = some (some (.string ⟨#[]⟩), 1, 16) := by kernel_rfl
theorem name_ne {n : List UInt8} {t : List UInt8} (h : n ≠ t) : ((txt n).toList == t) = false := by
 rw [txt_toList]
 cases hb : (n == t) with
 | false => rfl
 | true => exact absurd (eq_of_beq hb) h
theorem name_eq {n : List UInt8} {t : List UInt8} (h : n = t) : ((txt n).toList == t) = true := by rw [txt_toList, h]; exact beq_self_eq_true _
theorem beq_dec (a b : List UInt8) : (a == b) = decide (a = b) := by
 cases h : (a == b) with
 | true => rw [decide_eq_true (eq_of_beq h)]
 | false => rw [decide_eq_false (by intro e; rw [e, beq_self_eq_true] at h; cases h)]
theorem used_def {pa : NdD} {pk : NdF} {key : List UInt8} : usedX pk key = (decide ((GetX (pa, pk) [defS]).1.1.text = key) || anyC key pk) := by
 unfold usedX
 rw [get_one]
 cases gtF defS pk <;> rfl
def clsO (key : List UInt8) : Option Nd → Bool
 | none => false
 | some z => decide (z.1.text = key)
theorem zeroStr10 : (Value.string ⟨#[]⟩).cells.size = 1 := rfl
theorem txts_snoc10 (ks : List (List UInt8)) (x : List UInt8) : txts (ks ++ [x]) = txts ks ++ [.string (txt x)] := by simp [txts]
def KeysB (pk : NdF) (j : Nat) (ks : List (List UInt8)) : Prop := (∀ x ∈ ks, ∃ (n : Nat) (ca : NdD) (ck : NdF), pk.get? n = some (ca, ck) ∧ ca.name = nClass ∧ ca.key = x) ∧ (∀ n ca ck, n < j → pk.get? n = some (ca, ck) → ca.name = nClass → ca.key ∈ ks) ∧ ks.length ≤ j
theorem keys_next_yes {pk : NdF} {j : Nat} {ks : List (List UInt8)} {y : NdD} {k : NdF} (h : KeysB pk j ks) (hg : pk.get? j = some (y, k)) (hn : y.name = nClass) : KeysB pk (j + 1) (ks ++ [y.key]) := by
 refine ⟨fun x hx => ?_, fun n ca ck hlt hn2 hc => ?_, by rw [List.length_append]; have := h.2.2; simp only [List.length_cons, List.length_nil]; omega⟩
 ·rcases List.mem_append.1 hx with h1 | h1
  ·exact h.1 x h1
  ·rw [List.mem_singleton.1 h1]; exact ⟨j, y, k, hg, hn, rfl⟩
 ·by_cases e : n = j
  ·subst e
   rw [hg] at hn2
   injection hn2 with hn2
   injection hn2 with e1 e2
   subst e1
   simp
  ·exact List.mem_append_left _ (h.2.1 n ca ck (by omega) hn2 hc)
theorem keys_next_no {pk : NdF} {j : Nat} {ks : List (List UInt8)} {y : NdD} {k : NdF} (h : KeysB pk j ks) (hg : pk.get? j = some (y, k)) (hn : y.name ≠ nClass) : KeysB pk (j + 1) ks := by
 refine ⟨h.1, fun n ca ck hlt hn2 hc => ?_, by have := h.2.2; omega⟩
 by_cases e : n = j
 ·subst e
  rw [hg] at hn2
  injection hn2 with hn2
  injection hn2 with e1 e2
  subst e1
  exact absurd hc hn
 ·exact h.2.1 n ca ck (by omega) hn2 hc
set_option maxRecDepth 100000 in
set_option maxHeartbeats 8000000 in
theorem validClasses_walk (v : Int) (a : NdD) (f : NdF) (A : Option Addr) (c : Nat) (q : Nat) (w : World) (hrow : RowT w.heap.size w (.slice A f.len c) f) (hf : f.size ≤ 999990) (hoka : OkD a) (hok : OkF f) (HAW : Awake10 w) (hq : q < 65536) :
  Calls Tryz.prog 5 #[.int .i64 v, .agg #[.string (txt a.name), .string (txt a.key), .int .i64 a.kind, .int .u64 (a.num : Int), .string (txt a.text), .slice A f.len c], .int .u16 (q : Int)] w (Ans9 (.bool true) w) := by
 have hx1 : Below w.heap.size w (w.alloc (.cells #[.string (txt a.name), .string (txt a.key), .int .i64 a.kind, .int .u64 (a.num : Int), .string (txt a.text), .slice A f.len c] 27)) := (Below.refl _ _).alloc (Nat.le_refl _) _
 have HAU := Lib.hid (HAW (w.alloc (.cells #[.string (txt a.name), .string (txt a.key), .int .i64 a.kind, .int .u64 (a.num : Int), .string (txt a.text), .slice A f.len c] 27)) hx1)
 have HX1 := Lib.hid hx1
 have HBK := Lib.hid (Blk.new w 27 #[.string (txt a.name), .string (txt a.key), .int .i64 a.kind, .int .u64 (a.num : Int), .string (txt a.text), .slice A f.len c])
 have HROW := Lib.hid hrow
 have HOK := Lib.hid hok
 have HOKA := Lib.hid hoka
 have HF9 := Lib.hid hf
 have HQ0 := Lib.hid hq
 have HF : Hid (f.size ≤ 1000000) := Lib.hid (by omega)
 have hlen : f.len ≤ 1000000 := by have := Fr.len_size f; omega
 have hl0 : (f.len : Int) ≤ 1000000 := by omega
 clear hx1 hrow hf hok hoka HAW hq
 go_enter Tryz.func5, Tryz.ntmps5
 go_wp2_with fail
 refine HAU.out.mono ?_
 rintro r w1 ⟨rfl, hb1⟩
 have HB1 := Lib.hid (HX1.out.trans (hb1.mono HX1.out.size))
 have HN1 := Lib.hid (HBK.out.below hb1 HBK.out.lt)
 clear hb1
 have q0 := (HN1.out.cell 0).trans rfl
 have q1 := (HN1.out.cell 1).trans rfl
 have q2 := (HN1.out.cell 2).trans rfl
 have q3 := (HN1.out.cell 3).trans rfl
 have q4 := (HN1.out.cell 4).trans rfl
 have q5 := (HN1.out.cell 5).trans rfl
 go_wp2_with fail
 refine (rsmall10_any a f A c _ (HROW.out.under HB1.out (Nat.le_refl _) HB1.out.size) HF.out).mono ?_
 rintro r w2 ⟨rfl, hb2⟩
 have HB2 := Lib.hid (HB1.out.trans (hb2.mono HB1.out.size))
 have HN2 := Lib.hid (HN1.out.below hb2 HN1.out.lt)
 clear hb2 q0 q1 q2 q3 q4 q5
 cases hsm : decide (f.size + 1 ≤ 300) with
 | false =>
  clear hsm
  go_wp2
  go_ret
  exact ⟨rfl, HB2.out⟩
 | true =>
  clear hsm
  have q0 := (HN2.out.cell 0).trans rfl
  have q1 := (HN2.out.cell 1).trans rfl
  have q2 := (HN2.out.cell 2).trans rfl
  have q3 := (HN2.out.cell 3).trans rfl
  have q4 := (HN2.out.cell 4).trans rfl
  have q5 := (HN2.out.cell 5).trans rfl
  go_wp2_with fail
  refine (vmay_any v a f A c _ (HROW.out.under HB2.out (Nat.le_refl _) HB2.out.size) HF.out HOK.out).mono ?_
  rintro r w3 ⟨rfl, hb3⟩
  have HB3 := Lib.hid (HB2.out.trans (hb3.mono HB2.out.size))
  have HN3 := Lib.hid (HN2.out.below hb3 HN2.out.lt)
  clear hb3 q0 q1 q2 q3 q4 q5
  cases hm : MayX v (a, f) with
  | false =>
   go_wp2
   go_ret
   exact ⟨rfl, HB3.out⟩
  | true =>
   have HM : Hid ((CheckX v (a, f)).1 = 0) := Lib.hid (by unfold MayX at hm; simpa using hm)
   clear hm
   go_wp2_with fail
   go_loopw [9, 10] (fun v9 v10 wr => ∃ (i : Nat) (ys : List PtE), i ≤ f.len ∧ v10 = .int .i64 (i : Int) ∧ Hid ((∀ y ∈ ys, PtOk w f y) ∧ ys.length ≤ i) ∧ Hid (OwnK 27 6 wr w3.heap.size v9 ys.length (ptC ys)) ∧ Hid (Below w3.heap.size w3 wr)) (fun _ v10 _ => f.len - (intOf v10).toNat)
   case atStart => exact ⟨0, [], Nat.zero_le _, rfl, Lib.hid ⟨fun y hy => (by cases hy), Nat.le_refl _⟩, Lib.hid (OwnK.nil _ _ _ _), Lib.hid (Below.refl _ _)⟩
   case round =>
    obtain ⟨i, ys, hi, rfl, HPS, HOW, HW⟩ := hrel
    obtain ⟨w0, hw0⟩ : ∃ w0, w0 = wr := ⟨_, rfl⟩
    subst hw0
    obtain ⟨Ay, cy, rfl⟩ := HOW.out.shape
    have i1 : (0 : Int) ≤ (i : Int) := by omega
    have HWW : Hid (Below w.heap.size w w0) := Lib.hid (HB3.out.trans (HW.out.mono HB3.out.size))
    have HBW : Hid (Blk w0 w.heap.size 27 #[.string (txt a.name), .string (txt a.key), .int .i64 a.kind, .int .u64 (a.num : Int), .string (txt a.text), .slice A f.len c]) := Lib.hid (HN3.out.below HW.out HN3.out.lt)
    have r5 := (HBW.out.cell 5).trans rfl
    by_cases hlt : i < f.len
    ·obtain ⟨y, k, hg⟩ := Fr.get_some hlt
     obtain ⟨g, o, Ak, ck, rfl, -, hnc, hgb, hrk, hcell⟩ := HROW.out.at hg
     have hco : ∀ j u, (ndC y (.slice Ak k.len ck))[j]? = some u → w0.cell? ⟨g, o + i * 6 + j, none⟩ = some u := fun j u hu => (World.cell?_of_block (w := w) (a := ⟨g, o + i * 6 + j, none⟩) (HWW.out.block g hgb)).trans (hcell j u hu)
     have q0 : (w0).cell? ⟨g, o + i * 6, none⟩ = _ := hco 0 _ rfl
     have q1 : (w0).cell? ⟨g, o + i * 6 + 1, none⟩ = _ := hco 1 _ rfl
     have q2 : (w0).cell? ⟨g, o + i * 6 + 2, none⟩ = _ := hco 2 _ rfl
     have q3 : (w0).cell? ⟨g, o + i * 6 + 3, none⟩ = _ := hco 3 _ rfl
     have q4 : (w0).cell? ⟨g, o + i * 6 + 4, none⟩ = _ := hco 4 _ rfl
     have q5 : (w0).cell? ⟨g, o + i * 6 + 5, none⟩ = _ := hco 5 _ rfl
     have q0' : w0.cell? ⟨g, o + i * 6, none⟩ = some (.string (txt y.name)) := q0
     have i2 : (i : Int) < (f.len : Int) := by omega
     have HLT : Hid (i + 1 ≤ f.len) := Lib.hid hlt
     by_cases hn : y.name = nPort
     ·have h1 : ((txt y.name).toList == [112, 111, 114, 116]) = true := name_eq hn
      have HPY : Hid (PtOk w f (y, k, .slice Ak k.len ck)) := Lib.hid ⟨⟨i, hg⟩, hn, Ak, ck, rfl, hrk⟩
      have hal : Below w0.heap.size w0 (w0.alloc (.cells ([.string (txt y.name), .string (txt y.key), .int .i64 y.kind, .int .u64 (y.num : Int), .string (txt y.text), .slice Ak k.len ck] : List Value).toArray 27)) := (Below.refl _ _).alloc (Nat.le_refl _) _
      have HOA := Lib.hid (HOW.out.below hal)
      have HBA := Lib.hid (Blk.new w0 27 ([.string (txt y.name), .string (txt y.key), .int .i64 y.kind, .int .u64 (y.num : Int), .string (txt y.text), .slice Ak k.len ck] : List Value).toArray)
      have HBS : Hid (w3.heap.size ≤ ((w0.alloc (.cells ([.string (txt y.name), .string (txt y.key), .int .i64 y.kind, .int .u64 (y.num : Int), .string (txt y.text), .slice Ak k.len ck] : List Value).toArray 27))).heap.size) := Lib.hid (Nat.le_trans HW.out.size hal.size)
      have HON : Hid (∀ u ∈ ([.string (txt y.name), .string (txt y.key), .int .i64 y.kind, .int .u64 (y.num : Int), .string (txt y.text), .slice Ak k.len ck] : List Value), u.oneCell' = true) := Lib.hid (by simp [Value.oneCell'])
      have HAL : Hid (Below w3.heap.size w3 (w0.alloc (.cells ([.string (txt y.name), .string (txt y.key), .int .i64 y.kind, .int .u64 (y.num : Int), .string (txt y.text), .slice Ak k.len ck] : List Value).toArray 27))) := Lib.hid (HW.out.trans (hal.mono HW.out.size))
      have l8 : ys.length ≤ 1000000 := by have := HPS.out.2; omega
      clear hco hcell hrk hg hn hal hlt
      go_wp2_with (at_builtin; refine wpList_append_k (P := Tryz.prog) (ts := 25) Tryz.underlying25 Tryz.cellsNd zeroN (by omega) rfl _ _ rfl rfl w3.heap.size (.slice Ay ys.length cy) ys.length (ptC ys) rfl HOA.out w0.heap.size rfl [.string (txt y.name), .string (txt y.key), .int .i64 y.kind, .int .u64 (y.num : Int), .string (txt y.text), .slice Ak k.len ck] HBA.out rfl HON.out (by omega) (by omega) HBS.out ?_; intro v' w' hap)
      have hb' := AppK.below hap HOA.out HBS.out
      have HNW : Hid (OwnK 27 6 w' w3.heap.size v' (ys ++ [((y, k, .slice Ak k.len ck) : PtE)]).length (ptC (ys ++ [((y, k, .slice Ak k.len ck) : PtE)]))) := Lib.hid (by rw [List.length_append, ptC_snoc]; exact hap.1)
      have HNB : Hid (Below w3.heap.size w3 w') := Lib.hid (HAL.out.trans hb')
      clear hap hb'
      go_roundw
      case rel => exact ⟨i + 1, ys ++ [((y, k, .slice Ak k.len ck) : PtE)], HLT.out, by go_num, Lib.hid ⟨fun z hz => by
       rcases List.mem_append.1 hz with h | h
       ·exact HPS.out.1 z h
       ·rw [List.mem_singleton.1 h]; exact HPY.out, by rw [List.length_append]; have := HPS.out.2; simp only [List.length_cons, List.length_nil]; omega⟩, HNW, HNB⟩
      case measure => have := HLT.out; simp [intOf]; omega
     ·have h1 : ((txt y.name).toList == [112, 111, 114, 116]) = false := name_ne hn
      clear hco hcell hrk hg hn hlt
      go_wp2
      go_roundw
      case rel => exact ⟨i + 1, ys, HLT.out, by go_num, Lib.hid ⟨HPS.out.1, by have := HPS.out.2; omega⟩, HOW, HW⟩
      case measure => have := HLT.out; simp [intOf]; omega
    ·have i2 : ¬ (i : Int) < (f.len : Int) := by omega
     clear hlt
     by_cases hy0 : ys.length = 0
     ·have k0 : ((ys.length : Int) == 0) = true := beq_iff_eq.2 (by omega)
      go_wp2
      go_ret
      exact ⟨rfl, HWW.out⟩
     ·have k0 : ((ys.length : Int) == 0) = false := beq_eq_false_iff_ne.2 (by omega)
      have l8 : ys.length ≤ 1000000 := by have := HPS.out.2; omega
      obtain ⟨m, hm⟩ : ∃ m, m = q % 256 % ys.length := ⟨_, rfl⟩
      have hmy : m < ys.length := by rw [hm]; exact Nat.mod_lt _ (by omega)
      have ht0 : ((q : Int)).tmod 256 = ((q % 256 : Nat) : Int) := rfl
      have ht1 : (((q % 256 : Nat) : Int)).tmod (ys.length : Int) = (m : Int) := by rw [hm]; rfl
      obtain ⟨r9, hr9⟩ : ∃ r9, r9 = q % 256 := ⟨_, rfl⟩
      have hr9b : r9 < 256 := by rw [hr9]; exact Nat.mod_lt _ (by omega)
      rw [← hr9] at ht0 ht1
      have hw16 : IntKind.u16.wrap (r9 : Int) = (r9 : Int) := IntWalk.u16_in _ (by omega)
      have hw64 : IntKind.i64.wrap (r9 : Int) = (r9 : Int) := IntWalk.i64_in _ (by omega)
      obtain ⟨⟨pa, pk, pv⟩, hpm⟩ : ∃ y, ys[m]? = some y := ⟨_, List.getElem?_eq_getElem hmy⟩
      obtain ⟨⟨mp, hpg⟩, hpn, Ap, cp, hpv, hprow⟩ := HPS.out.1 _ (List.mem_of_getElem? hpm)
      simp only at hpg hpn hpv hprow
      subst hpv
      obtain ⟨dp, ⟨-, A', c', e, hnc, hcell⟩, -⟩ := HOW.out.row
      injection e with e1 e2 e3
      subst e1 e3
      obtain ⟨hdp, off, rfl, hcl⟩ := hcell (by omega)
      have hcp : ∀ j u, (ndC pa (.slice Ap pk.len cp))[j]? = some u → w0.cell? ⟨dp, off + m * 6 + j, none⟩ = some u := fun j u hu => by
       have hj : j < 6 := (List.getElem?_eq_some_iff.1 hu).1
       have h := hcl (m * 6 + j) u (by rw [ptC_at ys m j _ hpm hj]; exact hu)
       rw [← Nat.add_assoc] at h
       exact h
      have z0 : (w0).cell? ⟨dp, off + m * 6, none⟩ = _ := hcp 0 _ rfl
      have z1 : (w0).cell? ⟨dp, off + m * 6 + 1, none⟩ = _ := hcp 1 _ rfl
      have z2 : (w0).cell? ⟨dp, off + m * 6 + 2, none⟩ = _ := hcp 2 _ rfl
      have z3 : (w0).cell? ⟨dp, off + m * 6 + 3, none⟩ = _ := hcp 3 _ rfl
      have z4 : (w0).cell? ⟨dp, off + m * 6 + 4, none⟩ = _ := hcp 4 _ rfl
      have z5 : (w0).cell? ⟨dp, off + m * 6 + 5, none⟩ = _ := hcp 5 _ rfl
      have z0' : w0.cell? ⟨dp, off + m * 6, none⟩ = some (.string (txt pa.name)) := z0
      have n0 : (m : Int) < (ys.length : Int) := by omega
      have n1 : (0 : Int) ≤ (m : Int) := by omega
      have n2 : ¬ ys.length = 0 := hy0
      have HPN := Lib.hid (And.intro hpg (And.intro hpn hprow))
      have hap : Below w0.heap.size w0 (w0.alloc (.cells #[.string (txt pa.name), .string (txt pa.key), .int .i64 pa.kind, .int .u64 (pa.num : Int), .string (txt pa.text), .slice Ap pk.len cp] 27)) := (Below.refl _ _).alloc (Nat.le_refl _) _
      have HPB : Hid (Blk (w0.alloc (.cells #[.string (txt pa.name), .string (txt pa.key), .int .i64 pa.kind, .int .u64 (pa.num : Int), .string (txt pa.text), .slice Ap pk.len cp] 27)) w0.heap.size 27 #[.string (txt pa.name), .string (txt pa.key), .int .i64 pa.kind, .int .u64 (pa.num : Int), .string (txt pa.text), .slice Ap pk.len cp]) := Lib.hid (Blk.new w0 27 #[.string (txt pa.name), .string (txt pa.key), .int .i64 pa.kind, .int .u64 (pa.num : Int), .string (txt pa.text), .slice Ap pk.len cp])
      have HPW : Hid (Below w.heap.size w (w0.alloc (.cells #[.string (txt pa.name), .string (txt pa.key), .int .i64 pa.kind, .int .u64 (pa.num : Int), .string (txt pa.text), .slice Ap pk.len cp] 27))) := Lib.hid (HWW.out.trans (hap.mono HWW.out.size))
      have HPNB : Hid (Blk (w0.alloc (.cells #[.string (txt pa.name), .string (txt pa.key), .int .i64 pa.kind, .int .u64 (pa.num : Int), .string (txt pa.text), .slice Ap pk.len cp] 27)) w.heap.size 27 #[.string (txt a.name), .string (txt a.key), .int .i64 a.kind, .int .u64 (a.num : Int), .string (txt a.text), .slice A f.len c]) := Lib.hid (HBW.out.below hap HBW.out.lt)
      have HPSZ : Hid (pk.size ≤ 1000000) := Lib.hid (by have := Fr.size_get hpg; have := HF.out; omega)
      have lp0 : (pk.len : Int) ≤ 1000000 := by have := Fr.len_size pk; have := Fr.size_get hpg; have := HF.out; omega
      have lp1 : pk.len ≤ 1000000 := by omega
      clear hm hmy hr9 hpm hpg hpn hprow hcl hcp hy0 hap
      go_wp2_with fail
      clear z0 z0' z1 z2 z3 z4 z5 ht0 ht1 hw16 hw64 n0 n1 n2 k0 r5 i2 i1 l8 hr9b
      revert HPB HPW HPNB
      generalize (w0.alloc (.cells #[.string (txt pa.name), .string (txt pa.key), .int .i64 pa.kind, .int .u64 (pa.num : Int), .string (txt pa.text), .slice Ap pk.len cp] 27)) = wp
      intro HPB HPW HPNB
      go_loopw [12, 13] (fun v12 v13 wr => ∃ (j : Nat) (ks : List (List UInt8)), j ≤ pk.len ∧ v13 = .int .i64 (j : Int) ∧ Hid ((∀ x ∈ ks, ∃ (n : Nat) (ca : NdD) (ck : NdF), pk.get? n = some (ca, ck) ∧ ca.name = nClass ∧ ca.key = x) ∧ (∀ n ca ck, n < j → pk.get? n = some (ca, ck) → ca.name = nClass → ca.key ∈ ks) ∧ ks.length ≤ j) ∧ Hid (OwnK 9 1 wr wp.heap.size v12 ks.length (txts ks)) ∧ Hid (Below wp.heap.size wp wr)) (fun _ v13 _ => pk.len - (intOf v13).toNat)
      case atStart => exact ⟨0, [], Nat.zero_le _, rfl, Lib.hid ⟨fun x hx => (by cases hx), fun n ca ck hn => absurd hn (Nat.not_lt_zero _), Nat.le_refl _⟩, Lib.hid (OwnK.nil _ _ _ _), Lib.hid (Below.refl _ _)⟩
      case round =>
       obtain ⟨j, ks, hj, rfl, HKS, HOW2, HW2⟩ := hrel
       obtain ⟨w7, hw7⟩ : ∃ w7, w7 = wr := ⟨_, rfl⟩
       subst hw7
       obtain ⟨Av, cv, rfl⟩ := HOW2.out.shape
       have i1 : (0 : Int) ≤ (j : Int) := by omega
       have HW7 : Hid (Below w.heap.size w w7) := Lib.hid (HPW.out.trans (HW2.out.mono HPW.out.size))
       have HB7 : Hid (Blk w7 w0.heap.size 27 #[.string (txt pa.name), .string (txt pa.key), .int .i64 pa.kind, .int .u64 (pa.num : Int), .string (txt pa.text), .slice Ap pk.len cp]) := Lib.hid (HPB.out.below HW2.out HPB.out.lt)
       have HN7 : Hid (Blk w7 w.heap.size 27 #[.string (txt a.name), .string (txt a.key), .int .i64 a.kind, .int .u64 (a.num : Int), .string (txt a.text), .slice A f.len c]) := Lib.hid (HPNB.out.below HW2.out HPNB.out.lt)
       have r5 := (HB7.out.cell 5).trans rfl
       by_cases hltj : j < pk.len
       ·obtain ⟨y, k, hg⟩ := Fr.get_some hltj
        obtain ⟨g, o, Ak, ck, rfl, -, hnc, hgb, hrk, hcell⟩ := HPN.out.2.2.at hg
        have hco : ∀ j' u, (ndC y (.slice Ak k.len ck))[j']? = some u → w7.cell? ⟨g, o + j * 6 + j', none⟩ = some u := fun j' u hu => (World.cell?_of_block (w := w) (a := ⟨g, o + j * 6 + j', none⟩) (HW7.out.block g hgb)).trans (hcell j' u hu)
        have q0 : w7.cell? ⟨g, o + j * 6, none⟩ = some (.string (txt y.name)) := hco 0 _ rfl
        have q1 : w7.cell? ⟨g, o + j * 6 + 1, none⟩ = some (.string (txt y.key)) := hco 1 _ rfl
        have i2 : (j : Int) < (pk.len : Int) := by omega
        have HLT : Hid (j + 1 ≤ pk.len) := Lib.hid hltj
        have HG := Lib.hid hg
        by_cases hn : y.name = nClass
        ·have h1 : ((txt y.name).toList == [99, 108, 97, 115, 115]) = true := name_eq hn
         have HNM := Lib.hid hn
         have hal : Below w7.heap.size w7 (w7.alloc (.cells #[.string (txt y.key)] 9)) := (Below.refl _ _).alloc (Nat.le_refl _) _
         have HOA := Lib.hid (HOW2.out.below hal)
         have HBA := Lib.hid (Blk.new w7 9 #[.string (txt y.key)])
         have HBS : Hid (wp.heap.size ≤ ((w7.alloc (.cells #[.string (txt y.key)] 9))).heap.size) := Lib.hid (Nat.le_trans HW2.out.size hal.size)
         have HON : Hid (∀ u ∈ [Value.string (txt y.key)], u.oneCell' = true) := Lib.hid (by simp [Value.oneCell'])
         have HAL : Hid (Below wp.heap.size wp (w7.alloc (.cells #[.string (txt y.key)] 9))) := Lib.hid (HW2.out.trans (hal.mono HW2.out.size))
         have l8 : ks.length ≤ 1000000 := by have := HKS.out.2.2; omega
         clear hco hcell hrk hg hn hal hltj
         go_wp2_with (at_builtin; refine wpList_append_k (P := Tryz.prog) (ts := 38) Tryz.underlying38 cellsStr10 zeroStr10 (by omega) rfl _ _ rfl rfl wp.heap.size (.slice Av ks.length cv) ks.length (txts ks) rfl HOA.out w7.heap.size rfl [.string (txt y.key)] HBA.out rfl HON.out (by omega) (by omega) HBS.out ?_; intro v' w' hap)
         have hb' := AppK.below hap HOA.out HBS.out
         have HNW : Hid (OwnK 9 1 w' wp.heap.size v' (ks ++ [y.key]).length (txts (ks ++ [y.key]))) := Lib.hid (by rw [List.length_append, txts_snoc10]; exact hap.1)
         have HNB : Hid (Below wp.heap.size wp w') := Lib.hid (HAL.out.trans hb')
         have HK2 := Lib.hid (keys_next_yes HKS.out HG.out HNM.out)
         clear hap hb'
         go_roundw
         case rel => exact ⟨j + 1, ks ++ [y.key], HLT.out, by go_num, HK2, HNW, HNB⟩
         case measure => have := HLT.out; simp [intOf]; omega
        ·have h1 : ((txt y.name).toList == [99, 108, 97, 115, 115]) = false := name_ne hn
         have HK2 := Lib.hid (keys_next_no HKS.out HG.out hn)
         clear hco hcell hrk hg hn hltj
         go_wp2
         go_roundw
         case rel => exact ⟨j + 1, ks, HLT.out, by go_num, HK2, HOW2, HW2⟩
         case measure => have := HLT.out; simp [intOf]; omega
       ·have i2 : ¬ (j : Int) < (pk.len : Int) := by omega
        have hkn : ks.length ≠ 0 := fun e => by
         obtain ⟨n, ca, ck, h1, h2⟩ := class_some HM.out HPN.out.1 HPN.out.2.1
         have := HKS.out.2.1 n ca ck (by have := Fr.get_lt h1; omega) h1 h2
         rw [List.eq_nil_of_length_eq_zero e] at this
         cases this
        have l8 : ks.length ≤ 1000000 := by have := HKS.out.2.2; omega
        have k0 : ((ks.length : Int) == 0) = false := beq_eq_false_iff_ne.2 (by omega)
        obtain ⟨m, hm⟩ : ∃ m, m = q / 256 % ks.length := ⟨_, rfl⟩
        have hmy : m < ks.length := by rw [hm]; exact Nat.mod_lt _ (by omega)
        have ht0 : ((q : Int)).tdiv 256 = ((q / 256 : Nat) : Int) := rfl
        have ht1 : (((q / 256 : Nat) : Int)).tmod (ks.length : Int) = (m : Int) := by rw [hm]; rfl
        obtain ⟨r9, hr9⟩ : ∃ r9, r9 = q / 256 := ⟨_, rfl⟩
        have hr9b : r9 < 256 := by have := HQ0.out; omega
        rw [← hr9] at ht0 ht1
        have hw16 : IntKind.u16.wrap (r9 : Int) = (r9 : Int) := IntWalk.u16_in _ (by omega)
        have hw64 : IntKind.i64.wrap (r9 : Int) = (r9 : Int) := IntWalk.i64_in _ (by omega)
        obtain ⟨key, hkm⟩ : ∃ y, ks[m]? = some y := ⟨_, List.getElem?_eq_getElem hmy⟩
        have HKEY := Lib.hid (HKS.out.1 key (List.mem_of_getElem? hkm))
        obtain ⟨dk, ⟨-, A', c', e, hnc, hcell⟩, -⟩ := HOW2.out.row
        injection e with e1 e2 e3
        subst e1 e3
        obtain ⟨hdk, off2, rfl, hcl⟩ := hcell (by omega)
        have z0 : w7.cell? ⟨dk, off2 + m, none⟩ = some (.string (txt key)) := hcl m _ (by simp [txts, hkm])
        have n0 : (m : Int) < (ks.length : Int) := by omega
        have n1 : (0 : Int) ≤ (m : Int) := by omega
        have n2 : ¬ ks.length = 0 := hkn
        have hgb : Below w7.heap.size w7 (w7.alloc (.cells #[.string (txt nDefault), .string (txt [])] 45)) := (Below.refl _ _).alloc (Nat.le_refl _) _
        have HWG : Hid (Below w.heap.size w (w7.alloc (.cells #[.string (txt nDefault), .string (txt [])] 45))) := Lib.hid (HW7.out.trans (hgb.mono HW7.out.size))
        have HG1 : Hid (Calls Tryz.prog 17 #[.agg (ndC pa (.slice Ap pk.len cp)).toArray, .slice (some ⟨w7.heap.size, 0, none⟩) 1 1] (w7.alloc (.cells #[.string (txt nDefault), .string (txt [])] 45)) (RTreP (GetX (pa, pk) [defS]).1 (.bool (GetX (pa, pk) [defS]).2) (w7.alloc (.cells #[.string (txt nDefault), .string (txt [])] 45)))) :=
         Lib.hid ((rget_any ((w7.alloc (.cells #[.string (txt nDefault), .string (txt [])] 45))).heap.size [defS] (pa, pk) _ _ (w7.alloc (.cells #[.string (txt nDefault), .string (txt [])] 45)) (Nat.le_refl _) (LieB.make (HPN.out.2.2.under HWG.out (Nat.le_refl _) HWG.out.size)) (OwnS.one (w := w7) defS (Nat.le_refl _)).way HPSZ.out).mono fun _ _ h => h.r)
        have HB7G := Lib.hid (HB7.out.below hgb HB7.out.lt)
        have HN7G := Lib.hid (HN7.out.below hgb HN7.out.lt)
        obtain ⟨R, hR⟩ : ∃ R, R = GetX (pa, pk) [defS] := ⟨_, rfl⟩
        rw [← hR] at HG1
        have hu9 := used_def (pa := pa) (pk := pk) (key := key)
        rw [← hR] at hu9
        obtain ⟨⟨da, df⟩, db⟩ := R
        simp only at HG1 hu9
        obtain ⟨u0, hu0⟩ : ∃ u0, u0 = ((txt da.text).toList == (txt key).toList) := ⟨_, rfl⟩
        have HU0 : Hid (usedX pk key = (u0 || anyC key pk)) := Lib.hid (by rw [hu9, hu0, txt_toList, txt_toList, beq_dec])
        have hcmp := hu0.symm
        clear hkn hm hmy hr9 hkm hcl hgb hR hu9 hu0
        have p0 := (HB7.out.cell 0).trans rfl
        have p1 := (HB7.out.cell 1).trans rfl
        have p2 := (HB7.out.cell 2).trans rfl
        have p3 := (HB7.out.cell 3).trans rfl
        have p4 := (HB7.out.cell 4).trans rfl
        have p5 := (HB7.out.cell 5).trans rfl
        unfold ndC at HG1
        go_wp2_with fail
        refine HG1.out.mono ?_
        rintro r w8 ⟨cs, rfl, hl, hb⟩
        obtain ⟨A8, c8, rfl, -⟩ := hl.shape
        unfold ndC
        have hal : Below w8.heap.size w8 (w8.alloc (.cells #[.string (txt da.name), .string (txt da.key), .int .i64 da.kind, .int .u64 (da.num : Int), .string (txt da.text), .slice A8 df.len c8] 27)) := (Below.refl _ _).alloc (Nat.le_refl _) _
        have HWD : Hid (Below w.heap.size w (w8.alloc (.cells #[.string (txt da.name), .string (txt da.key), .int .i64 da.kind, .int .u64 (da.num : Int), .string (txt da.text), .slice A8 df.len c8] 27))) := Lib.hid ((HWG.out.trans (hb.mono HWG.out.size)).trans (hal.mono (Nat.le_trans HWG.out.size hb.size)))
        have HBD : Hid (Blk (w8.alloc (.cells #[.string (txt da.name), .string (txt da.key), .int .i64 da.kind, .int .u64 (da.num : Int), .string (txt da.text), .slice A8 df.len c8] 27)) w0.heap.size 27 #[.string (txt pa.name), .string (txt pa.key), .int .i64 pa.kind, .int .u64 (pa.num : Int), .string (txt pa.text), .slice Ap pk.len cp]) := Lib.hid ((HB7G.out.below hb HB7G.out.lt).below hal (HB7G.out.below hb HB7G.out.lt).lt)
        have HND : Hid (Blk (w8.alloc (.cells #[.string (txt da.name), .string (txt da.key), .int .i64 da.kind, .int .u64 (da.num : Int), .string (txt da.text), .slice A8 df.len c8] 27)) w.heap.size 27 #[.string (txt a.name), .string (txt a.key), .int .i64 a.kind, .int .u64 (a.num : Int), .string (txt a.text), .slice A f.len c]) := Lib.hid ((HN7G.out.below hb HN7G.out.lt).below hal (HN7G.out.below hb HN7G.out.lt).lt)
        have HDD := Lib.hid (Blk.new w8 27 #[.string (txt da.name), .string (txt da.key), .int .i64 da.kind, .int .u64 (da.num : Int), .string (txt da.text), .slice A8 df.len c8])
        clear hl hb hal ht0 ht1 hw16 hw64 n0 n1 n2 k0 z0 p0 p1 p2 p3 p4 p5 r5
        have d4 := (HDD.out.cell 4).trans rfl
        go_wp2_with fail
        clear d4 hcmp i1 i2 l8 hr9b
        revert HWD HBD HND
        generalize (w8.alloc (.cells #[.string (txt da.name), .string (txt da.key), .int .i64 da.kind, .int .u64 (da.num : Int), .string (txt da.text), .slice A8 df.len c8] 27)) = wd
        intro HWD HBD HND
        go_loopw [17, 18] (fun v17 v18 wr => ∃ (j3 : Nat), j3 ≤ pk.len ∧ v18 = .int .i64 (j3 : Int) ∧ v17 = .bool (u0 || anyC key (Fr.take j3 pk)) ∧ Hid (Below wd.heap.size wd wr)) (fun _ v18 _ => pk.len - (intOf v18).toNat)
        case atStart => exact ⟨0, Nat.zero_le _, rfl, by cases pk <;> simp [Fr.take, anyC], Lib.hid (Below.refl _ _)⟩
        case round =>
         obtain ⟨j3, hj3, rfl, hub, HW3⟩ := hrel
         obtain ⟨w9, hw9⟩ : ∃ w9, w9 = wr := ⟨_, rfl⟩
         subst hw9
         have i1 : (0 : Int) ≤ (j3 : Int) := by omega
         have HW9 : Hid (Below w.heap.size w w9) := Lib.hid (HWD.out.trans (HW3.out.mono HWD.out.size))
         have HB9 : Hid (Blk w9 w0.heap.size 27 #[.string (txt pa.name), .string (txt pa.key), .int .i64 pa.kind, .int .u64 (pa.num : Int), .string (txt pa.text), .slice Ap pk.len cp]) := Lib.hid (HBD.out.below HW3.out HBD.out.lt)
         have HN9 : Hid (Blk w9 w.heap.size 27 #[.string (txt a.name), .string (txt a.key), .int .i64 a.kind, .int .u64 (a.num : Int), .string (txt a.text), .slice A f.len c]) := Lib.hid (HND.out.below HW3.out HND.out.lt)
         have r5 := (HB9.out.cell 5).trans rfl
         by_cases hltj : j3 < pk.len
         ·obtain ⟨ub, hub2⟩ : ∃ ub, ub = (u0 || anyC key (Fr.take j3 pk)) := ⟨_, rfl⟩
          rw [← hub2] at hub
          subst hub
          obtain ⟨y, k, hg⟩ := Fr.get_some hltj
          have HNX : Hid ((u0 || anyC key (Fr.take (j3 + 1) pk)) = (ub || clsB key k)) := Lib.hid (by rw [anyC_next hg, hub2, Bool.or_assoc])
          obtain ⟨g, o, Ak, ck, rfl, -, hnc, hgb, hrk, hcell⟩ := HPN.out.2.2.at hg
          have hco : ∀ j' u, (ndC y (.slice Ak k.len ck))[j']? = some u → w9.cell? ⟨g, o + j3 * 6 + j', none⟩ = some u := fun j' u hu => (World.cell?_of_block (w := w) (a := ⟨g, o + j3 * 6 + j', none⟩) (HW9.out.block g hgb)).trans (hcell j' u hu)
          have q0 : (w9).cell? ⟨g, o + j3 * 6, none⟩ = _ := hco 0 _ rfl
          have q1 : (w9).cell? ⟨g, o + j3 * 6 + 1, none⟩ = _ := hco 1 _ rfl
          have q2 : (w9).cell? ⟨g, o + j3 * 6 + 2, none⟩ = _ := hco 2 _ rfl
          have q3 : (w9).cell? ⟨g, o + j3 * 6 + 3, none⟩ = _ := hco 3 _ rfl
          have q4 : (w9).cell? ⟨g, o + j3 * 6 + 4, none⟩ = _ := hco 4 _ rfl
          have q5 : (w9).cell? ⟨g, o + j3 * 6 + 5, none⟩ = _ := hco 5 _ rfl
          have q0' : w9.cell? ⟨g, o + j3 * 6, none⟩ = some (.string (txt y.name)) := q0
          have i2 : (j3 : Int) < (pk.len : Int) := by omega
          have HLT : Hid (j3 + 1 ≤ pk.len) := Lib.hid hltj
          have hgb2 : Below w9.heap.size w9 (w9.alloc (.cells #[.string (txt nClass), .string (txt [])] 45)) := (Below.refl _ _).alloc (Nat.le_refl _) _
          have HWC : Hid (Below w.heap.size w (w9.alloc (.cells #[.string (txt nClass), .string (txt [])] 45))) := Lib.hid (HW9.out.trans (hgb2.mono HW9.out.size))
          have HWCD : Hid (Below wd.heap.size wd (w9.alloc (.cells #[.string (txt nClass), .string (txt [])] 45))) := Lib.hid (HW3.out.trans (hgb2.mono HW3.out.size))
          have HGC : Hid (Calls Tryz.prog 17 #[.agg (ndC y (.slice Ak k.len ck)).toArray, .slice (some ⟨w9.heap.size, 0, none⟩) 1 1] (w9.alloc (.cells #[.string (txt nClass), .string (txt [])] 45)) (RTreP (GetX (y, k) [clsS]).1 (.bool (GetX (y, k) [clsS]).2) (w9.alloc (.cells #[.string (txt nClass), .string (txt [])] 45)))) :=
           Lib.hid ((rget_any ((w9.alloc (.cells #[.string (txt nClass), .string (txt [])] 45))).heap.size [clsS] (y, k) _ _ (w9.alloc (.cells #[.string (txt nClass), .string (txt [])] 45)) (Nat.le_refl _) (LieB.make (hrk.under HWC.out (Nat.le_refl _) HWC.out.size)) (OwnS.one (w := w9) clsS (Nat.le_refl _)).way (by have := Fr.size_get hg; have := HPSZ.out; unfold Few9; simp only; omega)).mono fun _ _ h => h.r)
          obtain ⟨o9, ho9⟩ : ∃ o9, o9 = gtF clsS k := ⟨_, rfl⟩
          have hcb : clsB key k = clsO key o9 := by rw [ho9]; rfl
          rw [get_one, show gtF clsS ((y, k) : Nd).2 = o9 from ho9.symm] at HGC
          rw [hcb] at HNX
          unfold ndC at HGC
          clear hcb ho9 hub2 hg hrk hcell hco hgb2 hltj
          cases o9 with
          | none =>
           simp only [clsO] at HGC HNX
           rw [Bool.or_false] at HNX
           go_wp2_with fail
           refine HGC.out.mono ?_
           rintro r w10 ⟨cs, rfl, hl, hb⟩
           obtain ⟨A10, c10, rfl, -⟩ := hl.shape
           have HB10 : Hid (Below wd.heap.size wd w10) := Lib.hid (HWCD.out.trans (hb.mono HWCD.out.size))
           clear hl hb q0 q1 q2 q3 q4 q5 q0' r5
           unfold ndC
           cases ub with
           | true =>
            go_wp2
            go_roundw
            case rel => exact ⟨j3 + 1, HLT.out, by go_num, by rw [HNX.out], Lib.hid (HB10.out.alloc HB10.out.size _)⟩
            case measure => have := HLT.out; simp [intOf]; omega
           | false =>
            go_wp2
            go_roundw
            case rel => exact ⟨j3 + 1, HLT.out, by go_num, by rw [HNX.out], Lib.hid (HB10.out.alloc HB10.out.size _)⟩
            case measure => have := HLT.out; simp [intOf]; omega
          | some z =>
           obtain ⟨za, zk⟩ := z
           simp only [clsO] at HGC HNX
           go_wp2_with fail
           refine HGC.out.mono ?_
           rintro r w10 ⟨cs, rfl, hl, hb⟩
           obtain ⟨A10, c10, rfl, -⟩ := hl.shape
           have HB10 : Hid (Below wd.heap.size wd w10) := Lib.hid (HWCD.out.trans (hb.mono HWCD.out.size))
           clear hl hb q0 q1 q2 q3 q4 q5 q0' r5
           unfold ndC
           have HZB := Lib.hid (Blk.new w10 27 #[.string (txt za.name), .string (txt za.key), .int .i64 za.kind, .int .u64 (za.num : Int), .string (txt za.text), .slice A10 zk.len c10])
           have d4 := (HZB.out.cell 4).trans rfl
           obtain ⟨e9, he9⟩ : ∃ e9, e9 = ((txt za.text).toList == (txt key).toList) := ⟨_, rfl⟩
           have hcmp := he9.symm
           have HE9 : Hid (decide (za.text = key) = e9) := Lib.hid (by rw [he9, txt_toList, txt_toList, beq_dec])
           rw [HE9.out] at HNX
           clear he9
           cases ub with
           | true =>
            go_wp2
            go_roundw
            case rel => exact ⟨j3 + 1, HLT.out, by go_num, by rw [HNX.out]; rfl, Lib.hid (HB10.out.alloc HB10.out.size _)⟩
            case measure => have := HLT.out; simp [intOf]; omega
           | false =>
            go_wp2
            go_roundw
            case rel => exact ⟨j3 + 1, HLT.out, by go_num, by rw [HNX.out]; rfl, Lib.hid (HB10.out.alloc HB10.out.size _)⟩
            case measure => have := HLT.out; simp [intOf]; omega
         ·have i2 : ¬ (j3 : Int) < (pk.len : Int) := by omega
          have hub2 : (u0 || anyC key (Fr.take j3 pk)) = usedX pk key := by rw [show j3 = pk.len by omega, Fr.take_all, HU0.out]
          rw [hub2] at hub
          subst hub
          obtain ⟨uu, huu⟩ : ∃ uu, uu = usedX pk key := ⟨_, rfl⟩
          obtain ⟨n4, ca, ck4, g1, g2, g3⟩ := HKEY.out
          have hcc := class_check HM.out HPN.out.1 HPN.out.2.1 g1 g2
          rw [g3, ← huu] at hcc
          rw [← huu]
          have hll : ([(nPort, pa.key), (nClass, key)] : List Stp) ≠ [] := by simp
          have hgb2 : Below w9.heap.size w9 (w9.alloc (.cells #[.string (txt nPort), .string (txt pa.key), .string (txt nClass), .string (txt key)] 45)) := (Below.refl _ _).alloc (Nat.le_refl _) _
          have HWC : Hid (Below w.heap.size w (w9.alloc (.cells #[.string (txt nPort), .string (txt pa.key), .string (txt nClass), .string (txt key)] 45))) := Lib.hid (HW9.out.trans (hgb2.mono HW9.out.size))
          have HOC : Hid (OkN (cutX (a, f) [(nPort, pa.key), (nClass, key)]) ∧ sizeX (cutX (a, f) [(nPort, pa.key), (nClass, key)]) ≤ 1000000) := Lib.hid ⟨ok_cut _ (a, f) ⟨HOKA.out, HOK.out⟩, by have h := cut_size _ (a, f) (ca, ck4) hll hcc.1; have := HF9.out; simp only [sizeX] at h ⊢; omega⟩
          have HCT := Lib.hid (rCut_any w.heap.size (a, f) [(nPort, pa.key), (nClass, key)] _ (.slice (some ⟨w9.heap.size, 0, none⟩) 2 2) (w9.alloc (.cells #[.string (txt nPort), .string (txt pa.key), .string (txt nClass), .string (txt key)] 45)) HWC.out.size (LieB.make (HROW.out.under HWC.out (Nat.le_refl _) (Nat.le_refl _))) (OwnS.two (w := w9) (nPort, pa.key) (nClass, key) (base := 0) (Nat.zero_le _)).way HF.out (by simp))
          rw [CutX_is hll hcc.1] at HCT
          have HCC := Lib.hid hcc.2
          obtain ⟨mt, hmt⟩ : ∃ mt, mt = cutX (a, f) [(nPort, pa.key), (nClass, key)] := ⟨_, rfl⟩
          rw [← hmt] at HCT HCC HOC
          obtain ⟨ma, mf⟩ := mt
          unfold ndC at HCT
          have HN9G := Lib.hid (HN9.out.below hgb2 HN9.out.lt)
          clear hmt hcc hll g1 g2 g3 hub2 huu hgb2
          have q0 := (HN9.out.cell 0).trans rfl
          have q1 := (HN9.out.cell 1).trans rfl
          have q2 := (HN9.out.cell 2).trans rfl
          have q3 := (HN9.out.cell 3).trans rfl
          have q4 := (HN9.out.cell 4).trans rfl
          have q5 := (HN9.out.cell 5).trans rfl
          have p1 := (HB9.out.cell 1).trans rfl
          go_wp2_with fail
          refine HCT.out.mono ?_
          rintro r w10 ⟨cs5, rfl, hl5, hb5⟩
          obtain ⟨Am, cm, rfl, -⟩ := hl5.shape
          have HB5 := Lib.hid (HWC.out.trans (hb5.mono HWC.out.size))
          have HM5 := Lib.hid ((hl5.lies HB5.out.size))
          clear hl5 hb5 q0 q1 q2 q3 q4 q5 p1 r5
          unfold ndC at HM5 ⊢
          have hy1 : Below w10.heap.size w10 (w10.alloc (.cells #[.string (txt ma.name), .string (txt ma.key), .int .i64 ma.kind, .int .u64 (ma.num : Int), .string (txt ma.text), .slice Am mf.len cm] 27)) := (Below.refl _ _).alloc (Nat.le_refl _) _
          obtain ⟨A', c', e, hrm⟩ := LieB.shape (x := (ma, mf)) HM5.out
          simp only [List.cons.injEq, Value.slice.injEq, and_true, true_and] at e
          obtain ⟨e1, e3⟩ := e
          subst e1 e3
          have HRM := Lib.hid (hrm.under hy1 (Nat.le_refl _) hy1.size)
          have HBM := Lib.hid (Blk.new w10 27 #[.string (txt ma.name), .string (txt ma.key), .int .i64 ma.kind, .int .u64 (ma.num : Int), .string (txt ma.text), .slice Am mf.len cm])
          have HMW : Hid (Below w.heap.size w (w10.alloc (.cells #[.string (txt ma.name), .string (txt ma.key), .int .i64 ma.kind, .int .u64 (ma.num : Int), .string (txt ma.text), .slice Am mf.len cm] 27))) := Lib.hid (HB5.out.trans (hy1.mono HB5.out.size))
          have HSM : Hid (mf.size ≤ 1000000) := Lib.hid (by have := HOC.out.2; simp only [sizeX] at this; omega)
          clear hrm hy1
          have q0 := (HBM.out.cell 0).trans rfl
          have q1 := (HBM.out.cell 1).trans rfl
          have q2 := (HBM.out.cell 2).trans rfl
          have q3 := (HBM.out.cell 3).trans rfl
          have q4 := (HBM.out.cell 4).trans rfl
          have q5 := (HBM.out.cell 5).trans rfl
          go_wp2_with fail
          refine (vcheck_any v ma mf Am cm _ HRM.out HSM.out HOC.out.1.2).mono ?_
          rintro r w11 ⟨v6, rfl, hv6, hb6⟩
          have HB6 := Lib.hid (HMW.out.trans (hb6.mono HMW.out.size))
          clear hv6 hb6 q0 q1 q2 q3 q4 q5
          rw [HCC.out]
          cases uu with
          | true =>
           simp only [if_true]
           go_wp2
           go_ret
           exact ⟨rfl, HB6.out⟩
          | false =>
           simp only [Bool.false_eq_true, if_false]
           go_wp2
           go_ret
           exact ⟨rfl, HB6.out⟩
theorem validClasses_any (v : Int) (a : NdD) (f : NdF) (A : Option Addr) (c : Nat) (z : Int) (w : World) (hrow : RowT w.heap.size w (.slice A f.len c) f) (hf : f.size ≤ 999990) (hoka : OkD a) (hok : OkF f) (HAW : Awake10 w) (hz : 0 ≤ z ∧ z < 65536) :
  Calls Tryz.prog 5 #[.int .i64 v, .agg #[.string (txt a.name), .string (txt a.key), .int .i64 a.kind, .int .u64 (a.num : Int), .string (txt a.text), .slice A f.len c], .int .u16 z] w (Ans9 (.bool true) w) := by
 have h := validClasses_walk v a f A c z.toNat w hrow hf hoka hok HAW (by omega)
 rw [Int.toNat_of_nonneg hz.1] at h
 exact h
end Go.Proofs.YtljjaikejfoanaaGreat
