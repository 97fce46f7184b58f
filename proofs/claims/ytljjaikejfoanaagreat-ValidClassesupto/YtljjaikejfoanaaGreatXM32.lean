/- What ValidClasses stands on: Law10A, Law10B, VadLss, Law10C. -/
import Derived.Test.YtljjaikejfoanaaGreatXM2
import Derived.Test.YtljjaikejfoanaaGreatXM3
import Derived.Test.YtljjaikejfoanaaGreatXM15
import Derived.Test.YtljjaikejfoanaaGreatXM25
import Derived.Test.YtljjaikejfoanaaGreatXM31
import Derived.Test.YtljjaikejfoanaaGreatXM0
import Derived.Test.YtljjaikejfoanaaGreatXM10
import Derived.Deep.DeepCutAuto
set_option linter.unusedSimpArgs false
set_option linter.unusedVariables false
namespace Go.Proofs.YtljjaikejfoanaaGreat
open Go.RowKit
attribute [local go_sem] Oper.semAt_some
set_option maxRecDepth 100000 in
set_option maxHeartbeats 1000000 in
theorem rsmall10_any (a : NdD) (f : NdF) (A : Option Addr) (c : Nat) (w : World) (hk : RowT w.heap.size w (.slice A f.len c) f) (hf : f.size ≤ 1000000) :
  Calls Tryz.prog 7 #[.agg #[.string (txt a.name), .string (txt a.key), .int .i64 a.kind, .int .u64 (a.num : Int), .string (txt a.text), .slice A f.len c]] w (Ans9 (.bool (decide (f.size + 1 ≤ 300))) w) := by
 have hB : Below w.heap.size w (w.alloc (.cells #[.string (txt a.name), .string (txt a.key), .int .i64 a.kind, .int .u64 (a.num : Int), .string (txt a.text), .slice A f.len c] 27)) := (Below.refl _ _).alloc (Nat.le_refl _) _
 obtain ⟨z, hz⟩ : ∃ z, z = f.size + 1 := ⟨_, rfl⟩
 have HC : Hid (Calls Tryz.prog 18 #[.agg #[.string (txt a.name), .string (txt a.key), .int .i64 a.kind, .int .u64 (a.num : Int), .string (txt a.text), .slice A f.len c]] (w.alloc (.cells #[.string (txt a.name), .string (txt a.key), .int .i64 a.kind, .int .u64 (a.num : Int), .string (txt a.text), .slice A f.len c] 27)) (Ans9 (.int .i64 (z : Int)) (w.alloc (.cells #[.string (txt a.name), .string (txt a.key), .int .i64 a.kind, .int .u64 (a.num : Int), .string (txt a.text), .slice A f.len c] 27)))) := Lib.hid (by
  rw [hz]; exact rsizef_any f a A c _ (hk.under hB (Nat.le_refl _) hB.size) hf)
 have HB := Lib.hid hB
 have HV : Hid (decide ((z : Int) ≤ 300) = decide (f.size + 1 ≤ 300)) := Lib.hid (by rw [hz, Bool.eq_iff_iff]; simp; omega)
 clear hB hk hf hz
 go_enter Tryz.func7, Tryz.ntmps7
 go_wp2_with fail
 refine HC.out.mono ?_
 rintro r w2 ⟨rfl, hb⟩
 have HB2 := Lib.hid (HB.out.trans (hb.mono HB.out.size))
 clear hb
 go_wp2
 go_ret
 exact ⟨congrArg (fun b => Ending.returned (Value.bool b)) HV.out, HB2.out⟩
def Awake10 (w : World) : Prop := ∀ W, Below w.heap.size w W → Calls Tryz.prog 6 #[] W (Ans9 (.bool true) W)
end Go.Proofs.YtljjaikejfoanaaGreat
namespace Go.Proofs.YtljjaikejfoanaaGreat
open Go.RowKit
def pD10 : NdD := ⟨nPort, [97], 0, 0, []⟩
theorem ex10a : CheckX 1 (zeroT, .nil) = (0, []) := by decide
theorem ex10b : CheckX 1 (zeroT, .cons pD10 .nil .nil) = (25, [(nPort, [97]), (nDefault, [])]) := by decide
theorem ex10c : CheckX 4 (zeroT, .nil) = (28, []) := by decide
theorem ex10d : MayX 3 (zeroT, .nil) = true := by decide
theorem ex10e : MayX 1 ((⟨[120], [], 0, 0, []⟩ : NdD), .nil) = false := by decide
theorem row10 (w : World) (g : Nat) (hb : Blk w g 27 #[.string ⟨#[112, 111, 114, 116]⟩, .string ⟨#[97]⟩, .int .i64 0, .int .u64 0, .string ⟨#[]⟩, .slice none 0 0]) : RowT w.heap.size w (.slice (some ⟨g, 0, none⟩) 1 1) (.cons pD10 .nil .nil) :=
 FrV.lit (e := 27) (xs := ndC pD10 (.slice none 0 0)) (f := Fr.cons pD10 .nil .nil) hb.lt hb ⟨_, [], rfl, LieB.make (a := pD10) (f := .nil) (FrV.empty _ _ _), rfl⟩ (Nat.le_refl _)
theorem okd10 {a : NdD} (h1 : a.name.length ≤ 100) (h2 : a.key.length ≤ 100) (h3 : a.kind = 0) (h4 : a.num = 0) (h5 : a.text = []) : OkD a := ⟨by omega, by omega, by omega, by omega, by omega, by rw [h5]; decide⟩
set_option maxRecDepth 100000 in
set_option maxHeartbeats 4000000 in
theorem awake10_any (w : World) : Calls Tryz.prog 6 #[] w (Ans9 (.bool true) w) := by
 have HA : ∀ W, Hid (Calls Tryz.prog 8 #[.int .i64 1, .agg #[.string ⟨#[]⟩, .string ⟨#[]⟩, .int .i64 0, .int .u64 0, .string ⟨#[]⟩, .slice none 0 0]] W (FirstP (0, []) W)) := fun W => Lib.hid (by have h := vcheck_any 1 zeroT .nil none 0 W (FrV.empty _ _ _) (by decide) trivial; rw [ex10a] at h; exact h)
 have HC : ∀ W, Hid (Calls Tryz.prog 8 #[.int .i64 4, .agg #[.string ⟨#[]⟩, .string ⟨#[]⟩, .int .i64 0, .int .u64 0, .string ⟨#[]⟩, .slice none 0 0]] W (FirstP (28, []) W)) := fun W => Lib.hid (by have h := vcheck_any 4 zeroT .nil none 0 W (FrV.empty _ _ _) (by decide) trivial; rw [ex10c] at h; exact h)
 have HD : ∀ W, Hid (Calls Tryz.prog 13 #[.int .i64 3, .agg #[.string ⟨#[]⟩, .string ⟨#[]⟩, .int .i64 0, .int .u64 0, .string ⟨#[]⟩, .slice none 0 0]] W (Ans9 (.bool true) W)) := fun W => Lib.hid (by have h := vmay_any 3 zeroT .nil none 0 W (FrV.empty _ _ _) (by decide) trivial; rw [ex10d] at h; exact h)
 have HE : ∀ W, Hid (Calls Tryz.prog 13 #[.int .i64 1, .agg #[.string ⟨#[120]⟩, .string ⟨#[]⟩, .int .i64 0, .int .u64 0, .string ⟨#[]⟩, .slice none 0 0]] W (Ans9 (.bool false) W)) := fun W => Lib.hid (by have h := vmay_any 1 (⟨[120], [], 0, 0, []⟩ : NdD) .nil none 0 W (FrV.empty _ _ _) (by decide) trivial; rw [ex10e] at h; exact h)
 have HB : ∀ W g, Blk W g 27 #[.string ⟨#[112, 111, 114, 116]⟩, .string ⟨#[97]⟩, .int .i64 0, .int .u64 0, .string ⟨#[]⟩, .slice none 0 0] → Hid (Calls Tryz.prog 8 #[.int .i64 1, .agg #[.string ⟨#[]⟩, .string ⟨#[]⟩, .int .i64 0, .int .u64 0, .string ⟨#[]⟩, .slice (some ⟨g, 0, none⟩) 1 1]] W (FirstP (25, [(nPort, [97]), (nDefault, [])]) W)) := fun W g hg => Lib.hid (by
  have h := vcheck_any 1 zeroT (.cons pD10 .nil .nil) (some ⟨g, 0, none⟩) 1 W (row10 W g hg) (by decide) ⟨okd10 (by decide) (by decide) rfl rfl rfl, trivial, trivial⟩
  rw [ex10b] at h
  exact h)
 have HPB := Lib.hid (Blk.new w 27 #[.string ⟨#[112, 111, 114, 116]⟩, .string ⟨#[97]⟩, .int .i64 0, .int .u64 0, .string ⟨#[]⟩, .slice none 0 0])
 have HX1 : Hid (Below w.heap.size w (w.alloc (.cells #[.string ⟨#[112, 111, 114, 116]⟩, .string ⟨#[97]⟩, .int .i64 0, .int .u64 0, .string ⟨#[]⟩, .slice none 0 0] 27))) := Lib.hid ((Below.refl _ _).alloc (Nat.le_refl _) _)
 go_enter Tryz.func6, Tryz.ntmps6
 go_wp2_with fail
 refine (HA _).out.mono ?_
 rintro r w1 ⟨v1, rfl, -, hb1⟩
 have HP1 := Lib.hid (HPB.out.below hb1 HPB.out.lt)
 have HB1 := Lib.hid (HX1.out.trans (hb1.mono HX1.out.size))
 clear hb1
 have p0 := (HP1.out.cell 0).trans rfl
 have p1 := (HP1.out.cell 1).trans rfl
 have p2 := (HP1.out.cell 2).trans rfl
 have p3 := (HP1.out.cell 3).trans rfl
 have p4 := (HP1.out.cell 4).trans rfl
 have p5 := (HP1.out.cell 5).trans rfl
 go_wp2_with fail
 refine (HB _ w1.heap.size (Blk.new w1 27 #[.string ⟨#[112, 111, 114, 116]⟩, .string ⟨#[97]⟩, .int .i64 0, .int .u64 0, .string ⟨#[]⟩, .slice none 0 0])).out.mono ?_
 rintro r w2 ⟨v2, rfl, hv2, hb2⟩
 have HV2 := Lib.hid hv2
 have HB2 : Hid (Below w.heap.size w w2) := Lib.hid ((HB1.out.alloc HB1.out.size _).trans (hb2.mono (by have := HB1.out.size; simp; omega)))
 clear hv2 hb2 p0 p1 p2 p3 p4 p5
 go_wp2_with fail
 refine (HC _).out.mono ?_
 rintro r w3 ⟨v3, rfl, -, hb3⟩
 have HV3 := Lib.hid (HV2.out.below hb3)
 have HB3 := Lib.hid (HB2.out.trans (hb3.mono HB2.out.size))
 clear hb3
 have hal : Below w3.heap.size w3 (w3.alloc (.cells #[.string (txt nPort), .string (txt [97]), .string (txt nDefault), .string (txt [])] 45)) := (Below.refl _ _).alloc (Nat.le_refl _) _
 have HST : Hid (Calls Tryz.prog 12 #[v2, .slice (some ⟨w3.heap.size, 0, none⟩) 2 2] (w3.alloc (.cells #[.string (txt nPort), .string (txt [97]), .string (txt nDefault), .string (txt [])] 45)) (Ans9 (.bool true) (w3.alloc (.cells #[.string (txt nPort), .string (txt [97]), .string (txt nDefault), .string (txt [])] 45)))) := Lib.hid (by
  have h := rsteps10_any [(nPort, [97]), (nDefault, [])] [(nPort, [97]), (nDefault, [])] v2 (.slice (some ⟨w3.heap.size, 0, none⟩) 2 2) (w3.alloc (.cells #[.string (txt nPort), .string (txt [97]), .string (txt nDefault), .string (txt [])] 45)) (HV3.out.below hal) (OwnS.two (w := w3) (nPort, [97]) (nDefault, []) (base := 0) (Nat.zero_le _)).way (by decide) (by decide)
  rw [decide_eq_true rfl] at h
  exact h)
 have HAL := Lib.hid (HB3.out.alloc HB3.out.size (.cells #[.string (txt nPort), .string (txt [97]), .string (txt nDefault), .string (txt [])] 45))
 clear hal
 go_wp2_with fail
 refine HST.out.mono ?_
 rintro r w4 ⟨rfl, hb4⟩
 have HB4 := Lib.hid (HAL.out.trans (hb4.mono HAL.out.size))
 clear hb4
 go_wp2_with fail
 refine (HD _).out.mono ?_
 rintro r w5 ⟨rfl, hb5⟩
 have HB5 := Lib.hid (HB4.out.trans (hb5.mono HB4.out.size))
 clear hb5
 go_wp2_with fail
 refine (HE _).out.mono ?_
 rintro r w6 ⟨rfl, hb6⟩
 have HB6 := Lib.hid (HB5.out.trans (hb6.mono HB5.out.size))
 clear hb6
 go_wp2
 go_ret
 exact ⟨rfl, HB6.out⟩
theorem awake10 (w : World) : Awake10 w := fun W _ => awake10_any W
end Go.Proofs.YtljjaikejfoanaaGreat
namespace Go.Proofs.YtljjaikejfoanaaGreat
open Go.RowKit
def finC (s : SpF) : NdF → List Nat → List Nat
 | .nil, c => c
 | .cons a _ r, c => match findX a.name s with
  | none => finC s r c
  | some i => finC s r (bump c i)
def cntF (s : SpF) : NdF → Nat → Nat
 | .nil, _ => 0
 | .cons a _ r, j => cntF s r j + (if findX a.name s = some j then 1 else 0)
def scanK : NdF → SpF → List Nat → Option Bad
 | .nil, _, _ => none
 | .cons a k r, s, c => match findX a.name s with
  | none => some (22, [stp a])
  | some i => match s.get? i with
   | none => none
   | some y => match under a (kidX1 y a k (c.getD i 0)) with
    | some b => some b
    | none => scanK r s (bump c i)
theorem scanK_cons {a : NdD} {k r : NdF} {s : SpF} {c : List Nat} {i : Nat} {y : Sp} (h1 : findX a.name s = some i) (h2 : s.get? i = some y) :
  scanK (.cons a k r) s c = match under a (kidX1 y a k (c.getD i 0)) with | some b => some b | none => scanK r s (bump c i) := by
 simp only [scanK, h1, h2]
theorem scan_split {s : SpF} : ∀ {f : NdF} {c : List Nat}, scanF f s c = match scanK f s c with | some b => some b | none => lackX s (finC s f c) := by
 intro f
 induction f with
 | nil => intro c; rw [scan_nil]; rfl
 | cons a k r _ ih =>
  intro c
  cases h1 : findX a.name s with
  | none => rw [scan_name h1]; simp only [scanK, h1]
  | some i =>
   obtain ⟨y, h2, _, _⟩ := sp_get h1
   rw [scan_cons h1 h2, scanK_cons h1 h2]
   simp only [finC, h1]
   cases under a (kidX1 y a k (c.getD i 0)) with
   | some b => rfl
   | none => exact ih
theorem inside_split {s : SpF} {f : NdF} : insideX s f = none ↔ scanK f s (zeros s) = none ∧ lackX s (finC s f (zeros s)) = none := by
 unfold insideX
 rw [scan_split]
 cases scanK f s (zeros s) with
 | some b => simp
 | none => simp
theorem scanK_none {a : NdD} {k r : NdF} {s : SpF} {c : List Nat} (h : scanK (.cons a k r) s c = none) :
  ∃ i y, findX a.name s = some i ∧ s.get? i = some y ∧ kidX1 y a k (c.getD i 0) = none ∧ scanK r s (bump c i) = none := by
 cases h1 : findX a.name s with
 | none => simp only [scanK, h1] at h; cases h
 | some i =>
  obtain ⟨y, h2, _, _⟩ := sp_get h1
  rw [scanK_cons h1 h2] at h
  refine ⟨i, y, rfl, h2, ?_⟩
  cases h3 : kidX1 y a k (c.getD i 0) with
  | some b => rw [h3] at h; simp [under] at h
  | none => rw [h3] at h; exact ⟨rfl, h⟩
theorem head_mono {d : SpD} {a : NdD} {k : NdF} {n m : Nat} (h : headX d a k n = none) (hm : m ≤ n) : headX d a k m = none := by
 unfold headX at h ⊢
 by_cases h1 : d.kind = 1
 ·rw [if_pos h1] at h ⊢; exact h
 rw [if_neg h1] at h ⊢
 by_cases h2 : d.kind = 3
 ·rw [if_pos h2] at h ⊢
  by_cases h3 : a.kind ≠ 0 ∨ identX a.key = false
  ·rw [if_pos h3] at h; cases h
  rw [if_neg h3] at h ⊢
  by_cases h4 : d.most ≤ n
  ·rw [if_pos h4] at h; cases h
  ·rw [if_neg (by omega)]
 ·rw [if_neg h2] at h ⊢; exact h
theorem kid_mono {y : Sp} {a : NdD} {k : NdF} {n m : Nat} (h : kidX1 y a k n = none) (hm : m ≤ n) : kidX1 y a k m = none := by
 unfold kidX1 at h ⊢
 cases h1 : headX y.1 a k n with
 | some e => rw [h1] at h; cases h
 | none => rw [h1] at h; rw [head_mono h1 hm]; exact h
theorem kid_leaf {y : Sp} {a : NdD} {k : NdF} {n : Nat} (h : kidX1 y a k n = none) (hk : y.1.kind = 1) : a.key = [] ∧ k.len = 0 := by
 unfold kidX1 headX at h
 rw [if_pos hk] at h
 by_cases hl : leafB y.1 a k = true
 ·unfold leafB at hl
  simp only [Bool.and_eq_true, decide_eq_true_eq] at hl
  exact hl.1
 ·rw [if_neg hl] at h; cases h
theorem kid_box {y : Sp} {a : NdD} {k : NdF} {n : Nat} (h : kidX1 y a k n = none) (hk : y.1.kind ≠ 1) : headX y.1 a k n = none ∧ insideX y.2 k = none := by
 unfold kidX1 at h
 cases h1 : headX y.1 a k n with
 | some e => rw [h1] at h; cases h
 | none => rw [h1] at h; simp only [if_neg hk] at h; exact ⟨rfl, h⟩
theorem head_kids {d : SpD} {a : NdD} {k k' : NdF} {n : Nat} (hk : d.kind ≠ 1) : headX d a k n = headX d a k' n := by
 unfold headX; rw [if_neg hk, if_neg hk]
theorem kid_other {y : Sp} {a : NdD} {k k' : NdF} {n : Nat} (h : kidX1 y a k n = none) (hk : y.1.kind ≠ 1) : kidX1 y a k' n = insideX y.2 k' := by
 have h1 := (kid_box h hk).1
 unfold kidX1
 rw [head_kids (k' := k) hk, h1]
 simp only [if_neg hk]
theorem kid_item {y : Sp} {a : NdD} {k : NdF} {n : Nat} (h : kidX1 y a k n = none) (hk : y.1.kind = 3) : identX a.key = true := by
 have h1 := (kid_box h (by omega)).1
 unfold headX at h1
 rw [if_neg (by omega), if_pos hk] at h1
 by_cases h3 : a.kind ≠ 0 ∨ identX a.key = false
 ·rw [if_pos h3] at h1; cases h1
 ·cases hi : identX a.key with
  | true => rfl
  | false => exact absurd (.inr hi) h3
theorem bump_mono {c c' : List Nat} {i : Nat} (hl : c.length = c'.length) (h : ∀ j, c'.getD j 0 ≤ c.getD j 0) : ∀ j, (bump c' i).getD j 0 ≤ (bump c i).getD j 0 := by
 intro j
 by_cases hi : i < c.length
 ·rw [bump_get j hi, bump_get j (hl ▸ hi)]
  split
  ·have := h i; omega
  ·exact h j
 ·have e1 : bump c i = c := by unfold bump; exact List.set_eq_of_length_le (by omega)
  have e2 : bump c' i = c' := by unfold bump; exact List.set_eq_of_length_le (by omega)
  rw [e1, e2]; exact h j
theorem le_bump {c : List Nat} {i : Nat} (j : Nat) : c.getD j 0 ≤ (bump c i).getD j 0 := by
 by_cases hi : i < c.length
 ·rw [bump_get j hi]
  split
  ·rename_i e; subst e; omega
  ·exact Nat.le_refl _
 ·have e1 : bump c i = c := by unfold bump; exact List.set_eq_of_length_le (by omega)
  rw [e1]; exact Nat.le_refl _
theorem scanK_mono {s : SpF} : ∀ {f : NdF} {c c' : List Nat}, c.length = c'.length → (∀ j, c'.getD j 0 ≤ c.getD j 0) → scanK f s c = none → scanK f s c' = none := by
 intro f
 induction f with
 | nil => intro c c' _ _ _; rfl
 | cons a k r _ ih =>
  intro c c' hl h hs
  obtain ⟨i, y, h1, h2, h3, h4⟩ := scanK_none hs
  rw [scanK_cons h1 h2, kid_mono h3 (h i)]
  exact ih (by rw [bump_len, bump_len]; exact hl) (bump_mono hl h) h4
theorem scanK_del {s : SpF} {t : Stp} : ∀ {f : NdF} {c : List Nat}, scanK f s c = none → scanK (delF t f) s c = none := by
 intro f
 induction f with
 | nil => intro c _; rfl
 | cons a k r _ ih =>
  intro c hs
  obtain ⟨i, y, h1, h2, h3, h4⟩ := scanK_none hs
  simp only [delF]
  split
  ·exact scanK_mono (bump_len _ _) le_bump h4
  ·rw [scanK_cons h1 h2, h3]; exact ih h4
theorem scanK_rep {s : SpF} {t : Stp} {z z' : Nd} {R : Option Bad} (hz : z'.1 = z.1) (hk : ∀ i y n, findX z.1.name s = some i → s.get? i = some y → kidX1 y z.1 z.2 n = none → kidX1 y z.1 z'.2 n = R) :
  ∀ {f : NdF} {c : List Nat}, gtF t f = some z → scanK f s c = none → scanK (repF t z' f) s c = under z.1 R := by
 intro f
 induction f with
 | nil => intro c h; cases h
 | cons a k r _ ih =>
  intro c h hs
  obtain ⟨i, y, h1, h2, h3, h4⟩ := scanK_none hs
  simp only [gtF] at h
  simp only [repF]
  split at h
  ·rename_i e
   rw [if_pos e]
   injection h with h
   subst h
   simp only at hz hk ⊢
   rw [hz, scanK_cons h1 h2, hk i y _ h1 h2 h3]
   cases R with
   | some b => rfl
   | none => exact h4
  ·rename_i e
   rw [if_neg e, scanK_cons h1 h2, h3]
   exact ih h h4
theorem finC_get {s : SpF} : ∀ {f : NdF} {c : List Nat} (j : Nat), c.length = s.len → (finC s f c).getD j 0 = c.getD j 0 + cntF s f j := by
 intro f
 induction f with
 | nil => intro c j _; rfl
 | cons a k r _ ih =>
  intro c j hl
  simp only [finC, cntF]
  cases h1 : findX a.name s with
  | none => simp only [reduceCtorEq, if_false]; exact ih j hl
  | some i =>
   obtain ⟨y, _, _, h3⟩ := sp_get h1
   simp only [Option.some.injEq]
   rw [ih j (by rw [bump_len]; exact hl), bump_get j (by omega)]
   by_cases e : i = j
   ·subst e; simp; omega
   ·rw [if_neg (fun h => e h.symm), if_neg e]; omega
theorem cnt_rep {s : SpF} {t : Stp} {z z' : Nd} (hz : z'.1 = z.1) : ∀ {f : NdF}, gtF t f = some z → ∀ j, cntF s (repF t z' f) j = cntF s f j := by
 intro f
 induction f with
 | nil => intro h; cases h
 | cons a k r _ ih =>
  intro h j
  simp only [gtF] at h
  simp only [repF]
  split at h
  ·rename_i e; rw [if_pos e]; injection h with h; subst h; simp only at hz; simp only [cntF, hz]
  ·rename_i e; rw [if_neg e]; simp only [cntF, ih h j]
theorem cnt_del {s : SpF} {t : Stp} {z : Nd} : ∀ {f : NdF}, gtF t f = some z → ∀ j, cntF s (delF t f) j + (if findX z.1.name s = some j then 1 else 0) = cntF s f j := by
 intro f
 induction f with
 | nil => intro h; cases h
 | cons a k r _ ih =>
  intro h j
  simp only [gtF] at h
  simp only [delF]
  split at h
  ·rename_i e; rw [if_pos e]; injection h with h; subst h; simp only [cntF]
  ·rename_i e; rw [if_neg e]; have := ih h j; simp only [cntF]; omega
theorem cnt_zero {s : SpF} {j : Nat} : ∀ {f : NdF}, (∀ m a k, f.get? m = some (a, k) → findX a.name s ≠ some j) → cntF s f j = 0 := by
 intro f
 induction f with
 | nil => intro _; rfl
 | cons a k r _ ih =>
  intro h
  simp only [cntF]
  rw [if_neg (h 0 a k rfl), ih fun m a k hm => h (m + 1) a k hm]
theorem cnt_pos {s : SpF} {j : Nat} : ∀ {f : NdF}, 0 < cntF s f j → ∃ m a k, f.get? m = some (a, k) ∧ findX a.name s = some j := by
 intro f
 induction f with
 | nil => intro h; simp [cntF] at h
 | cons a k r _ ih =>
  intro h
  by_cases e : findX a.name s = some j
  ·exact ⟨0, a, k, rfl, e⟩
  ·simp only [cntF, if_neg e, Nat.add_zero] at h
   obtain ⟨m, b, q, h1, h2⟩ := ih h
   exact ⟨m + 1, b, q, h1, h2⟩
theorem lack_none {s : SpF} : ∀ {c : List Nat}, lackX s c = none ↔ ∀ j y, s.get? j = some y → y.1.must = true → c.getD j 0 ≠ 0 := by
 induction s with
 | nil => intro c; exact ⟨fun _ j y h => (by cases h), fun _ => rfl⟩
 | cons d k r _ ih =>
  intro c
  have e0 : c.headD 0 = c.getD 0 0 := by cases c <;> rfl
  have e1 : ∀ j, c.tail.getD j 0 = c.getD (j + 1) 0 := by intro j; cases c <;> rfl
  unfold lackX
  by_cases h : d.must = true ∧ c.headD 0 = 0
  ·rw [if_pos h]
   exact ⟨fun h' => (by cases h'), fun h2 => absurd (e0.symm.trans h.2) (h2 0 (d, k) rfl h.1)⟩
  ·rw [if_neg h, ih]
   constructor
   ·intro h2 j y hy hm
    cases j with
    | zero => injection hy with hy; subst hy; exact fun e => h ⟨hm, e0.trans e⟩
    | succ j => rw [← e1]; exact h2 j y hy hm
   ·intro h2 j y hy hm
    rw [e1]
    exact h2 (j + 1) y hy hm
theorem lack_first {s : SpF} : ∀ {c : List Nat} {i : Nat} {y : Sp}, s.get? i = some y → y.1.must = true → c.getD i 0 = 0 → (∀ j z, s.get? j = some z → z.1.must = true → j ≠ i → c.getD j 0 ≠ 0) → lackX s c = some (25, [(y.1.name, [])]) := by
 induction s with
 | nil => intro c i y h; cases h
 | cons d k r _ ih =>
  intro c i y hy hm hc ho
  have e0 : c.headD 0 = c.getD 0 0 := by cases c <;> rfl
  have e1 : ∀ j, c.tail.getD j 0 = c.getD (j + 1) 0 := by intro j; cases c <;> rfl
  unfold lackX
  cases i with
  | zero => injection hy with hy; subst hy; rw [if_pos ⟨hm, e0.trans hc⟩]
  | succ i =>
   rw [if_neg fun h => ho 0 (d, k) rfl h.1 (by omega) (e0.symm.trans h.2)]
   exact ih hy hm ((e1 i).trans hc) fun j z hz hzm hj => by rw [e1]; exact ho (j + 1) z hz hzm (by omega)
theorem get_gtF {f : NdF} : ∀ {m : Nat} {y : Nd}, f.get? m = some y → ∃ z, gtF (stp y.1) f = some z := by
 induction f with
 | nil => intro m y h; cases h
 | cons a k r _ ih =>
  intro m y h
  simp only [gtF]
  by_cases e : stp a = stp y.1
  ·rw [if_pos e]; exact ⟨_, rfl⟩
  ·rw [if_neg e]
   cases m with
   | zero => injection h with h; subst h; exact absurd rfl e
   | succ m => exact ih h
theorem gt_get {s : Stp} {f : NdF} (h : allGt s f) : ∀ {m : Nat} {y : Nd}, f.get? m = some y → lessS s (stp y.1) = true := by
 induction f with
 | nil => intro m y h; cases h
 | cons a k r _ ih =>
  intro m y hy
  cases m with
  | zero => injection hy with hy; subst hy; exact h.1
  | succ m => exact ih h.2 hy
theorem right_at_gt {f : NdF} : ∀ {m : Nat} {y : Nd}, rgtF f = true → f.get? m = some y → gtF (stp y.1) f = some y := by
 induction f with
 | nil => intro m y _ h; cases h
 | cons a k r _ ih =>
  intro m y hf h
  obtain ⟨h1, h2, h3⟩ := right_cons_iff.1 hf
  simp only [gtF]
  cases m with
  | zero => injection h with h; subst h; rw [if_pos rfl]
  | succ m => rw [if_neg (lessS_ne (gt_get h2 h))]; exact ih h3 h
theorem scanK_at {s : SpF} {f : NdF} : ∀ {c : List Nat} {m : Nat} {a : NdD} {k : NdF}, scanK f s c = none → f.get? m = some (a, k) → ∃ i y n, findX a.name s = some i ∧ s.get? i = some y ∧ kidX1 y a k n = none := by
 induction f with
 | nil => intro c m a k _ h; cases h
 | cons b q r _ ih =>
  intro c m a k hs h
  obtain ⟨i, y, h1, h2, h3, h4⟩ := scanK_none hs
  cases m with
  | zero => injection h with h; injection h with ha hq; subst ha hq; exact ⟨i, y, _, h1, h2, h3⟩
  | succ m => exact ih h4 h
theorem del_at {t : Stp} {f : NdF} : ∀ {m : Nat} {y : Nd}, (delF t f).get? m = some y → ∃ m2, f.get? m2 = some y := by
 induction f with
 | nil => intro m y h; cases h
 | cons a k r _ ih =>
  intro m y h
  simp only [delF] at h
  split at h
  ·exact ⟨m + 1, h⟩
  ·cases m with
   | zero => exact ⟨0, h⟩
   | succ m => obtain ⟨m2, h2⟩ := ih h; exact ⟨m2 + 1, h2⟩
theorem at_del {t : Stp} {f : NdF} : ∀ {m : Nat} {y : Nd}, f.get? m = some y → stp y.1 ≠ t → ∃ m2, (delF t f).get? m2 = some y := by
 induction f with
 | nil => intro m y h; cases h
 | cons a k r _ ih =>
  intro m y h hn
  simp only [delF]
  split
  ·rename_i e
   cases m with
   | zero => injection h with h; subst h; exact absurd e hn
   | succ m => exact ⟨m, h⟩
  ·cases m with
   | zero => exact ⟨0, h⟩
   | succ m => obtain ⟨m2, h2⟩ := ih h hn; exact ⟨m2 + 1, h2⟩
theorem rep_at {t : Stp} {y' : Nd} {f : NdF} : ∀ {m : Nat} {y : Nd}, (repF t y' f).get? m = some y → (∃ m2, f.get? m2 = some y) ∨ y = y' := by
 induction f with
 | nil => intro m y h; cases h
 | cons a k r _ ih =>
  intro m y h
  simp only [repF] at h
  split at h
  ·cases m with
   | zero => injection h with h; exact .inr h.symm
   | succ m => exact .inl ⟨m + 1, h⟩
  ·cases m with
   | zero => exact .inl ⟨0, h⟩
   | succ m =>
    rcases ih h with ⟨m2, h2⟩ | h2
    ·exact .inl ⟨m2 + 1, h2⟩
    ·exact .inr h2
theorem at_rep {t : Stp} {z y' : Nd} {f : NdF} : gtF t f = some z → ∃ m, (repF t y' f).get? m = some y' := by
 induction f with
 | nil => intro h; cases h
 | cons a k r _ ih =>
  intro h
  simp only [gtF] at h
  simp only [repF]
  split at h
  ·rename_i e; rw [if_pos e]; exact ⟨0, rfl⟩
  ·rename_i e; rw [if_neg e]; obtain ⟨m, h2⟩ := ih h; exact ⟨m + 1, h2⟩
theorem cut_inside : ∀ (l : List Stp) (d : SpD) (s : SpF) (a : NdD) (f : NdF) (z : Nd) (y : Sp), l ≠ [] → rgtF f = true → insideX s f = none → getX (a, f) l = some z → downX (d, s) (l.map (·.1)) = some y → (y.1.must = true → y.1.kind = 1) →
  insideX s (cutX (a, f) l).2 = if y.1.must = true then some (25, l) else none := by
 intro l
 induction l with
 | nil => intro d s a f z y h; exact absurd rfl h
 | cons t l ih =>
  intro d s a f z y _ hf hin hg hd hm
  obtain ⟨hs, hl⟩ := inside_split.1 hin
  rw [getX.eq_def] at hg
  simp only at hg
  cases h1 : gtF t f with
  | none => rw [h1] at hg; cases hg
  | some u =>
   rw [h1] at hg
   simp only at hg
   simp only [List.map_cons, downX] at hd
   cases h2 : findX t.1 s with
   | none => rw [h2] at hd; cases hd
   | some i =>
    obtain ⟨y0, h3, h4, h5⟩ := sp_get h2
    rw [h2] at hd
    simp only [h3] at hd
    have hu := getF_stp h1
    obtain ⟨mu, _, hat⟩ := getF_find h1
    obtain ⟨i', y', n, g1, g2, g3⟩ := scanK_at hs (a := u.1) (k := u.2) hat
    have e1 : u.1.name = t.1 := congrArg Prod.fst hu
    rw [e1, h2] at g1
    injection g1 with g1
    subst g1
    rw [h3] at g2
    injection g2 with g2
    subst g2
    have hz : (zeros s).length = s.len := zeros_len s
    cases l with
    | nil =>
     simp only [List.map_nil, downX] at hd
     injection hd with hd
     subst hd
     rw [cutX_one]
     unfold insideX
     rw [scan_split, scanK_del hs]
     simp only
     have hc := cnt_del (s := s) h1
     rw [e1, h2] at hc
     simp only [Option.some.injEq] at hc
     have hn := lack_none.1 hl
     by_cases hmu : y0.1.must = true
     ·rw [if_pos hmu]
      have hk := kid_leaf g3 (hm hmu)
      have ht : [(y0.1.name, ([] : List UInt8))] = [t] := by
       have e2 : u.1.key = t.2 := congrArg Prod.snd hu
       rw [h4, ← hk.1, e2]
      rw [← ht]
      refine lack_first h3 hmu ?_ fun j w hw hwm hj => ?_
      ·rw [finC_get i hz, zeros_get, Nat.zero_add]
       refine cnt_zero fun m b q hb e => ?_
       obtain ⟨m2, hb2⟩ := del_at hb
       obtain ⟨i2, y2, n2, q1, q2, q3⟩ := scanK_at hs hb2
       rw [e] at q1
       injection q1 with q1
       subst q1
       rw [h3] at q2
       injection q2 with q2
       subst q2
       obtain ⟨y3, r1, r2, _⟩ := sp_get e
       rw [h3] at r1
       injection r1 with r1
       subst r1
       have hkb := (kid_leaf q3 (hm hmu)).1
       have es : stp b = t := by
        have w1 : b.name = t.1 := r2.symm.trans h4
        have w2 : b.key = t.2 := hkb.trans (hk.1.symm.trans (congrArg Prod.snd hu))
        unfold stp
        rw [w1, w2]
       obtain ⟨w, hw⟩ := get_gtF hb
       simp only at hw
       rw [es, getF_del hf] at hw
       cases hw
      ·rw [finC_get j hz, zeros_get, Nat.zero_add]
       have h6 := hn j w hw hwm
       rw [finC_get j hz, zeros_get, Nat.zero_add] at h6
       have h7 := hc j
       rw [if_neg (fun e => hj e.symm)] at h7
       omega
     ·rw [if_neg hmu]
      refine lack_none.2 fun j w hw hwm => ?_
      have hj : i ≠ j := fun e => by subst e; rw [h3] at hw; injection hw with hw; subst hw; exact hmu hwm
      rw [finC_get j hz, zeros_get, Nat.zero_add]
      have h6 := hn j w hw hwm
      rw [finC_get j hz, zeros_get, Nat.zero_add] at h6
      have h7 := hc j
      rw [if_neg hj] at h7
      omega
    | cons t2 l =>
     have hur := right_get hf h1
     have hg2 := hg
     rw [getX.eq_def] at hg2
     simp only at hg2
     cases h6 : gtF t2 u.2 with
     | none => rw [h6] at hg2; cases hg2
     | some w =>
      clear hg2
      have hul := (right_kind hur h6).2.2.2
      have hk : y0.1.kind ≠ 1 := fun e => by
       have := (kid_leaf g3 e).2
       cases h7 : u.2 with
       | nil => rw [h7] at h6; cases h6
       | cons b q r => rw [h7] at this; simp [Fr.len] at this
      have hin2 := (kid_box g3 hk).2
      have hI := ih y0.1 y0.2 u.1 u.2 z y (by simp) hul hin2 hg hd hm
      rw [cut_more]
      simp only [h1]
      unfold insideX
      rw [scan_split, scanK_rep (R := if y.1.must = true then some (25, t2 :: l) else none) cut_fst (fun i3 y3 n3 q1 q2 q3 => ?_) h1 hs]
      ·by_cases hmu : y.1.must = true
       ·rw [if_pos hmu, if_pos hmu]
        simp only [under, hu]
       ·rw [if_neg hmu, if_neg hmu]
        simp only [under]
        refine lack_none.2 fun j v hv hvm => ?_
        rw [finC_get j hz, zeros_get, Nat.zero_add, cnt_rep cut_fst h1]
        have h8 := lack_none.1 hl j v hv hvm
        rw [finC_get j hz, zeros_get, Nat.zero_add] at h8
        exact h8
      ·rw [e1, h2] at q1
       injection q1 with q1
       subst q1
       rw [h3] at q2
       injection q2 with q2
       subst q2
       rw [kid_other q3 hk]
       exact hI
def lessO (o o' : Option Nd) : Prop := o' = none ∨ ∃ y y', o = some y ∧ o' = some y' ∧ y'.1 = y.1
theorem lessO.refl (o : Option Nd) : lessO o o := by
 cases o with
 | none => exact .inl rfl
 | some y => exact .inr ⟨y, y, rfl, rfl, rfl⟩
theorem rules_none {all : NdF} : ∀ {f : NdF}, rulesX all f = none ↔ ∀ m a k, f.get? m = some (a, k) → a.name = nRule → namedB all (gtF clsS k) = true := by
 intro f
 induction f with
 | nil => exact ⟨fun _ m a k h => (by cases h), fun _ => rfl⟩
 | cons a k r _ ih =>
  simp only [rulesX]
  by_cases h : a.name = nRule ∧ namedB all (gtF clsS k) = false
  ·rw [if_pos h]
   exact ⟨fun h' => (by cases h'), fun h2 => (by have := h2 0 a k rfl h.1; rw [h.2] at this; cases this)⟩
  ·rw [if_neg h, ih]
   constructor
   ·intro h2 m b q hb hn
    cases m with
    | zero =>
     injection hb with hb; injection hb with e1 e2; subst e1 e2
     cases hb : namedB all (gtF clsS k) with
     | true => rfl
     | false => exact absurd ⟨hn, hb⟩ h
    | succ m => exact h2 m b q hb hn
   ·intro h2 m b q hb hn
    exact h2 (m + 1) b q hb hn
theorem port_noneL {k : NdF} : portX k = none ↔ namedB k (gtF defS k) = true ∧ ∀ m a q, k.get? m = some (a, q) → a.name = nRule → namedB k (gtF clsS q) = true := by
 unfold portX
 cases h : namedB k (gtF defS k) with
 | false => simp
 | true => rw [if_neg (by simp), rules_none]; simp
theorem refs_noneL : ∀ {f : NdF}, refsF f = none ↔ ∀ m a k, f.get? m = some (a, k) → a.name = nPort → portX k = none := by
 intro f
 induction f with
 | nil => exact ⟨fun _ m a k h => (by cases h), fun _ => rfl⟩
 | cons a k r _ ih =>
  simp only [refsF]
  by_cases h : a.name = nPort
  ·rw [if_pos h]
   cases hp : portX k with
   | some p =>
    simp only
    exact ⟨fun h' => (by cases h'), fun h2 => (by have := h2 0 a k rfl h; rw [hp] at this; cases this)⟩
   | none =>
    simp only
    rw [ih]
    constructor
    ·intro h2 m b q hb hn
     cases m with
     | zero => injection hb with hb; injection hb with e1 e2; subst e1 e2; exact hp
     | succ m => exact h2 m b q hb hn
    ·intro h2 m b q hb hn
     exact h2 (m + 1) b q hb hn
  ·rw [if_neg h, ih]
   constructor
   ·intro h2 m b q hb hn
    cases m with
    | zero => injection hb with hb; injection hb with e1 e2; subst e1 e2; exact absurd hn h
    | succ m => exact h2 m b q hb hn
   ·intro h2 m b q hb hn
    exact h2 (m + 1) b q hb hn
theorem table_cls : (([1, 2, 3] : List Nat).all fun v => decide ((downX (rootD, rootF v) [nPort, nClass]).map (fun y => (y.1.name, y.1.kind, y.1.must)) = some (nClass, 3, false))) = true := by decide
theorem root_cases {v : Int} (h : (rootX v).2 = 0) : ∃ n : Nat, n ∈ ([1, 2, 3] : List Nat) ∧ (rootX v).1 = (rootD, rootF n) := by
 unfold rootX at h ⊢
 by_cases hv : v < 1 ∨ 3 < v
 ·rw [if_pos hv] at h; cases h
 ·rw [if_neg hv]
  have : v.toNat = 1 ∨ v.toNat = 2 ∨ v.toNat = 3 := by omega
  exact ⟨v.toNat, (by simpa using this), rfl⟩
theorem root_cls {v : Int} {y : Sp} (h : (rootX v).2 = 0) (hd : downX (rootX v).1 [nPort, nClass] = some y) : y.1.name = nClass ∧ y.1.kind = 3 ∧ y.1.must = false := by
 obtain ⟨n, hn, e⟩ := root_cases h
 rw [e] at hd
 have h2 := of_decide_eq_true (List.all_eq_true.1 table_cls n hn)
 rw [hd] at h2
 simp only [Option.map_some, Option.some.injEq, Prod.mk.injEq] at h2
 exact h2
end Go.Proofs.YtljjaikejfoanaaGreat
namespace Go.Proofs.YtljjaikejfoanaaGreat
open Go.RowKit
attribute [local go_sem] Oper.semAt_some
theorem ok_get {s : Stp} {z : Nd} {f : NdF} (h : OkF f) (hg : gtF s f = some z) : OkN z := by
 obtain ⟨i, _, hi⟩ := getF_find hg
 exact h.at hi
theorem ok_del {s : Stp} : ∀ {f : NdF}, OkF f → OkF (delF s f) := by
 intro f
 induction f with
 | nil => intro h; exact h
 | cons a k r _ ih =>
  intro h
  simp only [delF]
  split
  ·exact h.2.2
  ·exact ⟨h.1, h.2.1, ih h.2.2⟩
theorem ok_rep {s : Stp} {y : Nd} (hy : OkN y) : ∀ {f : NdF}, OkF f → OkF (repF s y f) := by
 intro f
 induction f with
 | nil => intro h; exact h
 | cons a k r _ ih =>
  intro h
  simp only [repF]
  split
  ·exact ⟨hy.1, hy.2, h.2.2⟩
  ·exact ⟨h.1, h.2.1, ih h.2.2⟩
theorem ok_cut : ∀ (l : List Stp) (x : Nd), OkN x → OkN (cutX x l) := by
 intro l
 induction l with
 | nil => intro x h; exact h
 | cons s l ih =>
  intro x h
  cases l with
  | nil => rw [cutX_one]; exact ⟨h.1, ok_del h.2⟩
  | cons t l =>
   rw [cut_more]
   cases hg : gtF s x.2 with
   | none => exact h
   | some z => exact ⟨h.1, ok_rep (ih z (ok_get h.2 hg)) h.2⟩
structure LsM (rt : Sp) (a : NdD) (f : NdF) (l : List Stp) (x : Nd) (y : Sp) : Prop where
 get : getX (a, f) l = some x
 down : downX rt (l.map (·.1)) = some y
 fits : x.2.len = 0 ∨ insideX y.2 x.2 = none
 rgt : rgtF x.2 = true
 spok : SpOk y.2
 splen : y.2.len ≤ 1000000
theorem get_snoc {s : Stp} : ∀ (l : List Stp) (x p : Nd), getX x l = some p → getX x (l ++ [s]) = gtF s p.2 := by
 intro l
 induction l with
 | nil =>
  intro x p h
  injection h with h
  subst h
  simp only [List.nil_append, getX]
  cases gtF s x.2 <;> rfl
 | cons t l ih =>
  intro x p h
  simp only [List.cons_append, getX] at h ⊢
  cases hg : gtF t x.2 with
  | none => rw [hg] at h; cases h
  | some z => rw [hg] at h; exact ih z p h
theorem down_snoc {n : List UInt8} {i : Nat} {z : Sp} : ∀ (l : List (List UInt8)) (x y : Sp), downX x l = some y → findX n y.2 = some i → y.2.get? i = some z → downX x (l ++ [n]) = some z := by
 intro l
 induction l with
 | nil =>
  intro x y h h1 h2
  injection h with h
  subst h
  simp only [List.nil_append, downX, h1, h2]
 | cons m l ih =>
  intro x y h h1 h2
  simp only [List.cons_append, downX] at h ⊢
  cases hf : findX m x.2 with
  | none => rw [hf] at h; cases h
  | some j =>
   rw [hf] at h
   simp only at h ⊢
   cases hg : x.2.get? j with
   | none => rw [hg] at h; cases h
   | some u =>
    rw [hg] at h
    simp only at h ⊢
    exact ih u y h h1 h2
theorem rgt_kids {k : Nd} (h : rgtX k = true) : rgtF k.2 = true := by
 obtain ⟨a, f⟩ := k
 cases f with
 | nil => rfl
 | cons b q r =>
  obtain ⟨z2, hz2⟩ := get_gtF (f := Fr.cons b q r) (m := 0) (y := (b, q)) rfl
  exact (right_kind (x := (a, Fr.cons b q r)) h hz2).2.2.2
theorem LsM.next {rt : Sp} {a : NdD} {f : NdF} {l : List Stp} {x k : Nd} {y : Sp} {m : Nat} (h : LsM rt a f l x y) (hk : x.2.get? m = some k) :
  ∃ i z, findX k.1.name y.2 = some i ∧ y.2.get? i = some z ∧ LsM rt a f (l ++ [stp k.1]) k z := by
 have hin : insideX y.2 x.2 = none := by
  rcases h.fits with h0 | h0
  ·have := Fr.get_lt hk; omega
  ·exact h0
 obtain ⟨i, z, n, h1, h2, h3⟩ := scanK_at (a := k.1) (k := k.2) (inside_split.1 hin).1 hk
 have hg := right_at_gt h.rgt hk
 have hso := h.spok.at h2
 refine ⟨i, z, h1, h2, ?_, ?_, ?_, rgt_kids (right_get h.rgt hg), hso.2.2, hso.2.1⟩
 ·rw [get_snoc l _ _ h.get]; exact hg
 ·rw [List.map_append]; exact down_snoc _ _ _ h.down h1 h2
 ·by_cases hk : z.1.kind = 1
  ·exact .inl (kid_leaf h3 hk).2
  ·exact .inr (kid_box h3 hk).2
end Go.Proofs.YtljjaikejfoanaaGreat
