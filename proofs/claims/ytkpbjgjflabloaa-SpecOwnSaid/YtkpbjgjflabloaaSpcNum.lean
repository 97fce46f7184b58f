/-
  The schema of configurations, in three versions, as plain data: what stands in it, at the end of names, and which tags its kids have. No program; no condition but those of each theorem.
-/
import Derived.Test.YtkpbjgjflabloaaForest
import Derived.Test.YtkpbjgjflabloaaFrmRow
namespace Go.Proofs.Ytkpbjgjflabloaa
open Go.RowKit
set_option linter.unusedSimpArgs false

/-- What a thing of the schema bears, but for its kids. -/
structure SpD where
  name : List UInt8
  kind : Nat
  typ : Nat
  low : Nat
  high : Nat
  names : List (List UInt8)
  must : Bool
  most : Nat
theorem SpD.ext_ {a b : SpD} (h1 : a.name = b.name) (h2 : a.kind = b.kind) (h3 : a.typ = b.typ) (h4 : a.low = b.low) (h5 : a.high = b.high) (h6 : a.names = b.names) (h7 : a.must = b.must) (h8 : a.most = b.most) : a = b := by
  cases a; cases b; simp_all
instance : DecidableEq SpD := fun a b => decidable_of_iff (a.name = b.name ∧ a.kind = b.kind ∧ a.typ = b.typ ∧ a.low = b.low ∧ a.high = b.high ∧ a.names = b.names ∧ a.must = b.must ∧ a.most = b.most)
  ⟨fun ⟨h1, h2, h3, h4, h5, h6, h7, h8⟩ => SpD.ext_ h1 h2 h3 h4 h5 h6 h7 h8, fun h => by subst h; exact ⟨rfl, rfl, rfl, rfl, rfl, rfl, rfl, rfl⟩⟩
abbrev SpF := Fr SpD
/-- A thing with its kids. -/
abbrev Sp := SpD × SpF
def nQuantum : List UInt8 := [113, 117, 97, 110, 116, 117, 109]
def nRate : List UInt8 := [114, 97, 116, 101]
def nBurst : List UInt8 := [98, 117, 114, 115, 116]
def nLimit : List UInt8 := [108, 105, 109, 105, 116]
def nDepth : List UInt8 := [100, 101, 112, 116, 104]
def nShaped : List UInt8 := [115, 104, 97, 112, 101, 100]
def nLow : List UInt8 := [108, 111, 119]
def nHigh : List UInt8 := [104, 105, 103, 104]
def nClass : List UInt8 := [99, 108, 97, 115, 115]
def nUp : List UInt8 := [117, 112]
def nRule : List UInt8 := [114, 117, 108, 101]
def nDefault : List UInt8 := [100, 101, 102, 97, 117, 108, 116]
def nKind : List UInt8 := [107, 105, 110, 100]
def nSystem : List UInt8 := [115, 121, 115, 116, 101, 109]
def nPort : List UInt8 := [112, 111, 114, 116]
def nWait : List UInt8 := [119, 97, 105, 116]
def nEdge : List UInt8 := [101, 100, 103, 101]
def nCore : List UInt8 := [99, 111, 114, 101]
def nLab : List UInt8 := [108, 97, 98]
def numD (n : List UInt8) (t lo hi : Nat) : SpD := ⟨n, 1, t, lo, hi, [], true, 0⟩
def leafD (n : List UInt8) (t : Nat) (must : Bool) : SpD := ⟨n, 1, t, 0, 0, [], must, 0⟩
def listD (n : List UInt8) (most : Nat) : SpD := ⟨n, 3, 0, 0, 0, [], false, most⟩
def kindD : SpD := ⟨nKind, 1, 4, 0, 0, [nEdge, nCore, nLab], false, 0⟩
def waitD : SpD := ⟨nWait, 1, 1, 1, 1000, [], false, 0⟩
def rootD : SpD := ⟨[], 2, 0, 0, 0, [], false, 0⟩
def zeroD : SpD := ⟨[], 0, 0, 0, 0, [], false, 0⟩
def frOf : List Sp → SpF
  | [] => .nil
  | x :: l => .cons x.1 x.2 (frOf l)
theorem frOf_app (l m : List Sp) : frOf (l ++ m) = (frOf l).app (frOf m) := by
  induction l with
  | nil => rfl
  | cons x l ih => simp only [List.cons_append, frOf, Fr.app, ih]
theorem frOf_len (l : List Sp) : (frOf l).len = l.length := by
  induction l with
  | nil => rfl
  | cons x l ih => simp only [frOf, Fr.len, ih, List.length_cons]
def classL (v : Nat) : List Sp :=
  [(numD nQuantum 1 1500 100000, .nil), (numD nRate 2 0 1000000, .nil), (numD nBurst 1 1500 1000000, .nil)] ++ [(numD (if v < 3 then nLimit else nDepth) 1 1 64, .nil)] ++ (if 1 < v then [(leafD nShaped 3 true, .nil)] else [])
def ruleL : List Sp := [(numD nLow 1 0 65535, .nil), (numD nHigh 1 0 65535, .nil), (leafD nClass 6 true, .nil)]
def portL (v : Nat) : List Sp :=
  [(leafD nUp 3 false, .nil), (listD nClass 8, frOf (classL v)), (listD nRule 16, frOf ruleL), (leafD nDefault 6 true, .nil)] ++ (if 1 < v then [(kindD, .nil)] else [])
def rootL (v : Nat) : List Sp := [(leafD nSystem 5 false, .nil), (listD nPort 4, frOf (portL v))] ++ (if 2 < v then [(waitD, .nil)] else [])
/-- The schema of a version. -/
def rootF (v : Nat) : SpF := frOf (rootL v)
/-- What Root tells: a thing, and the error. -/
def rootX (v : Int) : Sp × Nat := if v < 1 ∨ 3 < v then ((zeroD, .nil), 28) else ((rootD, rootF v.toNat), 0)
/-- Which kid has a name. -/
def findX (n : List UInt8) : SpF → Option Nat
  | .nil => none
  | .cons a _ r => if a.name = n then some 0 else (findX n r).map (· + 1)
def findI (n : List UInt8) (f : SpF) : Int := match findX n f with
  | none => -1
  | some i => (i : Int)
/-- What stands at the end of names. -/
def downX : Sp → List (List UInt8) → Option Sp
  | x, [] => some x
  | x, n :: l => match findX n x.2 with
    | none => none
    | some i => match x.2.get? i with
      | none => none
      | some y => downX y l
def atX (v : Int) (l : List (List UInt8)) : Sp × Nat := if v < 1 ∨ 3 < v then ((zeroD, .nil), 28) else match downX (rootD, rootF v.toNat) l with
  | none => ((zeroD, .nil), 22)
  | some x => (x, 0)
/-- A kid's tag. -/
def tagX (f : SpF) (i : Int) : Nat := if i < 0 then 0 else match f.get? i.toNat with
  | none => 0
  | some x => 2 * i.toNat + 2 + (if x.1.kind = 1 then 0 else 1)
/-- The first kid of a tag, from place i on. -/
def kidF (tag : Nat) : SpF → Nat → Option Nat
  | .nil, _ => none
  | .cons a _ r, i => if 2 * i + 2 + (if a.kind = 1 then 0 else 1) = tag then some i else kidF tag r (i + 1)
def kidX (f : SpF) (tag : Nat) : Int := match kidF tag f 0 with
  | none => -1
  | some i => (i : Int)

/-! ### What is found -/
theorem find_some {n : List UInt8} : ∀ {f : SpF} {i : Nat}, findX n f = some i → ∃ x, f.get? i = some x ∧ x.1.name = n ∧ ∀ j y, j < i → f.get? j = some y → y.1.name ≠ n := by
  intro f
  induction f with
  | nil => intro i h; cases h
  | cons a k r _ ih =>
    intro i h
    unfold findX at h
    by_cases e : a.name = n
    · rw [if_pos e] at h
      injection h with h
      subst h
      exact ⟨(a, k), rfl, e, fun j y hj => by omega⟩
    · rw [if_neg e] at h
      cases hr : findX n r with
      | none => rw [hr] at h; cases h
      | some m =>
        rw [hr] at h
        have h : m + 1 = i := by injection h
        subst h
        obtain ⟨x, h1, h2, h3⟩ := ih hr
        refine ⟨x, h1, h2, fun j y hj hy => ?_⟩
        cases j with
        | zero => injection hy with hy; subst hy; exact e
        | succ j => exact h3 j y (by omega) hy
theorem find_none {n : List UInt8} : ∀ {f : SpF}, findX n f = none → ∀ j y, f.get? j = some y → y.1.name ≠ n := by
  intro f
  induction f with
  | nil => intro _ j y h; cases h
  | cons a k r _ ih =>
    intro h j y hy
    unfold findX at h
    by_cases e : a.name = n
    · rw [if_pos e] at h; cases h
    · rw [if_neg e] at h
      cases hr : findX n r with
      | some m => rw [hr] at h; cases h
      | none =>
        cases j with
        | zero => injection hy with hy; subst hy; exact e
        | succ j => exact ih hr j y hy
theorem find_is {n : List UInt8} {f : SpF} {i : Nat} {x : Sp} (h1 : f.get? i = some x) (h2 : x.1.name = n) (h3 : ∀ j y, j < i → f.get? j = some y → y.1.name ≠ n) : findX n f = some i := by
  cases h : findX n f with
  | none => exact absurd h2 (find_none h i x h1)
  | some m =>
    obtain ⟨y, g1, g2, g3⟩ := find_some h
    rcases Nat.lt_trichotomy i m with hl | rfl | hl
    · exact absurd h2 (g3 i x hl h1)
    · rfl
    · exact absurd g2 (h3 m y hl g1)
theorem find_no {n : List UInt8} {f : SpF} (h : ∀ j y, f.get? j = some y → y.1.name ≠ n) : findX n f = none := by
  cases hf : findX n f with
  | none => rfl
  | some m =>
    obtain ⟨y, g1, g2, _⟩ := find_some hf
    exact absurd g2 (h m y g1)

/-! ### Tags -/
theorem kid_some {t : Nat} : ∀ {f : SpF} {i m : Nat}, kidF t f i = some m → ∃ x, i ≤ m ∧ f.get? (m - i) = some x ∧ 2 * m + 2 + (if x.1.kind = 1 then 0 else 1) = t := by
  intro f
  induction f with
  | nil => intro i m h; cases h
  | cons a k r _ ih =>
    intro i m h
    unfold kidF at h
    by_cases e : 2 * i + 2 + (if a.kind = 1 then 0 else 1) = t
    · rw [if_pos e] at h
      injection h with h
      subst h
      exact ⟨(a, k), Nat.le_refl _, by rw [Nat.sub_self]; rfl, e⟩
    · rw [if_neg e] at h
      obtain ⟨x, h1, h2, h3⟩ := ih h
      refine ⟨x, by omega, ?_, h3⟩
      rw [show m - i = (m - (i + 1)) + 1 by omega]
      exact h2
theorem kid_none {t : Nat} : ∀ {f : SpF} {i : Nat}, kidF t f i = none → ∀ j x, f.get? j = some x → 2 * (i + j) + 2 + (if x.1.kind = 1 then 0 else 1) ≠ t := by
  intro f
  induction f with
  | nil => intro i _ j x h; cases h
  | cons a k r _ ih =>
    intro i h j x hx
    unfold kidF at h
    by_cases e : 2 * i + 2 + (if a.kind = 1 then 0 else 1) = t
    · rw [if_pos e] at h; cases h
    · rw [if_neg e] at h
      cases j with
      | zero => injection hx with hx; subst hx; exact e
      | succ j =>
        have := ih h j x hx
        rwa [show i + 1 + j = i + (j + 1) by omega] at this
theorem tag_in {f : SpF} {i : Nat} {x : Sp} (h : f.get? i = some x) : tagX f (i : Int) = 2 * i + 2 + (if x.1.kind = 1 then 0 else 1) := by
  unfold tagX
  rw [if_neg (by omega), Int.toNat_natCast, h]
theorem tag_low (f : SpF) {i : Int} (h : i < 0) : tagX f i = 0 := by unfold tagX; rw [if_pos h]
theorem tag_high (f : SpF) {i : Int} (h : (f.len : Int) ≤ i) : tagX f i = 0 := by
  unfold tagX
  rw [if_neg (by omega), Fr.get_none (by omega)]
theorem tag_kid {f : SpF} {i : Nat} {x : Sp} (h : f.get? i = some x) : kidX f (tagX f (i : Int)) = (i : Int) := by
  rw [tag_in h]
  unfold kidX
  cases hk : kidF (2 * i + 2 + (if x.1.kind = 1 then 0 else 1)) f 0 with
  | none =>
    have := kid_none hk i x h
    rw [Nat.zero_add] at this
    exact absurd rfl this
  | some m =>
    obtain ⟨y, _, h2, h3⟩ := kid_some hk
    have : m = i := by split at h3 <;> split at h3 <;> omega
    rw [this]
theorem kid_zero (f : SpF) : kidX f 0 = -1 := by
  unfold kidX
  cases hk : kidF 0 f 0 with
  | none => rfl
  | some m =>
    obtain ⟨y, _, _, h3⟩ := kid_some hk
    omega
/-! ### Down -/
/-- What stands within, at all depths. -/
def inner : SpF → List Sp
  | .nil => []
  | .cons a k r => (a, k) :: (inner k ++ inner r)
theorem inner_get : ∀ {f : SpF} {i : Nat} {x : Sp}, f.get? i = some x → x ∈ inner f := by
  intro f
  induction f with
  | nil => intro i x h; cases h
  | cons a k r _ ih =>
    intro i x h
    cases i with
    | zero => injection h with h; subst h; simp [inner]
    | succ i => have := ih h; simp only [inner, List.mem_cons, List.mem_append]; exact .inr (.inr this)
theorem inner_in : ∀ {f : SpF} {x y : Sp}, x ∈ inner f → y ∈ inner x.2 → y ∈ inner f := by
  intro f
  induction f with
  | nil => intro x y h; cases h
  | cons a k r ihk ihr =>
    intro x y h hy
    simp only [inner, List.mem_cons, List.mem_append] at h ⊢
    rcases h with rfl | h | h
    · exact .inr (.inl hy)
    · exact .inr (.inl (ihk h hy))
    · exact .inr (.inr (ihr h hy))
/-- What stands at the end of names is the beginning, or within it. -/
theorem down_in : ∀ {l : List (List UInt8)} {x y : Sp}, downX x l = some y → y = x ∨ y ∈ inner x.2 := by
  intro l
  induction l with
  | nil => intro x y h; unfold downX at h; injection h with h; exact .inl h.symm
  | cons n l ih =>
    intro x y h
    unfold downX at h
    cases hf : findX n x.2 with
    | none => rw [hf] at h; cases h
    | some i =>
      rw [hf] at h
      simp only at h
      cases hg : x.2.get? i with
      | none => rw [hg] at h; cases h
      | some z =>
        rw [hg] at h
        simp only at h
        have hz := inner_get hg
        rcases ih h with rfl | h
        · exact .inr hz
        · exact .inr (inner_in hz h)
theorem down_last : ∀ {l : List (List UInt8)} {x y : Sp} {n : List UInt8}, downX x (l ++ [n]) = some y → y.1.name = n ∧ ∃ z, downX x l = some z ∧ ∃ i, findX n z.2 = some i ∧ z.2.get? i = some y := by
  intro l
  induction l with
  | nil =>
    intro x y n h
    rw [List.nil_append] at h
    unfold downX at h
    cases hf : findX n x.2 with
    | none => rw [hf] at h; cases h
    | some i =>
      rw [hf] at h
      simp only at h
      obtain ⟨z, h1, h2, _⟩ := find_some hf
      rw [h1] at h
      simp only [downX] at h
      injection h with h
      subst h
      exact ⟨h2, x, rfl, i, hf, h1⟩
  | cons m l ih =>
    intro x y n h
    rw [List.cons_append] at h
    unfold downX at h ⊢
    cases hf : findX m x.2 with
    | none => rw [hf] at h; cases h
    | some i =>
      rw [hf] at h
      simp only at h ⊢
      cases hg : x.2.get? i with
      | none => rw [hg] at h; cases h
      | some z =>
        rw [hg] at h
        simp only at h ⊢
        exact ih h

/-! ### Later versions -/
def sameD (a b : SpD) : Bool := decide (a.name = b.name) && decide (a.kind = b.kind) && decide (a.typ = b.typ) && decide (a.low = b.low) && decide (a.high = b.high) && decide (a.must = b.must) && decide (a.most = b.most)
/-- What the kids f have the kids g have too; but limit, in the last step. -/
def grows (two : Bool) : SpF → SpF → Bool
  | .nil, _ => true
  | .cons a k r, g => (if two && decide (a.name = nLimit) then (findX nLimit g).isNone && decide (k.len = 0) else
      match findX a.name g with
      | none => false
      | some i => match g.get? i with
        | none => false
        | some y => sameD a y.1 && decide (k.len ≤ y.2.len) && grows two k y.2) && grows two r g
theorem grows_get {two : Bool} {g : SpF} : ∀ {f : SpF} {i : Nat} {x : Sp}, grows two f g = true → f.get? i = some x →
    (two = true ∧ x.1.name = nLimit ∧ findX nLimit g = none ∧ x.2 = .nil) ∨
    ((two = false ∨ x.1.name ≠ nLimit) ∧ ∃ j y, findX x.1.name g = some j ∧ g.get? j = some y ∧ sameD x.1 y.1 = true ∧ x.2.len ≤ y.2.len ∧ grows two x.2 y.2 = true) := by
  intro f
  induction f with
  | nil => intro i x _ h; cases h
  | cons a k r _ ih =>
    intro i x hg h
    unfold grows at hg
    rw [Bool.and_eq_true] at hg
    cases i with
    | succ i => exact ih hg.2 h
    | zero =>
      injection h with h
      subst h
      have hg := hg.1
      by_cases c : (two && decide (a.name = nLimit)) = true
      · rw [if_pos c] at hg
        simp only [Bool.and_eq_true, decide_eq_true_eq] at c hg
        refine .inl ⟨c.1, c.2, by simpa using hg.1, ?_⟩
        cases k with
        | nil => rfl
        | cons => simp [Fr.len] at hg
      · rw [if_neg c] at hg
        have hc : two = false ∨ a.name ≠ nLimit := by
          cases two with
          | false => exact .inl rfl
          | true => exact .inr (fun e => c (by simp [e]))
        cases hf : findX a.name g with
        | none => rw [hf] at hg; cases hg
        | some j =>
          rw [hf] at hg
          simp only at hg
          cases hq : g.get? j with
          | none => rw [hq] at hg; cases hg
          | some y =>
            rw [hq] at hg
            simp only [Bool.and_eq_true, decide_eq_true_eq] at hg
            exact .inr ⟨hc, j, y, rfl, hq, hg.1.1, hg.1.2, hg.2⟩
theorem grows_down {two : Bool} : ∀ {l : List (List UInt8)} {x y z : Sp}, x.1.name = y.1.name → sameD x.1 y.1 = true → x.2.len ≤ y.2.len → grows two x.2 y.2 = true → (two = false ∨ x.1.name ≠ nLimit) → downX x l = some z →
    (two = true ∧ z.1.name = nLimit ∧ downX y l = none) ∨ ((two = false ∨ z.1.name ≠ nLimit) ∧ ∃ u, downX y l = some u ∧ sameD z.1 u.1 = true ∧ z.2.len ≤ u.2.len) := by
  intro l
  induction l with
  | nil => intro x y z _ h1 h2 _ h4 h; unfold downX at h; injection h with h; subst h; exact .inr ⟨h4, y, rfl, h1, h2⟩
  | cons n l ih =>
    intro x y z _ _ _ h3 _ h
    unfold downX at h
    cases hf : findX n x.2 with
    | none => rw [hf] at h; cases h
    | some i =>
      rw [hf] at h
      simp only at h
      obtain ⟨u, g1, g2, _⟩ := find_some hf
      rw [g1] at h
      simp only at h
      rcases grows_get h3 g1 with ⟨c1, c2, c3, c4⟩ | ⟨hc, j, q, c1, c2, c3, c4, c5⟩
      · have hl : l = [] := by
          cases l with
          | nil => rfl
          | cons m l => unfold downX at h; rw [c4] at h; cases h
        subst hl
        unfold downX at h
        injection h with h
        subst h
        refine .inl ⟨c1, c2, ?_⟩
        unfold downX
        rw [← g2, c2, c3]
      · have hs : u.1.name = q.1.name := by simp only [sameD, Bool.and_eq_true, decide_eq_true_eq] at c3; exact c3.1.1.1.1.1.1
        have := ih hs c3 c4 c5 hc h
        unfold downX
        rw [← g2, c1]
        simp only [c2]
        exact this
theorem grow12 : grows false (rootF 1) (rootF 2) = true ∧ (rootF 1).len ≤ (rootF 2).len := by decide
theorem grow23 : grows true (rootF 2) (rootF 3) = true ∧ (rootF 2).len ≤ (rootF 3).len := by decide
/-! ### What holds of each thing -/
def apartF : SpF → Bool
  | .nil => true
  | .cons a _ r => (findX a.name r).isNone && apartF r
theorem apart_get : ∀ {f : SpF} {i j : Nat} {x y : Sp}, apartF f = true → i < j → f.get? i = some x → f.get? j = some y → x.1.name ≠ y.1.name := by
  intro f
  induction f with
  | nil => intro i j x y _ _ h; cases h
  | cons a k r _ ih =>
    intro i j x y h hij hx hy
    simp only [apartF, Bool.and_eq_true, Option.isNone_iff_eq_none] at h
    obtain ⟨m, rfl⟩ : ∃ m, j = m + 1 := ⟨j - 1, by omega⟩
    cases i with
    | zero => injection hx with hx; subst hx; exact fun e => find_none h.1 m y hy e.symm
    | succ i => exact ih h.2 (by omega) hx hy
def okB (x : Sp) : Bool := apartF x.2 && (decide (x.1.kind = 1) == decide (x.2.len = 0)) && (decide (x.1.names = []) || decide (x.1.names = [nEdge, nCore, nLab]))
theorem all_ok : (([1, 2, 3] : List Nat).all fun v => ((rootD, rootF v) :: inner (rootF v)).all okB) = true := by decide
theorem at_cases (v : Int) (l : List (List UInt8)) : (∃ e, atX v l = ((zeroD, .nil), e) ∧ (e = 22 ∨ e = 28)) ∨ (∃ x, atX v l = (x, 0) ∧ 1 ≤ v ∧ v ≤ 3 ∧ downX (rootD, rootF v.toNat) l = some x ∧ okB x = true) := by
  unfold atX
  by_cases h : v < 1 ∨ 3 < v
  · exact .inl ⟨28, by rw [if_pos h], .inr rfl⟩
  rw [if_neg h]
  cases hd : downX (rootD, rootF v.toNat) l with
  | none => exact .inl ⟨22, rfl, .inl rfl⟩
  | some x =>
    refine .inr ⟨x, rfl, by omega, by omega, rfl, ?_⟩
    have hv : v.toNat ∈ ([1, 2, 3] : List Nat) := by
      have : v.toNat = 1 ∨ v.toNat = 2 ∨ v.toNat = 3 := by omega
      simpa using this
    have h2 := List.all_eq_true.1 (List.all_eq_true.1 all_ok _ hv)
    rcases down_in hd with rfl | h
    · exact h2 _ (by simp)
    · exact h2 _ (by simp [h])

end Go.Proofs.Ytkpbjgjflabloaa
