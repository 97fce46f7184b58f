/- SpcNum TreNum PthNum TreWay DifNum -/
import Derived.Test.YtleidkpdpabkpaaGreatDoorBM2
set_option linter.unusedSimpArgs false
set_option linter.unusedVariables false
set_option maxRecDepth 100000
set_option maxHeartbeats 8000000
namespace Go.Proofs.YtleidkpdpabkpaaGreatDoor
open Go.RowKit
structure SpD where
 name : List UInt8
 kind : Nat
 typ : Nat
 low : Nat
 high : Nat
 names : List (List UInt8)
 must : Bool
 most : Nat
theorem SpD.ext_ {a b : SpD} (h1 : a.name = b.name) (h2 : a.kind = b.kind) (h3 : a.typ = b.typ) (h4 : a.low = b.low) (h5 : a.high = b.high) (h6 : a.names = b.names) (h7 : a.must = b.must) (h8 : a.most = b.most) : a = b := by
 cases a; cases b; simp_all
instance : DecidableEq SpD := fun a b => decidable_of_iff (a.name = b.name ∧ a.kind = b.kind ∧ a.typ = b.typ ∧ a.low = b.low ∧ a.high = b.high ∧ a.names = b.names ∧ a.must = b.must ∧ a.most = b.most)
 ⟨fun ⟨h1, h2, h3, h4, h5, h6, h7, h8⟩ => SpD.ext_ h1 h2 h3 h4 h5 h6 h7 h8, fun h => by subst h; exact ⟨rfl, rfl, rfl, rfl, rfl, rfl, rfl, rfl⟩⟩
abbrev SpF := Fr SpD
abbrev Sp := SpD × SpF
def nQuantum : List UInt8 := [113, 117, 97, 110, 116, 117, 109]
def nRate : List UInt8 := [114, 97, 116, 101]
def nBurst : List UInt8 := [98, 117, 114, 115, 116]
def nLimit : List UInt8 := [108, 105, 109, 105, 116]
def nDepth : List UInt8 := [100, 101, 112, 116, 104]
def nShaped : List UInt8 := [115, 104, 97, 112, 101, 100]
def nLow : List UInt8 := [108, 111, 119]
def nHigh : List UInt8 := [104, 105, 103, 104]
def nClass : List UInt8 := [99, 108, 97, 115, 115]
def nUp : List UInt8 := [117, 112]
def nRule : List UInt8 := [114, 117, 108, 101]
def nDefault : List UInt8 := [100, 101, 102, 97, 117, 108, 116]
def nKind : List UInt8 := [107, 105, 110, 100]
def nSystem : List UInt8 := [115, 121, 115, 116, 101, 109]
def nPort : List UInt8 := [112, 111, 114, 116]
def nWait : List UInt8 := [119, 97, 105, 116]
def nEdge : List UInt8 := [101, 100, 103, 101]
def nCore : List UInt8 := [99, 111, 114, 101]
def nLab : List UInt8 := [108, 97, 98]
def numD (n : List UInt8) (t lo hi : Nat) : SpD := ⟨n, 1, t, lo, hi, [], true, 0⟩
def leafD (n : List UInt8) (t : Nat) (must : Bool) : SpD := ⟨n, 1, t, 0, 0, [], must, 0⟩
def listD (n : List UInt8) (most : Nat) : SpD := ⟨n, 3, 0, 0, 0, [], false, most⟩
def kindD : SpD := ⟨nKind, 1, 4, 0, 0, [nEdge, nCore, nLab], false, 0⟩
def waitD : SpD := ⟨nWait, 1, 1, 1, 1000, [], false, 0⟩
def rootD : SpD := ⟨[], 2, 0, 0, 0, [], false, 0⟩
def zeroD : SpD := ⟨[], 0, 0, 0, 0, [], false, 0⟩
def frOf : List Sp → SpF
 | [] => .nil
 | x :: l => .cons x.1 x.2 (frOf l)
def classL (v : Nat) : List Sp :=
 [(numD nQuantum 1 1500 100000, .nil), (numD nRate 2 0 1000000, .nil), (numD nBurst 1 1500 1000000, .nil)] ++ [(numD (if v < 3 then nLimit else nDepth) 1 1 64, .nil)] ++ (if 1 < v then [(leafD nShaped 3 true, .nil)] else [])
def ruleL : List Sp := [(numD nLow 1 0 65535, .nil), (numD nHigh 1 0 65535, .nil), (leafD nClass 6 true, .nil)]
def portL (v : Nat) : List Sp :=
 [(leafD nUp 3 false, .nil), (listD nClass 8, frOf (classL v)), (listD nRule 16, frOf ruleL), (leafD nDefault 6 true, .nil)] ++ (if 1 < v then [(kindD, .nil)] else [])
def rootL (v : Nat) : List Sp := [(leafD nSystem 5 false, .nil), (listD nPort 4, frOf (portL v))] ++ (if 2 < v then [(waitD, .nil)] else [])
def rootF (v : Nat) : SpF := frOf (rootL v)
def rootX (v : Int) : Sp × Nat := if v < 1 ∨ 3 < v then ((zeroD, .nil), 28) else ((rootD, rootF v.toNat), 0)
def findX (n : List UInt8) : SpF → Option Nat
 | .nil => none
 | .cons a _ r => if a.name = n then some 0 else (findX n r).map (· + 1)
def findI (n : List UInt8) (f : SpF) : Int := match findX n f with
 | none => -1
 | some i => (i : Int)
theorem find_some {n : List UInt8} : ∀ {f : SpF} {i : Nat}, findX n f = some i → ∃ x, f.get? i = some x ∧ x.1.name = n ∧ ∀ j y, j < i → f.get? j = some y → y.1.name ≠ n := by
 intro f
 induction f with
 | nil => intro i h; cases h
 | cons a k r _ ih =>
  intro i h
  unfold findX at h
  by_cases e : a.name = n
  ·rw [if_pos e] at h
   injection h with h
   subst h
   exact ⟨(a, k), rfl, e, fun j y hj => by omega⟩
  ·rw [if_neg e] at h
   cases hr : findX n r with
   | none => rw [hr] at h; cases h
   | some m =>
    rw [hr] at h
    have h : m + 1 = i := by injection h
    subst h
    obtain ⟨x, h1, h2, h3⟩ := ih hr
    refine ⟨x, h1, h2, fun j y hj hy => ?_⟩
    cases j with
    | zero => injection hy with hy; subst hy; exact e
    | succ j => exact h3 j y (by omega) hy
theorem find_none {n : List UInt8} : ∀ {f : SpF}, findX n f = none → ∀ j y, f.get? j = some y → y.1.name ≠ n := by
 intro f
 induction f with
 | nil => intro _ j y h; cases h
 | cons a k r _ ih =>
  intro h j y hy
  unfold findX at h
  by_cases e : a.name = n
  ·rw [if_pos e] at h; cases h
  ·rw [if_neg e] at h
   cases hr : findX n r with
   | some m => rw [hr] at h; cases h
   | none =>
    cases j with
    | zero => injection hy with hy; subst hy; exact e
    | succ j => exact ih hr j y hy
theorem find_is {n : List UInt8} {f : SpF} {i : Nat} {x : Sp} (h1 : f.get? i = some x) (h2 : x.1.name = n) (h3 : ∀ j y, j < i → f.get? j = some y → y.1.name ≠ n) : findX n f = some i := by
 cases h : findX n f with
 | none => exact absurd h2 (find_none h i x h1)
 | some m =>
  obtain ⟨y, g1, g2, g3⟩ := find_some h
  rcases Nat.lt_trichotomy i m with hl | rfl | hl
  ·exact absurd h2 (g3 i x hl h1)
  ·rfl
  ·exact absurd g2 (h3 m y hl g1)
theorem find_no {n : List UInt8} {f : SpF} (h : ∀ j y, f.get? j = some y → y.1.name ≠ n) : findX n f = none := by
 cases hf : findX n f with
 | none => rfl
 | some m =>
  obtain ⟨y, g1, g2, _⟩ := find_some hf
  exact absurd g2 (h m y g1)
def inner : SpF → List Sp
 | .nil => []
 | .cons a k r => (a, k) :: (inner k ++ inner r)
theorem inner_get : ∀ {f : SpF} {i : Nat} {x : Sp}, f.get? i = some x → x ∈ inner f := by
 intro f
 induction f with
 | nil => intro i x h; cases h
 | cons a k r _ ih =>
  intro i x h
  cases i with
  | zero => injection h with h; subst h; simp [inner]
  | succ i => have := ih h; simp only [inner, List.mem_cons, List.mem_append]; exact .inr (.inr this)
theorem inner_in : ∀ {f : SpF} {x y : Sp}, x ∈ inner f → y ∈ inner x.2 → y ∈ inner f := by
 intro f
 induction f with
 | nil => intro x y h; cases h
 | cons a k r ihk ihr =>
  intro x y h hy
  simp only [inner, List.mem_cons, List.mem_append] at h ⊢
  rcases h with rfl | h | h
  ·exact .inr (.inl hy)
  ·exact .inr (.inl (ihk h hy))
  ·exact .inr (.inr (ihr h hy))
abbrev cS (n : ByteArray) (k t l h : Int) (N : Value) (m : Bool) (o : Int) (K : Value) : Array Value := #[.string n, .int .i64 k, .int .i64 t, .int .u64 l, .int .u64 h, N, .bool m, .int .i64 o, K]
abbrev cT (nm : List UInt8) (kd ty lo hi : Nat) (ns : List (List UInt8)) (mu : Bool) (mo : Nat) (B : Option Addr) (m : Nat) (A : Option Addr) (kn c : Nat) : Array Value := cS (txt nm) kd ty lo hi (.slice B ns.length m) mu mo (.slice A kn c)
abbrev ltY (a b : List UInt8) : Bool := Go.Op.bytesLess a b
theorem ltB_nil (a : List UInt8) : ltY a [] = false := by cases a <;> rfl
theorem ltB_cons (x y : UInt8) (a b : List UInt8) : ltY (x :: a) (y :: b) = true ↔ x.toNat < y.toNat ∨ (x = y ∧ ltY a b = true) := by
 have h : ltY (x :: a) (y :: b) = (decide (x < y) || (x == y && ltY a b)) := rfl
 rw [h]
 simp [UInt8.lt_iff_toNat_lt]
theorem ltB_trans : ∀ a b c : List UInt8, ltY a b = true → ltY b c = true → ltY a c = true := by
 intro a
 induction a with
 | nil =>
  intro b c h1 h2
  cases c with
  | nil => rw [ltB_nil] at h2; cases h2
  | cons => rfl
 | cons x a ih =>
  intro b c h1 h2
  cases b with
  | nil => rw [ltB_nil] at h1; cases h1
  | cons y b =>
   cases c with
   | nil => rw [ltB_nil] at h2; cases h2
   | cons z c =>
    rw [ltB_cons] at h1 h2 ⊢
    rcases h1 with h1 | ⟨rfl, h1⟩
    ·rcases h2 with h2 | ⟨rfl, h2⟩
     ·exact .inl (by omega)
     ·exact .inl h1
    ·rcases h2 with h2 | ⟨rfl, h2⟩
     ·exact .inl h2
     ·exact .inr ⟨rfl, ih b c h1 h2⟩
theorem ltB_total : ∀ a b : List UInt8, a ≠ b → ltY a b = true ∨ ltY b a = true := by
 intro a
 induction a with
 | nil =>
  intro b h
  cases b with
  | nil => exact absurd rfl h
  | cons => exact .inl rfl
 | cons x a ih =>
  intro b h
  cases b with
  | nil => exact .inr rfl
  | cons y b =>
   rw [ltB_cons, ltB_cons]
   by_cases hx : x = y
   ·subst hx
    rcases ih b (fun e => h (by rw [e])) with h1 | h1
    ·exact .inl (.inr ⟨rfl, h1⟩)
    ·exact .inr (.inr ⟨rfl, h1⟩)
   ·have : x.toNat ≠ y.toNat := fun e => hx (UInt8.toNat_inj.1 e)
    rcases Nat.lt_or_gt_of_ne this with h1 | h1
    ·exact .inl (.inl h1)
    ·exact .inr (.inl h1)
structure NdD where
 name : List UInt8
 key : List UInt8
 kind : Int
 num : Nat
 text : List UInt8
theorem NdD.ext_ {a b : NdD} (h1 : a.name = b.name) (h2 : a.key = b.key) (h3 : a.kind = b.kind) (h4 : a.num = b.num) (h5 : a.text = b.text) : a = b := by
 cases a; cases b; simp_all
instance : DecidableEq NdD := fun a b => decidable_of_iff (a.name = b.name ∧ a.key = b.key ∧ a.kind = b.kind ∧ a.num = b.num ∧ a.text = b.text)
 ⟨fun ⟨h1, h2, h3, h4, h5⟩ => NdD.ext_ h1 h2 h3 h4 h5, fun h => by subst h; exact ⟨rfl, rfl, rfl, rfl, rfl⟩⟩
abbrev NdF := Fr NdD
abbrev Nd := NdD × NdF
abbrev Stp := List UInt8 × List UInt8
abbrev zeroT : NdD := ⟨[], [], 0, 0, []⟩
abbrev noN : Nd := (zeroT, .nil)
def stp (a : NdD) : Stp := (a.name, a.key)
def lessS (s t : Stp) : Bool := ltY s.1 t.1 || (decide (s.1 = t.1) && ltY s.2 t.2)
def lessX (a b : NdD) : Bool := lessS (stp a) (stp b)
theorem lessS_iff (s t : Stp) : lessS s t = true ↔ ltY s.1 t.1 = true ∨ (s.1 = t.1 ∧ ltY s.2 t.2 = true) := by simp [lessS]
theorem lessS_trans {s t u : Stp} (h1 : lessS s t = true) (h2 : lessS t u = true) : lessS s u = true := by
 rw [lessS_iff] at h1 h2 ⊢
 rcases h1 with h1 | ⟨e, h1⟩
 ·rcases h2 with h2 | ⟨e2, h2⟩
  ·exact .inl (ltB_trans _ _ _ h1 h2)
  ·exact .inl (e2 ▸ h1)
 ·rcases h2 with h2 | ⟨e2, h2⟩
  ·exact .inl (e ▸ h2)
  ·exact .inr ⟨e.trans e2, ltB_trans _ _ _ h1 h2⟩
theorem lessS_total {s t : Stp} (h : s ≠ t) : lessS s t = true ∨ lessS t s = true := by
 rw [lessS_iff, lessS_iff]
 by_cases e : s.1 = t.1
 ·have h2 : s.2 ≠ t.2 := fun e2 => h (Prod.ext e e2)
  rcases ltB_total _ _ h2 with h3 | h3
  ·exact .inl (.inr ⟨e, h3⟩)
  ·exact .inr (.inr ⟨e.symm, h3⟩)
 ·rcases ltB_total _ _ e with h3 | h3
  ·exact .inl (.inl h3)
  ·exact .inr (.inl h3)
def hdLess (a : NdD) : NdF → Bool
 | .nil => true
 | .cons b _ _ => lessX a b
def rgtF : NdF → Bool
 | .nil => true
 | .cons a k r => ((if a.kind ≠ 0 then decide (k.len = 0) else (decide (a.num = 0) && decide (a.text = []) && rgtF k)) && hdLess a r) && rgtF r
def rgtX (x : Nd) : Bool := if x.1.kind ≠ 0 then decide (x.2.len = 0) else (decide (x.1.num = 0) && decide (x.1.text = []) && rgtF x.2)
theorem rightF_cons (a : NdD) (k r : NdF) : rgtF (.cons a k r) = (rgtX (a, k) && hdLess a r && rgtF r) := rfl
def sizeX (x : Nd) : Nat := x.2.size + 1
def allGt (s : Stp) : NdF → Prop
 | .nil => True
 | .cons a _ r => lessS s (stp a) = true ∧ allGt s r
theorem allGt.mono {s t : Stp} (h : lessS s t = true) : ∀ {f : NdF}, allGt t f → allGt s f := by
 intro f
 induction f with
 | nil => intro _; trivial
 | cons a k r _ ih => intro ⟨h1, h2⟩; exact ⟨lessS_trans h h1, ih h2⟩
def okAt (f : NdF) (i : Nat) : Bool := match f.get? i with
 | none => true
 | some y => rgtX y && (match i with | 0 => true | j + 1 => match f.get? j with | none => true | some z => lessX z.1 y.1)
theorem right_at : ∀ {f : NdF}, rgtF f = true ↔ ∀ i, i < f.len → okAt f i = true := by
 intro f
 induction f with
 | nil => exact ⟨fun _ i h => by simp [Fr.len] at h, fun _ => rfl⟩
 | cons a k r _ ih =>
  rw [rightF_cons]
  simp only [Bool.and_eq_true]
  constructor
  ·intro ⟨⟨h1, h2⟩, h3⟩ i hi
   cases i with
   | zero => simp [okAt, Fr.get?, h1]
   | succ i =>
    have h4 := ih.1 h3 i (by simp only [Fr.len] at hi; omega)
    cases i with
    | zero =>
     cases r with
     | nil => simp [Fr.len] at hi
     | cons b q s => simp only [okAt, Fr.get?, Bool.and_true] at h4 ⊢; simp only [hdLess] at h2; rw [h4, h2]; rfl
    | succ j => simpa [okAt, Fr.get?] using h4
  ·intro h
   refine ⟨⟨?_, ?_⟩, ih.2 fun i hi => ?_⟩
   ·have := h 0 (by simp [Fr.len])
    simpa [okAt, Fr.get?] using this
   ·cases r with
    | nil => rfl
    | cons b q s =>
     have := h 1 (by simp [Fr.len])
     simp only [okAt, Fr.get?, Bool.and_eq_true] at this
     exact this.2
   ·have h4 := h (i + 1) (by simp only [Fr.len]; omega)
    cases i with
    | zero =>
     cases r with
     | nil => simp [Fr.len] at hi
     | cons b q s => simp only [okAt, Fr.get?, Bool.and_eq_true] at h4 ⊢; simp [h4.1]
    | succ j => simpa [okAt, Fr.get?] using h4
theorem right_none {f : NdF} {i : Nat} (hi : i < f.len) (h : okAt f i = false) : rgtF f = false := by
 cases h2 : rgtF f with
 | false => rfl
 | true => rw [right_at.1 h2 i hi] at h; cases h
def findN (s : Stp) : NdF → Option Nat
 | .nil => none
 | .cons a _ r => if stp a = s then some 0 else (findN s r).map (· + 1)
def findIx (s : Stp) (f : NdF) : Int := match findN s f with
 | none => -1
 | some i => (i : Int)
def gtF (s : Stp) : NdF → Option Nd
 | .nil => none
 | .cons a k r => if stp a = s then some (a, k) else gtF s r
theorem find_get {s : Stp} : ∀ {f : NdF}, gtF s f = (findN s f).bind f.get? := by
 intro f
 induction f with
 | nil => rfl
 | cons a k r _ ih =>
  simp only [gtF, findN]
  split
  ·rfl
  ·rw [ih]
   cases findN s r <;> rfl
theorem find_stp {s : Stp} : ∀ {f : NdF} {i : Nat}, findN s f = some i → ∃ y, f.get? i = some y ∧ stp y.1 = s ∧ gtF s f = some y := by
 intro f
 induction f with
 | nil => intro i h; cases h
 | cons a k r _ ih =>
  intro i h
  simp only [findN] at h
  split at h
  ·injection h with h; subst h; rename_i e; exact ⟨(a, k), rfl, e, by simp [gtF, e]⟩
  ·rename_i e
   cases hr : findN s r with
   | none => rw [hr] at h; cases h
   | some j =>
    rw [hr] at h
    injection h with h
    subst h
    obtain ⟨y, h1, h2, h3⟩ := ih hr
    exact ⟨y, h1, h2, by simp [gtF, e, h3]⟩
theorem findN_none {s : Stp} {f : NdF} (h : findN s f = none) : gtF s f = none := by rw [find_get, h]; rfl
theorem find_lt {s : Stp} : ∀ {f : NdF} {i : Nat}, (∀ j, j < i → ∀ y, f.get? j = some y → stp y.1 ≠ s) → (∃ y, f.get? i = some y ∧ stp y.1 = s) → findN s f = some i := by
 intro f
 induction f with
 | nil => intro i _ ⟨y, h, _⟩; cases h
 | cons a k r _ ih =>
  intro i h1 ⟨y, h2, h3⟩
  cases i with
  | zero =>
   injection h2 with h2
   subst h2
   simp [findN, h3]
  | succ i =>
   have h4 := h1 0 (by omega) (a, k) rfl
   have h5 := ih (i := i) (fun j hj y hy => h1 (j + 1) (by omega) y hy) ⟨y, h2, h3⟩
   simp only [findN]
   rw [if_neg h4, h5]
   rfl
theorem find_out {s : Stp} : ∀ {f : NdF}, (∀ j, j < f.len → ∀ y, f.get? j = some y → stp y.1 ≠ s) → findN s f = none := by
 intro f
 induction f with
 | nil => intro _; rfl
 | cons a k r _ ih =>
  intro h
  simp only [findN]
  rw [if_neg (h 0 (by simp [Fr.len]) (a, k) rfl), ih (fun j hj y hy => h (j + 1) (by simp only [Fr.len]; omega) y hy)]
  rfl
def okS (s : Stp) : Bool := identX s.1 && (identX s.2 || s.2.isEmpty)
def stepT (s : Stp) : List UInt8 := 47 :: (s.1 ++ (if identX s.2 = true then 91 :: (s.2 ++ [93]) else []))
def catT : List Stp → List UInt8
 | [] => []
 | s :: l => stepT s ++ catT l
theorem catT_app (l m : List Stp) : catT (l ++ m) = catT l ++ catT m := by
 induction l with
 | nil => rfl
 | cons s l ih => simp only [List.cons_append, catT, ih, List.append_assoc]
theorem catT_nil {l : List Stp} (h : catT l = []) : l = [] := by
 cases l with
 | nil => rfl
 | cons s l => simp [catT, stepT] at h
def showX (l : List Stp) : List UInt8 := if l.all okS = true then (if l = [] then [47] else if 6 < l.length then [] else catT l) else []
def stepX : List UInt8 → (Stp × Nat) ⊕ (Nat × Nat)
 | [] => .inr (21, 0)
 | c :: t =>
  let n := t.takeWhile nmB
  if identX n = false then .inr (22, 1)
  else match t.drop n.length with
   | [] => .inl ((n, []), 1 + n.length)
   | d :: v => if d = 91 then
      let k := v.takeWhile nmB
      if identX k = false then .inr (22, 1 + n.length + 1)
      else match v.drop k.length with
       | [] => .inr (21, 1 + n.length + 1 + k.length)
       | e :: _ => if e = 93 then .inl ((n, k), 1 + n.length + 1 + k.length + 1) else .inr (21, 1 + n.length + 1 + k.length)
     else .inl ((n, []), 1 + n.length)
def runX : Nat → List Stp → Nat → List UInt8 → List Stp × Nat × Nat
 | 0, out, _, _ => (out, 0, 0)
 | f + 1, out, at_, r => if r = [] then (out, 0, 0) else if r.head? ≠ some 47 then ([], 21, at_) else if out.length = 6 then ([], 13, at_) else
   match stepX r with
   | .inr (e, o) => ([], e, at_ + o)
   | .inl (s, n) => runX f (out ++ [s]) (at_ + n) (r.drop n)
def parseX15 (s : List UInt8) : List Stp × Nat × Nat := if s = [47] then ([], 0, 0) else if s = [] then ([], 21, 0) else runX s.length [] 0 s
theorem take_all_ {p : UInt8 → Bool} {a : List UInt8} (h : a.all p = true) {b : List UInt8} (hb : ∀ c, b.head? = some c → p c = false) : (a ++ b).takeWhile p = a := by
 induction a with
 | nil =>
  cases b with
  | nil => rfl
  | cons c b => rw [List.nil_append, List.takeWhile_cons, hb c rfl]; rfl
 | cons x a ih =>
  simp only [List.all_cons, Bool.and_eq_true] at h
  rw [List.cons_append, List.takeWhile_cons, h.1]
  simp only [if_true]
  rw [ih h.2]
theorem drop_len_ (a b : List UInt8) : (a ++ b).drop a.length = b := by rw [List.drop_left]
theorem ident_all {s : List UInt8} (h : identX s = true) : s.all nmB = true := by
 cases s with
 | nil => rfl
 | cons c r =>
  simp only [identX, Bool.and_eq_true, decide_eq_true_eq] at h
  simp only [List.all_cons, h.1.2, sm_nm h.1.1, Bool.and_self]
theorem ident_ne15 {s : List UInt8} (h : identX s = true) : s ≠ [] := fun e => by subst e; simp [identX] at h
theorem nm47 : nmB 47 = false := by decide
theorem nm91 : nmB 91 = false := by decide
theorem nm93 : nmB 93 = false := by decide
def nextX (r : List UInt8) : Prop := r = [] ∨ r.head? = some 47
theorem nextX.nm {r : List UInt8} (h : nextX r) : ∀ c, r.head? = some c → nmB c = false := by
 intro c hc
 rcases h with rfl | h
 ·cases hc
 ·rw [h] at hc; injection hc with hc; subst hc; exact nm47
theorem stepX_text {s : Stp} (h : okS s = true) {r : List UInt8} (hr : nextX r) : stepX (stepT s ++ r) = .inl (s, (stepT s).length) := by
 obtain ⟨n, k⟩ := s
 unfold okS at h
 simp only [Bool.and_eq_true, Bool.or_eq_true] at h
 obtain ⟨hn, hk⟩ := h
 by_cases hik : identX k = true
 ·unfold stepT
  simp only [if_pos hik]
  rw [List.cons_append, List.append_assoc, List.cons_append, List.append_assoc]
  have e1 : (n ++ 91 :: (k ++ ([93] ++ r))).takeWhile nmB = n := take_all_ (ident_all hn) (fun c hc => by injection hc with hc; subst hc; exact nm91)
  have e2 : (k ++ ([93] ++ r)).takeWhile nmB = k := take_all_ (ident_all hik) (fun c hc => by injection hc with hc; subst hc; exact nm93)
  unfold stepX
  simp only [e1, hn, drop_len_]
  simp only [e2, hik, drop_len_]
  simp only [List.cons_append, List.nil_append, if_true, Bool.true_eq_false, if_false, List.length_cons, List.length_append, List.length_nil]
  congr 2
  omega
 ·have hik' : identX k = false := by simpa using hik
  have hke : k = [] := by
   rcases hk with hk | hk
   ·exact absurd hk hik
   ·simpa using hk
  subst hke
  unfold stepT
  simp only [if_neg hik, List.append_nil]
  rw [List.cons_append]
  have e1 : (n ++ r).takeWhile nmB = n := take_all_ (ident_all hn) hr.nm
  unfold stepX
  simp only [e1, hn, drop_len_]
  rcases hr with rfl | hr
  ·simp only [Bool.true_eq_false, if_false, List.length_cons]
   congr 2
   omega
  ·cases r with
   | nil => cases hr
   | cons c r =>
    injection hr with hr
    subst hr
    have : ¬ (47 : UInt8) = 91 := by decide
    simp only [Bool.true_eq_false, if_false, this, List.length_cons]
    congr 2
    omega
theorem cat_next (l : List Stp) {r : List UInt8} (hr : nextX r) : nextX (catT l ++ r) := by
 cases l with
 | nil => exact hr
 | cons s l => exact .inr (by simp [catT, stepT])
theorem runX_cat : ∀ (l : List Stp) (f : Nat) (out : List Stp) (at_ : Nat) (r : List UInt8), l.all okS = true → nextX r → out.length + l.length ≤ 6 → l.length ≤ f →
  runX f out at_ (catT l ++ r) = runX (f - l.length) (out ++ l) (at_ + (catT l).length) r := by
 intro l
 induction l with
 | nil => intro f out at_ r _ _ _ _; simp [catT]
 | cons s l ih =>
  intro f out at_ r hl hr h6 hf
  simp only [List.all_cons, Bool.and_eq_true] at hl
  obtain ⟨g, rfl⟩ : ∃ g, f = g + 1 := ⟨f - 1, by simp at hf; omega⟩
  have h1 : catT (s :: l) ++ r = stepT s ++ (catT l ++ r) := by simp only [catT, List.append_assoc]
  rw [h1]
  have hx := stepX_text hl.1 (cat_next l hr)
  have hne : stepT s ++ (catT l ++ r) ≠ [] := by simp [stepT]
  have hhd : (stepT s ++ (catT l ++ r)).head? = some 47 := by simp [stepT]
  conv => lhs; unfold runX
  rw [if_neg hne, if_neg (by rw [hhd]; simp), if_neg (by simp at h6; omega), hx]
  simp only [drop_len_]
  rw [ih g (out ++ [s]) _ r hl.2 hr (by simp at h6 ⊢; omega) (by simp at hf; omega)]
  simp only [catT, List.length_append, List.append_assoc, List.cons_append, List.nil_append, List.length_cons]
  rw [show g + 1 - (l.length + 1) = g - l.length by omega, Nat.add_assoc]
theorem cat_len (l : List Stp) : l.length ≤ (catT l).length := by
 induction l with
 | nil => exact Nat.le_refl _
 | cons s l ih => simp only [catT, stepT, List.length_cons, List.length_append]; omega
theorem runX_nil (f : Nat) (out : List Stp) (at_ : Nat) : runX f out at_ [] = (out, 0, 0) := by
 cases f with
 | zero => rfl
 | succ f => unfold runX; rw [if_pos rfl]
theorem parse_show {l : List Stp} (h : showX l ≠ []) : parseX15 (showX l) = (l, 0, 0) := by
 unfold showX at h ⊢
 by_cases ha : l.all okS = true
 ·rw [if_pos ha] at h ⊢
  by_cases h0 : l = []
  ·subst h0; rfl
  rw [if_neg h0] at h ⊢
  by_cases h6 : 6 < l.length
  ·rw [if_pos h6] at h; exact absurd rfl h
  rw [if_neg h6] at h ⊢
  have h1 : catT l ≠ [47] := by
   cases l with
   | nil => exact absurd rfl h0
   | cons s l =>
    intro e
    simp only [List.all_cons, Bool.and_eq_true] at ha
    have := ha.1
    unfold okS at this
    simp only [Bool.and_eq_true] at this
    have hn := ident_len this.1
    have hlen := congrArg List.length e
    simp only [catT, stepT, List.length_cons, List.length_append, List.length_nil] at hlen
    omega
  unfold parseX15
  rw [if_neg h1, if_neg h]
  have hr := runX_cat l (catT l).length [] 0 [] ha (.inl rfl) (by simp; omega) (cat_len l)
  rw [List.append_nil] at hr
  rw [hr, runX_nil, List.nil_append]
 ·rw [if_neg ha] at h; exact absurd rfl h
theorem take_split (r : List UInt8) : r = r.takeWhile nmB ++ r.drop (r.takeWhile nmB).length := by
 induction r with
 | nil => rfl
 | cons c r ih =>
  rw [List.takeWhile_cons]
  by_cases h : nmB c = true
  ·rw [if_pos h]
   simp only [List.cons_append, List.length_cons, List.drop_succ_cons]
   rw [← ih]
  ·rw [if_neg h]; rfl
theorem stepX_ok {r : List UInt8} {s : Stp} {n : Nat} (hr : r.head? = some 47) (h : stepX r = .inl (s, n)) : okS s = true ∧ r = stepT s ++ r.drop n ∧ n = (stepT s).length ∧ n ≤ r.length := by
 cases r with
 | nil => cases hr
 | cons c t =>
  injection hr with hr
  subst hr
  unfold stepX at h
  simp only at h
  have ht := take_split t
  generalize t.takeWhile nmB = a at h ht
  by_cases hi : identX a = false
  ·rw [if_pos hi] at h; cases h
  rw [if_neg hi] at h
  have hi' : identX a = true := by simpa using hi
  generalize t.drop a.length = u at h ht
  subst ht
  cases u with
  | nil =>
   simp only at h
   injection h with h
   injection h with h1 h2
   subst h1 h2
   have e : stepT (a, []) = 47 :: a := by simp [stepT, identX]
   refine ⟨by simp [okS, hi'], ?_, by rw [e]; simp; omega, by simp; omega⟩
   rw [e, List.append_nil, Nat.add_comm, List.drop_succ_cons, List.drop_length, List.append_nil]
  | cons d v =>
   simp only at h
   by_cases hd : d = 91
   ·subst hd
    rw [if_pos rfl] at h
    have hv := take_split v
    generalize v.takeWhile nmB = k at h hv
    by_cases hk : identX k = false
    ·rw [if_pos hk] at h; cases h
    rw [if_neg hk] at h
    have hk' : identX k = true := by simpa using hk
    generalize v.drop k.length = x at h hv
    subst hv
    cases x with
    | nil => cases h
    | cons e y =>
     simp only at h
     by_cases he : e = 93
     ·subst he
      rw [if_pos rfl] at h
      injection h with h
      injection h with h1 h2
      subst h1 h2
      have e : stepT (a, k) = 47 :: (a ++ 91 :: (k ++ [93])) := by simp [stepT, hk']
      have e2 : (47 :: (a ++ 91 :: (k ++ 93 :: y))) = stepT (a, k) ++ y := by rw [e]; simp
      have e3 : (stepT (a, k)).length = 1 + a.length + 1 + k.length + 1 := by rw [e]; simp; omega
      refine ⟨by simp [okS, hi', hk'], ?_, e3.symm, by rw [e2, List.length_append]; omega⟩
      rw [e2, ← e3, List.drop_left]
     ·rw [if_neg he] at h; cases h
   ·rw [if_neg hd] at h
    injection h with h
    injection h with h1 h2
    subst h1 h2
    have e : stepT (a, []) = 47 :: a := by simp [stepT, identX]
    have e2 : (47 :: (a ++ d :: v)) = stepT (a, []) ++ (d :: v) := by rw [e]; simp
    have e3 : (stepT (a, [])).length = 1 + a.length := by rw [e]; simp; omega
    refine ⟨by simp [okS, hi'], ?_, e3.symm, by rw [e2, List.length_append]; omega⟩
    rw [e2, ← e3, List.drop_left]
theorem stepX_bad {r : List UInt8} {e o : Nat} (hr : r ≠ []) (h : stepX r = .inr (e, o)) : (e = 21 ∨ e = 22) ∧ o ≤ r.length := by
 cases r with
 | nil => exact absurd rfl hr
 | cons c t =>
  unfold stepX at h
  simp only at h
  have ht := take_split t
  generalize t.takeWhile nmB = a at h ht
  by_cases hi : identX a = false
  ·rw [if_pos hi] at h
   injection h with h
   injection h with h1 h2
   subst h1 h2
   exact ⟨.inr rfl, by simp⟩
  rw [if_neg hi] at h
  generalize t.drop a.length = u at h ht
  subst ht
  cases u with
  | nil => cases h
  | cons d v =>
   simp only at h
   by_cases hd : d = 91
   ·rw [if_pos hd] at h
    have hv := take_split v
    generalize v.takeWhile nmB = k at h hv
    by_cases hk : identX k = false
    ·rw [if_pos hk] at h
     injection h with h
     injection h with h1 h2
     subst h1 h2
     exact ⟨.inr rfl, by simp; omega⟩
    rw [if_neg hk] at h
    generalize v.drop k.length = x at h hv
    subst hv
    cases x with
    | nil =>
     injection h with h
     injection h with h1 h2
     subst h1 h2
     exact ⟨.inl rfl, by simp; omega⟩
    | cons e y =>
     simp only at h
     by_cases he : e = 93
     ·rw [if_pos he] at h; cases h
     ·rw [if_neg he] at h
      injection h with h
      injection h with h1 h2
      subst h1 h2
      exact ⟨.inl rfl, by simp; omega⟩
   ·rw [if_neg hd] at h; cases h
theorem runX_sound : ∀ (f : Nat) (out : List Stp) (at_ : Nat) (r : List UInt8) (w : List Stp) (e a : Nat), out.length ≤ 6 → r.length ≤ f → runX f out at_ r = (w, e, a) →
  (e = 0 ∧ a = 0 ∧ w.length ≤ 6 ∧ ∃ l, w = out ++ l ∧ l.all okS = true ∧ r = catT l) ∨ (e ≠ 0 ∧ w = [] ∧ at_ ≤ a ∧ a ≤ at_ + r.length) := by
 intro f
 induction f with
 | zero =>
  intro out at_ r w e a h6 hr h
  have hr0 : r = [] := List.eq_nil_of_length_eq_zero (by omega)
  subst hr0
  unfold runX at h
  injection h with h1 h
  injection h with h2 h3
  subst h1 h2 h3
  exact .inl ⟨rfl, rfl, h6, [], by simp, rfl, rfl⟩
 | succ f ih =>
  intro out at_ r w e a h6 hr h
  unfold runX at h
  by_cases h0 : r = []
  ·rw [if_pos h0] at h
   injection h with h1 h
   injection h with h2 h3
   subst h1 h2 h3 h0
   exact .inl ⟨rfl, rfl, h6, [], by simp, rfl, rfl⟩
  rw [if_neg h0] at h
  by_cases h1 : r.head? ≠ some 47
  ·rw [if_pos h1] at h
   injection h with h1 h
   injection h with h2 h3
   subst h1 h2 h3
   exact .inr ⟨by decide, rfl, Nat.le_refl _, by omega⟩
  rw [if_neg h1] at h
  have h1' : r.head? = some 47 := Decidable.not_not.1 h1
  by_cases h2 : out.length = 6
  ·rw [if_pos h2] at h
   injection h with h1 h
   injection h with h2 h3
   subst h1 h2 h3
   exact .inr ⟨by decide, rfl, Nat.le_refl _, by omega⟩
  rw [if_neg h2] at h
  cases hx : stepX r with
  | inr p =>
   obtain ⟨e', o⟩ := p
   rw [hx] at h
   simp only at h
   injection h with g1 h
   injection h with g2 g3
   subst g1 g2 g3
   obtain ⟨k1, k2⟩ := stepX_bad h0 hx
   exact .inr ⟨by rcases k1 with rfl | rfl <;> decide, rfl, by omega, by omega⟩
  | inl p =>
   obtain ⟨s, n⟩ := p
   rw [hx] at h
   simp only at h
   obtain ⟨k1, k2, k3, k4⟩ := stepX_ok h1' hx
   have hn1 : 1 ≤ n := by rw [k3]; simp [stepT]
   rcases ih (out ++ [s]) (at_ + n) (r.drop n) w e a (by simp; omega) (by rw [List.length_drop]; omega) h with ⟨e0, a0, w6, l, hw, hl, hc⟩ | ⟨e0, w0, a1, a2⟩
   ·refine .inl ⟨e0, a0, w6, s :: l, by rw [hw]; simp, by simp [k1, hl], ?_⟩
    rw [catT, ← hc]
    exact k2
   ·rw [List.length_drop] at a2
    exact .inr ⟨e0, w0, by omega, by omega⟩
theorem parse_ways (s : List UInt8) : (∃ w, parseX15 s = (w, 0, 0) ∧ w.all okS = true ∧ w.length ≤ 6 ∧ showX w = s) ∨ (∃ e a, parseX15 s = ([], e, a) ∧ e ≠ 0 ∧ a ≤ s.length) := by
 by_cases h1 : s = [47]
 ·subst h1; exact .inl ⟨[], rfl, rfl, by simp, rfl⟩
 by_cases h2 : s = []
 ·subst h2; exact .inr ⟨21, 0, rfl, by decide, by simp⟩
 unfold parseX15
 rw [if_neg h1, if_neg h2]
 obtain ⟨w, e, a, h⟩ : ∃ w e a, runX s.length [] 0 s = (w, e, a) := ⟨_, _, _, rfl⟩
 rcases runX_sound s.length [] 0 s w e a (by simp) (Nat.le_refl _) h with ⟨rfl, rfl, w6, l, hw, hl, hc⟩ | ⟨e0, rfl, _, a2⟩
 ·rw [List.nil_append] at hw
  subst hw
  refine .inl ⟨w, h, hl, w6, ?_⟩
  unfold showX
  rw [if_pos hl, if_neg (fun e => by subst e; exact h2 hc), if_neg (by omega), hc]
 ·exact .inr ⟨e, a, h, e0, by omega⟩
theorem show_bad {l : List Stp} {s : Stp} (hs : s ∈ l) (h : okS s = false) : showX l = [] := by
 unfold showX
 rw [if_neg]
 intro e
 rw [List.all_eq_true] at e
 rw [e s hs] at h
 cases h
def getX : Nd → List Stp → Option Nd
 | x, [] => some x
 | x, s :: l => match gtF s x.2 with
  | none => none
  | some y => getX y l
def GetX (x : Nd) (l : List Stp) : Nd × Bool := match getX x l with
 | some y => (y, true)
 | none => (noN, false)
def parts : List Stp → List Stp → Prop
 | s :: a, t :: b => s ≠ t ∨ parts a b
 | _, _ => False
structure EdD where
 kind : Int
 way : List Stp
 node : Nd
 old : Nd
theorem EdD.ext_ {a b : EdD} (h1 : a.kind = b.kind) (h2 : a.way = b.way) (h3 : a.node = b.node) (h4 : a.old = b.old) : a = b := by
 cases a; cases b; simp_all
instance : DecidableEq EdD := fun a b => decidable_of_iff (a.kind = b.kind ∧ a.way = b.way ∧ a.node = b.node ∧ a.old = b.old)
 ⟨fun ⟨h1, h2, h3, h4⟩ => EdD.ext_ h1 h2 h3 h4, fun h => by subst h; exact ⟨rfl, rfl, rfl, rfl⟩⟩
abbrev delE (w : List Stp) (y : Nd) : EdD := ⟨2, w, noN, y⟩
abbrev newE (w : List Stp) (y : Nd) : EdD := ⟨1, w, y, noN⟩
def edF : NdF → NdF → List Stp → List EdD
 | .nil, .nil, _ => []
 | .cons a k r, .nil, w => delE (w ++ [stp a]) (a, k) :: edF r .nil w
 | .nil, .cons b q s, w => newE (w ++ [stp b]) (b, q) :: edF .nil s w
 | .cons a k r, .cons b q s, w =>
  if lessX a b = true then delE (w ++ [stp a]) (a, k) :: edF r (.cons b q s) w
  else if lessX b a = true then newE (w ++ [stp b]) (b, q) :: edF (.cons a k r) s w
  else (if a = b ∧ k = q then [] else if a.kind ≠ 0 ∧ b.kind ≠ 0 then [⟨3, w ++ [stp a], (b, q), (a, k)⟩]
   else if a.kind = 0 ∧ b.kind = 0 then edF k q (w ++ [stp a]) else [delE (w ++ [stp a]) (a, k), newE (w ++ [stp a]) (b, q)]) ++ edF r s w
termination_by f g => f.size + g.size
decreasing_by all_goals (simp only [Fr.size]; omega)
def edK (x y : Nd) (w : List Stp) : List EdD := if x = y then [] else if x.1.kind ≠ 0 ∧ y.1.kind ≠ 0 then [⟨3, w, y, x⟩] else if x.1.kind = 0 ∧ y.1.kind = 0 then edF x.2 y.2 w else [delE w x, newE w y]
theorem edF_nil (w : List Stp) : edF .nil .nil w = [] := by rw [edF]
theorem edF_del (a : NdD) (k r : NdF) (w : List Stp) : edF (.cons a k r) .nil w = delE (w ++ [stp a]) (a, k) :: edF r .nil w := by rw [edF]
theorem edF_new (b : NdD) (q s : NdF) (w : List Stp) : edF .nil (.cons b q s) w = newE (w ++ [stp b]) (b, q) :: edF .nil s w := by rw [edF]
theorem edF_both (a b : NdD) (k r q s : NdF) (w : List Stp) : edF (.cons a k r) (.cons b q s) w = if lessX a b = true then delE (w ++ [stp a]) (a, k) :: edF r (.cons b q s) w
  else if lessX b a = true then newE (w ++ [stp b]) (b, q) :: edF (.cons a k r) s w else edK (a, k) (b, q) (w ++ [stp a]) ++ edF r s w := by
 rw [edF]
 unfold edK
 simp only [Prod.mk.injEq]
theorem ed_ind {P : NdF → NdF → List Stp → Prop} (h0 : ∀ w, P .nil .nil w) (h1 : ∀ a k r w, P r .nil w → P (.cons a k r) .nil w) (h2 : ∀ b q s w, P .nil s w → P .nil (.cons b q s) w)
  (h3 : ∀ a k r b q s w, lessX a b = true → P r (.cons b q s) w → P (.cons a k r) (.cons b q s) w)
  (h4 : ∀ a k r b q s w, lessX a b = false → lessX b a = true → P (.cons a k r) s w → P (.cons a k r) (.cons b q s) w)
  (h5 : ∀ a k r b q s w, lessX a b = false → lessX b a = false → stp a = stp b → P k q (w ++ [stp a]) → P r s w → P (.cons a k r) (.cons b q s) w) : ∀ f g w, P f g w := by
 have main : ∀ n f g w, f.size + g.size ≤ n → P f g w := by
  intro n
  induction n with
  | zero =>
   intro f g w h
   cases f with
   | nil => cases g with
    | nil => exact h0 w
    | cons b q s => simp only [Fr.size] at h; omega
   | cons a k r => simp only [Fr.size] at h; omega
  | succ n ih =>
   intro f g w h
   cases f with
   | nil => cases g with
    | nil => exact h0 w
    | cons b q s => exact h2 b q s w (ih _ _ _ (by simp only [Fr.size] at h ⊢; omega))
   | cons a k r => cases g with
    | nil => exact h1 a k r w (ih _ _ _ (by simp only [Fr.size] at h ⊢; omega))
    | cons b q s =>
     cases hab : lessX a b with
     | true => exact h3 a k r b q s w hab (ih _ _ _ (by simp only [Fr.size] at h ⊢; omega))
     | false => cases hba : lessX b a with
      | true => exact h4 a k r b q s w hab hba (ih _ _ _ (by simp only [Fr.size] at h ⊢; omega))
      | false =>
       refine h5 a k r b q s w hab hba ?_ (ih _ _ _ (by simp only [Fr.size] at h ⊢; omega)) (ih _ _ _ (by simp only [Fr.size] at h ⊢; omega))
       by_cases e : stp a = stp b
       ·exact e
       ·rcases lessS_total e with h | h
        ·unfold lessX at hab; rw [h] at hab; cases hab
        ·unfold lessX at hba; rw [h] at hba; cases hba
 exact fun f g w => main _ f g w (Nat.le_refl _)
theorem edF_lt {a b : NdD} (h : lessX a b = true) (k r q s : NdF) (w : List Stp) : edF (.cons a k r) (.cons b q s) w = delE (w ++ [stp a]) (a, k) :: edF r (.cons b q s) w := by rw [edF_both, if_pos h]
theorem edF_gt {a b : NdD} (h1 : lessX a b = false) (h : lessX b a = true) (k r q s : NdF) (w : List Stp) : edF (.cons a k r) (.cons b q s) w = newE (w ++ [stp b]) (b, q) :: edF (.cons a k r) s w := by
 rw [edF_both, if_neg (by rw [h1]; simp), if_pos h]
theorem edF_eq {a b : NdD} (h1 : lessX a b = false) (h : lessX b a = false) (k r q s : NdF) (w : List Stp) : edF (.cons a k r) (.cons b q s) w = edK (a, k) (b, q) (w ++ [stp a]) ++ edF r s w := by
 rw [edF_both, if_neg (by rw [h1]; simp), if_neg (by rw [h]; simp)]
end Go.Proofs.YtleidkpdpabkpaaGreatDoor
