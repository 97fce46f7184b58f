/- What the laws of package tree want of TreNum. -/
import Derived.Test.YtgipnemcmiohlaaZ0FrmRow
namespace Go.Proofs.Ytgipnemcmiohlaa
open Go.RowKit
set_option linter.unusedSimpArgs false
set_option linter.unusedVariables false
abbrev ltY (a b : List UInt8) : Bool := Go.Op.bytesLess a b
theorem u8_lt_irrefl (a : UInt8) : ¬ a < a := by rw [UInt8.lt_iff_toNat_lt]; omega
theorem ltB_irrefl : ∀ a : List UInt8, ltY a a = false := by
  intro a
  induction a with
  | nil => rfl
  | cons x a ih =>
    have h : ltY (x :: a) (x :: a) = (decide (x < x) || (x == x && ltY a a)) := rfl
    rw [h, ih]
    simp [u8_lt_irrefl]
theorem ltB_nil (a : List UInt8) : ltY a [] = false := by cases a <;> rfl
theorem ltB_cons (x y : UInt8) (a b : List UInt8) : ltY (x :: a) (y :: b) = true ↔ x.toNat < y.toNat ∨ (x = y ∧ ltY a b = true) := by
  have h : ltY (x :: a) (y :: b) = (decide (x < y) || (x == y && ltY a b)) := rfl
  rw [h]
  simp [UInt8.lt_iff_toNat_lt]
theorem ltB_trans : ∀ a b c : List UInt8, ltY a b = true → ltY b c = true → ltY a c = true := by
  intro a
  induction a with
  | nil =>
    intro b c h1 h2
    cases c with
    | nil => rw [ltB_nil] at h2; cases h2
    | cons => rfl
  | cons x a ih =>
    intro b c h1 h2
    cases b with
    | nil => rw [ltB_nil] at h1; cases h1
    | cons y b =>
      cases c with
      | nil => rw [ltB_nil] at h2; cases h2
      | cons z c =>
        rw [ltB_cons] at h1 h2 ⊢
        rcases h1 with h1 | ⟨rfl, h1⟩
        · rcases h2 with h2 | ⟨rfl, h2⟩
          · exact .inl (by omega)
          · exact .inl h1
        · rcases h2 with h2 | ⟨rfl, h2⟩
          · exact .inl h2
          · exact .inr ⟨rfl, ih b c h1 h2⟩
theorem ltB_total : ∀ a b : List UInt8, a ≠ b → ltY a b = true ∨ ltY b a = true := by
  intro a
  induction a with
  | nil =>
    intro b h
    cases b with
    | nil => exact absurd rfl h
    | cons => exact .inl rfl
  | cons x a ih =>
    intro b h
    cases b with
    | nil => exact .inr rfl
    | cons y b =>
      rw [ltB_cons, ltB_cons]
      by_cases hx : x = y
      · subst hx
        rcases ih b (fun e => h (by rw [e])) with h1 | h1
        · exact .inl (.inr ⟨rfl, h1⟩)
        · exact .inr (.inr ⟨rfl, h1⟩)
      · have : x.toNat ≠ y.toNat := fun e => hx (UInt8.toNat_inj.1 e)
        rcases Nat.lt_or_gt_of_ne this with h1 | h1
        · exact .inl (.inl h1)
        · exact .inr (.inl h1)
/-- What a node bears, but for its kids. -/
structure NdD where
  name : List UInt8
  key : List UInt8
  kind : Int
  num : Nat
  text : List UInt8
theorem NdD.ext_ {a b : NdD} (h1 : a.name = b.name) (h2 : a.key = b.key) (h3 : a.kind = b.kind) (h4 : a.num = b.num) (h5 : a.text = b.text) : a = b := by
  cases a; cases b; simp_all
instance : DecidableEq NdD := fun a b => decidable_of_iff (a.name = b.name ∧ a.key = b.key ∧ a.kind = b.kind ∧ a.num = b.num ∧ a.text = b.text)
  ⟨fun ⟨h1, h2, h3, h4, h5⟩ => NdD.ext_ h1 h2 h3 h4 h5, fun h => by subst h; exact ⟨rfl, rfl, rfl, rfl, rfl⟩⟩
abbrev NdF := Fr NdD
/-- A tree. -/
abbrev Nd := NdD × NdF
/-- A step: a name and a key. -/
abbrev Stp := List UInt8 × List UInt8
abbrev zeroT : NdD := ⟨[], [], 0, 0, []⟩
abbrev noN : Nd := (zeroT, .nil)
def stp (a : NdD) : Stp := (a.name, a.key)
def lessS (s t : Stp) : Bool := ltY s.1 t.1 || (decide (s.1 = t.1) && ltY s.2 t.2)
def lessX (a b : NdD) : Bool := lessS (stp a) (stp b)
theorem lessS_iff (s t : Stp) : lessS s t = true ↔ ltY s.1 t.1 = true ∨ (s.1 = t.1 ∧ ltY s.2 t.2 = true) := by simp [lessS]
theorem lessS_irrefl (s : Stp) : lessS s s = false := by simp [lessS, ltB_irrefl]
theorem lessS_trans {s t u : Stp} (h1 : lessS s t = true) (h2 : lessS t u = true) : lessS s u = true := by
  rw [lessS_iff] at h1 h2 ⊢
  rcases h1 with h1 | ⟨e, h1⟩
  · rcases h2 with h2 | ⟨e2, h2⟩
    · exact .inl (ltB_trans _ _ _ h1 h2)
    · exact .inl (e2 ▸ h1)
  · rcases h2 with h2 | ⟨e2, h2⟩
    · exact .inl (e ▸ h2)
    · exact .inr ⟨e.trans e2, ltB_trans _ _ _ h1 h2⟩
theorem lessS_asymm {s t : Stp} (h : lessS s t = true) : lessS t s = false := by
  cases h2 : lessS t s with
  | false => rfl
  | true => have := lessS_trans h h2; rw [lessS_irrefl] at this; cases this
theorem lessS_total {s t : Stp} (h : s ≠ t) : lessS s t = true ∨ lessS t s = true := by
  rw [lessS_iff, lessS_iff]
  by_cases e : s.1 = t.1
  · have h2 : s.2 ≠ t.2 := fun e2 => h (Prod.ext e e2)
    rcases ltB_total _ _ h2 with h3 | h3
    · exact .inl (.inr ⟨e, h3⟩)
    · exact .inr (.inr ⟨e.symm, h3⟩)
  · rcases ltB_total _ _ e with h3 | h3
    · exact .inl (.inl h3)
    · exact .inr (.inl h3)
/-- The first of a row comes behind a. -/
def hdLess (a : NdD) : NdF → Bool
  | .nil => true
  | .cons b _ _ => lessX a b
/-- A row in order, all of it right. -/
def rgtF : NdF → Bool
  | .nil => true
  | .cons a k r => ((if a.kind ≠ 0 then decide (k.len = 0) else (decide (a.num = 0) && decide (a.text = []) && rgtF k)) && hdLess a r) && rgtF r
/-- A tree is right. -/
def rgtX (x : Nd) : Bool := if x.1.kind ≠ 0 then decide (x.2.len = 0) else (decide (x.1.num = 0) && decide (x.1.text = []) && rgtF x.2)
theorem rightF_cons (a : NdD) (k r : NdF) : rgtF (.cons a k r) = (rgtX (a, k) && hdLess a r && rgtF r) := rfl
def sizeX (x : Nd) : Nat := x.2.size + 1
/-- All of a row come behind a step. -/
def allGt (s : Stp) : NdF → Prop
  | .nil => True
  | .cons a _ r => lessS s (stp a) = true ∧ allGt s r
theorem allGt.mono {s t : Stp} (h : lessS s t = true) : ∀ {f : NdF}, allGt t f → allGt s f := by
  intro f
  induction f with
  | nil => intro _; trivial
  | cons a k r _ ih => intro ⟨h1, h2⟩; exact ⟨lessS_trans h h1, ih h2⟩
/-- What a row is at a place. -/
def okAt (f : NdF) (i : Nat) : Bool := match f.get? i with
  | none => true
  | some y => rgtX y && (match i with | 0 => true | j + 1 => match f.get? j with | none => true | some z => lessX z.1 y.1)
theorem right_at : ∀ {f : NdF}, rgtF f = true ↔ ∀ i, i < f.len → okAt f i = true := by
  intro f
  induction f with
  | nil => exact ⟨fun _ i h => by simp [Fr.len] at h, fun _ => rfl⟩
  | cons a k r _ ih =>
    rw [rightF_cons]
    simp only [Bool.and_eq_true]
    constructor
    · intro ⟨⟨h1, h2⟩, h3⟩ i hi
      cases i with
      | zero => simp [okAt, Fr.get?, h1]
      | succ i =>
        have h4 := ih.1 h3 i (by simp only [Fr.len] at hi; omega)
        cases i with
        | zero =>
          cases r with
          | nil => simp [Fr.len] at hi
          | cons b q s => simp only [okAt, Fr.get?, Bool.and_true] at h4 ⊢; simp only [hdLess] at h2; rw [h4, h2]; rfl
        | succ j => simpa [okAt, Fr.get?] using h4
    · intro h
      refine ⟨⟨?_, ?_⟩, ih.2 fun i hi => ?_⟩
      · have := h 0 (by simp [Fr.len])
        simpa [okAt, Fr.get?] using this
      · cases r with
        | nil => rfl
        | cons b q s =>
          have := h 1 (by simp [Fr.len])
          simp only [okAt, Fr.get?, Bool.and_eq_true] at this
          exact this.2
      · have h4 := h (i + 1) (by simp only [Fr.len]; omega)
        cases i with
        | zero =>
          cases r with
          | nil => simp [Fr.len] at hi
          | cons b q s => simp only [okAt, Fr.get?, Bool.and_eq_true] at h4 ⊢; simp [h4.1]
        | succ j => simpa [okAt, Fr.get?] using h4
theorem right_none {f : NdF} {i : Nat} (hi : i < f.len) (h : okAt f i = false) : rgtF f = false := by
  cases h2 : rgtF f with
  | false => rfl
  | true => rw [right_at.1 h2 i hi] at h; cases h
/-- Where the first kid with a step is. -/
def findN (s : Stp) : NdF → Option Nat
  | .nil => none
  | .cons a _ r => if stp a = s then some 0 else (findN s r).map (· + 1)
def findIx (s : Stp) (f : NdF) : Int := match findN s f with
  | none => -1
  | some i => (i : Int)
/-- It. -/
def gtF (s : Stp) : NdF → Option Nd
  | .nil => none
  | .cons a k r => if stp a = s then some (a, k) else gtF s r
def oneF (y : Nd) : NdF := .cons y.1 y.2 .nil
/-- Another node in its place. -/
def repF (s : Stp) (y : Nd) : NdF → NdF
  | .nil => .nil
  | .cons a k r => if stp a = s then .cons y.1 y.2 r else .cons a k (repF s y r)
def delF (s : Stp) : NdF → NdF
  | .nil => .nil
  | .cons a k r => if stp a = s then r else .cons a k (delF s r)
/-- How many stand ahead of a node's place. -/
def placeF (a : NdD) : NdF → Nat
  | .nil => 0
  | .cons b _ r => if lessX b a = true then placeF a r + 1 else 0
def insF (y : Nd) : NdF → NdF
  | .nil => oneF y
  | .cons b k r => if lessX b y.1 = true then .cons b k (insF y r) else .cons y.1 y.2 (.cons b k r)
/-- A row of which some at a place are others. -/
def withF (f : NdF) (at_ many : Nat) (l : NdF) : NdF := (Fr.take at_ f).app (l.app (Fr.drop (at_ + many) f))
theorem find_get {s : Stp} : ∀ {f : NdF}, gtF s f = (findN s f).bind f.get? := by
  intro f
  induction f with
  | nil => rfl
  | cons a k r _ ih =>
    simp only [gtF, findN]
    split
    · rfl
    · rw [ih]
      cases findN s r <;> rfl
theorem find_stp {s : Stp} : ∀ {f : NdF} {i : Nat}, findN s f = some i → ∃ y, f.get? i = some y ∧ stp y.1 = s ∧ gtF s f = some y := by
  intro f
  induction f with
  | nil => intro i h; cases h
  | cons a k r _ ih =>
    intro i h
    simp only [findN] at h
    split at h
    · injection h with h; subst h; rename_i e; exact ⟨(a, k), rfl, e, by simp [gtF, e]⟩
    · rename_i e
      cases hr : findN s r with
      | none => rw [hr] at h; cases h
      | some j =>
        rw [hr] at h
        injection h with h
        subst h
        obtain ⟨y, h1, h2, h3⟩ := ih hr
        exact ⟨y, h1, h2, by simp [gtF, e, h3]⟩
theorem findN_none {s : Stp} {f : NdF} (h : findN s f = none) : gtF s f = none := by rw [find_get, h]; rfl
theorem with_rep {s : Stp} {y : Nd} : ∀ {f : NdF} {i : Nat}, findN s f = some i → withF f i 1 (oneF y) = repF s y f := by
  intro f
  induction f with
  | nil => intro i h; cases h
  | cons a k r _ ih =>
    intro i h
    simp only [findN] at h
    split at h
    · rename_i e
      injection h with h; subst h
      simp [withF, Fr.take, Fr.drop, Fr.app, oneF, repF, e]
    · rename_i e
      cases hr : findN s r with
      | none => rw [hr] at h; cases h
      | some j =>
        rw [hr] at h
        injection h with h
        subst h
        have h5 := ih hr
        simp only [withF] at h5 ⊢
        simp only [repF]
        rw [if_neg e, ← h5, show j + 1 + 1 = (j + 1) + 1 from rfl]
        rfl
theorem with_del {s : Stp} : ∀ {f : NdF} {i : Nat}, findN s f = some i → withF f i 1 .nil = delF s f := by
  intro f
  induction f with
  | nil => intro i h; cases h
  | cons a k r _ ih =>
    intro i h
    simp only [findN] at h
    split at h
    · rename_i e
      injection h with h; subst h
      simp [withF, Fr.take, Fr.drop, Fr.app, delF, e]
    · rename_i e
      cases hr : findN s r with
      | none => rw [hr] at h; cases h
      | some j =>
        rw [hr] at h
        injection h with h
        subst h
        have h5 := ih hr
        simp only [withF] at h5 ⊢
        simp only [delF]
        rw [if_neg e, ← h5]
        rfl
theorem with_ins {y : Nd} : ∀ {f : NdF}, withF f (placeF y.1 f) 0 (oneF y) = insF y f := by
  intro f
  induction f with
  | nil => simp [withF, placeF, Fr.take, Fr.drop, Fr.app, insF, oneF]
  | cons b k r _ ih =>
    simp only [placeF, insF]
    split
    · rename_i e
      simp only [withF] at ih ⊢
      rw [← ih]
      rfl
    · simp [withF, Fr.take, Fr.drop, Fr.app, oneF]
/-- How a walk finds the place. -/
theorem place_at {a : NdD} : ∀ {f : NdF} {i : Nat}, (∀ j, j < i → ∀ y, f.get? j = some y → lessX y.1 a = true) → i ≤ f.len → (∀ y, f.get? i = some y → lessX y.1 a = false) → placeF a f = i := by
  intro f
  induction f with
  | nil => intro i _ h2 _; simp [Fr.len] at h2; simp [placeF, h2]
  | cons b k r _ ih =>
    intro i h1 h2 h3
    cases i with
    | zero =>
      have := h3 (b, k) rfl
      simp [placeF, this]
    | succ i =>
      have h4 := h1 0 (by omega) (b, k) rfl
      simp only [placeF]
      rw [if_pos h4, ih (i := i) (fun j hj y hy => h1 (j + 1) (by omega) y hy) (by simp only [Fr.len] at h2; omega) (fun y hy => h3 y hy)]
theorem oneF_size (y : Nd) : (oneF y).size = sizeX y := by simp [oneF, Fr.size, sizeX]
theorem del_size {s : Stp} {z : Nd} : ∀ {f : NdF}, gtF s f = some z → (delF s f).size + sizeX z = f.size := by
  intro f
  induction f with
  | nil => intro h; cases h
  | cons a k r _ ih =>
    intro h
    simp only [gtF] at h
    simp only [delF]
    split at h
    · rename_i e; injection h with h; subst h; rw [if_pos e]; simp only [Fr.size, sizeX]; omega
    · rename_i e; rw [if_neg e]; have := ih h; simp only [Fr.size]; omega
theorem getF_size {s : Stp} {z : Nd} {f : NdF} (h : gtF s f = some z) : sizeX z ≤ f.size := by
  have := del_size h; omega
end Go.Proofs.Ytgipnemcmiohlaa

