/- FrmRow TreNum TreWay -/
import Derived.Test.YthmobcaidhgeaaaAM0
set_option linter.unusedSimpArgs false
set_option linter.unusedVariables false
set_option maxRecDepth 100000
set_option maxHeartbeats 8000000
namespace Go.Proofs.Ythmobcaidhgeaaa
open Go.RowKit
def Vals (w : World) (d : Nat) (v : Value) (xs : List Value) : Prop :=
 ∃ A c, v = .slice A xs.length c ∧ xs.length ≤ c ∧ (0 < xs.length → d < w.heap.size ∧ ∃ off, A = some ⟨d, off, none⟩ ∧ ∀ j u, xs[j]? = some u → w.cell? ⟨d, off + j, none⟩ = some u)
section
variable {w w' : World} {d : Nat} {v : Value} {xs : List Value}
theorem Vals.shape (h : Vals w d v xs) : ∃ A c, v = .slice A xs.length c := by obtain ⟨A, c, h, _⟩ := h; exact ⟨A, c, h⟩
theorem Vals.nil (w : World) (d : Nat) : Vals w d (.slice none 0 0) [] := ⟨none, 0, rfl, Nat.le_refl _, fun h => absurd h (by simp)⟩
theorem Vals.below {B : Nat} (h : Vals w d v xs) (hb : Below B w w') (hd : 0 < xs.length → d < B) : Vals w' d v xs := by
 obtain ⟨A, c, rfl, h1, h2⟩ := h
 refine ⟨A, c, rfl, h1, fun hp => ?_⟩
 obtain ⟨hlt, off, rfl, hc⟩ := h2 hp
 exact ⟨Nat.lt_of_lt_of_le hlt hb.size, off, rfl, fun j x hx => (hb.cell (p := ⟨d, off + j, none⟩) (hd hp)).trans (hc j x hx)⟩
theorem Vals.lt (h : Vals w d v xs) (hp : 0 < xs.length) : d < w.heap.size := by obtain ⟨A, c, rfl, h1, h2⟩ := h; exact (h2 hp).1
theorem Vals.at {A : Option Addr} {n c : Nat} (h : Vals w d (.slice A n c) xs) {j : Nat} {u : Value} (hj : xs[j]? = some u) :
  ∃ off, A = some ⟨d, off, none⟩ ∧ d < w.heap.size ∧ j < n ∧ n = xs.length ∧ w.cell? ⟨d, off + j, none⟩ = some u := by
 obtain ⟨A', c', he, h1, h2⟩ := h
 injection he with e1 e2 e3
 subst e1 e2 e3
 have hjl : j < xs.length := (List.getElem?_eq_some_iff.1 hj).1
 obtain ⟨hlt, off, rfl, hc⟩ := h2 (by omega)
 exact ⟨off, rfl, hlt, hjl, rfl, hc j u hj⟩
end
def OwnV (e : TypeId) (w : World) (base : Nat) (v : Value) (xs : List Value) : Prop := w.ownsRow base e 1 v xs.length xs
section
variable {w w' : World} {e : TypeId} {base : Nat} {v : Value} {xs : List Value}
theorem OwnV.nil (w : World) (base : Nat) : OwnV e w base (.slice none 0 0) [] := World.ownsRow_nil w base e 1
theorem OwnV.below (h : OwnV e w base v xs) (hb : Below w.heap.size w w') : OwnV e w' base v xs :=
 World.ownsRow.kept h ⟨hb.os, hb.tape, hb.output, hb.size, fun k hk _ => hb.block k hk⟩ (row := none) (by cases hv : v.ownBlock <;> simp)
theorem OwnV.lt (h : OwnV e w base v xs) : ∀ k, v.ownBlock = some k → base ≤ k ∧ k < w.heap.size := fun k hk => World.ownsRow.lt h k hk
end
def AppV (e : TypeId) (w : World) (base : Nat) (v : Value) (xs : List Value) (v' : Value) (w' : World) : Prop :=
 OwnV e w' base v' xs ∧ w.grownBy w' v.ownBlock ∧ (v'.ownBlock = v.ownBlock ∨ v'.ownBlock = some w.heap.size) ∧ ∃ g c, v' = .slice (some ⟨g, 0, none⟩) xs.length c
theorem AppV.below {e : TypeId} {w w' : World} {base : Nat} {v v' : Value} {xs ys : List Value} (h : AppV e w base v xs v' w') (hown : OwnV e w base v ys) (hb : base ≤ w.heap.size) : Below base w w' :=
 (Below.refl _ _).grown h.2.1 hb fun k e => (hown.lt k e).1
abbrev ltY (a b : List UInt8) : Bool := Go.Op.bytesLess a b
theorem u8_lt_irrefl (a : UInt8) : ¬ a < a := by rw [UInt8.lt_iff_toNat_lt]; omega
theorem ltB_irrefl : ∀ a : List UInt8, ltY a a = false := by
 intro a
 induction a with
 | nil => rfl
 | cons x a ih =>
  have h : ltY (x :: a) (x :: a) = (decide (x < x) || (x == x && ltY a a)) := rfl
  rw [h, ih]
  simp [u8_lt_irrefl]
theorem ltB_nil (a : List UInt8) : ltY a [] = false := by cases a <;> rfl
theorem ltB_cons (x y : UInt8) (a b : List UInt8) : ltY (x :: a) (y :: b) = true ↔ x.toNat < y.toNat ∨ (x = y ∧ ltY a b = true) := by
 have h : ltY (x :: a) (y :: b) = (decide (x < y) || (x == y && ltY a b)) := rfl
 rw [h]
 simp [UInt8.lt_iff_toNat_lt]
theorem ltB_trans : ∀ a b c : List UInt8, ltY a b = true → ltY b c = true → ltY a c = true := by
 intro a
 induction a with
 | nil =>
  intro b c h1 h2
  cases c with
  | nil => rw [ltB_nil] at h2; cases h2
  | cons => rfl
 | cons x a ih =>
  intro b c h1 h2
  cases b with
  | nil => rw [ltB_nil] at h1; cases h1
  | cons y b =>
   cases c with
   | nil => rw [ltB_nil] at h2; cases h2
   | cons z c =>
    rw [ltB_cons] at h1 h2 ⊢
    rcases h1 with h1 | ⟨rfl, h1⟩
    ·rcases h2 with h2 | ⟨rfl, h2⟩
     ·exact .inl (by omega)
     ·exact .inl h1
    ·rcases h2 with h2 | ⟨rfl, h2⟩
     ·exact .inl h2
     ·exact .inr ⟨rfl, ih b c h1 h2⟩
theorem ltB_total : ∀ a b : List UInt8, a ≠ b → ltY a b = true ∨ ltY b a = true := by
 intro a
 induction a with
 | nil =>
  intro b h
  cases b with
  | nil => exact absurd rfl h
  | cons => exact .inl rfl
 | cons x a ih =>
  intro b h
  cases b with
  | nil => exact .inr rfl
  | cons y b =>
   rw [ltB_cons, ltB_cons]
   by_cases hx : x = y
   ·subst hx
    rcases ih b (fun e => h (by rw [e])) with h1 | h1
    ·exact .inl (.inr ⟨rfl, h1⟩)
    ·exact .inr (.inr ⟨rfl, h1⟩)
   ·have : x.toNat ≠ y.toNat := fun e => hx (UInt8.toNat_inj.1 e)
    rcases Nat.lt_or_gt_of_ne this with h1 | h1
    ·exact .inl (.inl h1)
    ·exact .inr (.inl h1)
structure NdD where
 name : List UInt8
 key : List UInt8
 kind : Int
 num : Nat
 text : List UInt8
theorem NdD.ext_ {a b : NdD} (h1 : a.name = b.name) (h2 : a.key = b.key) (h3 : a.kind = b.kind) (h4 : a.num = b.num) (h5 : a.text = b.text) : a = b := by
 cases a; cases b; simp_all
instance : DecidableEq NdD := fun a b => decidable_of_iff (a.name = b.name ∧ a.key = b.key ∧ a.kind = b.kind ∧ a.num = b.num ∧ a.text = b.text)
 ⟨fun ⟨h1, h2, h3, h4, h5⟩ => NdD.ext_ h1 h2 h3 h4 h5, fun h => by subst h; exact ⟨rfl, rfl, rfl, rfl, rfl⟩⟩
abbrev NdF := Fr NdD
abbrev Nd := NdD × NdF
abbrev Stp := List UInt8 × List UInt8
abbrev zeroT : NdD := ⟨[], [], 0, 0, []⟩
abbrev noN : Nd := (zeroT, .nil)
def stp (a : NdD) : Stp := (a.name, a.key)
def lessS (s t : Stp) : Bool := ltY s.1 t.1 || (decide (s.1 = t.1) && ltY s.2 t.2)
def lessX (a b : NdD) : Bool := lessS (stp a) (stp b)
theorem lessS_iff (s t : Stp) : lessS s t = true ↔ ltY s.1 t.1 = true ∨ (s.1 = t.1 ∧ ltY s.2 t.2 = true) := by simp [lessS]
theorem lessS_irrefl (s : Stp) : lessS s s = false := by simp [lessS, ltB_irrefl]
theorem lessS_trans {s t u : Stp} (h1 : lessS s t = true) (h2 : lessS t u = true) : lessS s u = true := by
 rw [lessS_iff] at h1 h2 ⊢
 rcases h1 with h1 | ⟨e, h1⟩
 ·rcases h2 with h2 | ⟨e2, h2⟩
  ·exact .inl (ltB_trans _ _ _ h1 h2)
  ·exact .inl (e2 ▸ h1)
 ·rcases h2 with h2 | ⟨e2, h2⟩
  ·exact .inl (e ▸ h2)
  ·exact .inr ⟨e.trans e2, ltB_trans _ _ _ h1 h2⟩
theorem lessS_asymm {s t : Stp} (h : lessS s t = true) : lessS t s = false := by
 cases h2 : lessS t s with
 | false => rfl
 | true => have := lessS_trans h h2; rw [lessS_irrefl] at this; cases this
theorem lessS_total {s t : Stp} (h : s ≠ t) : lessS s t = true ∨ lessS t s = true := by
 rw [lessS_iff, lessS_iff]
 by_cases e : s.1 = t.1
 ·have h2 : s.2 ≠ t.2 := fun e2 => h (Prod.ext e e2)
  rcases ltB_total _ _ h2 with h3 | h3
  ·exact .inl (.inr ⟨e, h3⟩)
  ·exact .inr (.inr ⟨e.symm, h3⟩)
 ·rcases ltB_total _ _ e with h3 | h3
  ·exact .inl (.inl h3)
  ·exact .inr (.inl h3)
theorem lessS_ne {s t : Stp} (h : lessS s t = true) : s ≠ t := fun e => by subst e; rw [lessS_irrefl] at h; cases h
def hdLess (a : NdD) : NdF → Bool
 | .nil => true
 | .cons b _ _ => lessX a b
def rgtF : NdF → Bool
 | .nil => true
 | .cons a k r => ((if a.kind ≠ 0 then decide (k.len = 0) else (decide (a.num = 0) && decide (a.text = []) && rgtF k)) && hdLess a r) && rgtF r
def rgtX (x : Nd) : Bool := if x.1.kind ≠ 0 then decide (x.2.len = 0) else (decide (x.1.num = 0) && decide (x.1.text = []) && rgtF x.2)
theorem rightF_cons (a : NdD) (k r : NdF) : rgtF (.cons a k r) = (rgtX (a, k) && hdLess a r && rgtF r) := rfl
def sizeX (x : Nd) : Nat := x.2.size + 1
def allGt (s : Stp) : NdF → Prop
 | .nil => True
 | .cons a _ r => lessS s (stp a) = true ∧ allGt s r
theorem allGt.mono {s t : Stp} (h : lessS s t = true) : ∀ {f : NdF}, allGt t f → allGt s f := by
 intro f
 induction f with
 | nil => intro _; trivial
 | cons a k r _ ih => intro ⟨h1, h2⟩; exact ⟨lessS_trans h h1, ih h2⟩
theorem right_gt : ∀ {f : NdF} {a : NdD}, rgtF f = true → hdLess a f = true → allGt (stp a) f := by
 intro f
 induction f with
 | nil => intro a _ _; trivial
 | cons b k r _ ih =>
  intro a h1 h2
  rw [rightF_cons] at h1
  simp only [Bool.and_eq_true] at h1
  exact ⟨h2, (ih h1.2 h1.1.2).mono h2⟩
theorem gt_hd {a : NdD} {f : NdF} (h : allGt (stp a) f) : hdLess a f = true := by
 cases f with
 | nil => rfl
 | cons b k r => exact h.1
theorem right_cons_iff {a : NdD} {k r : NdF} : rgtF (.cons a k r) = true ↔ rgtX (a, k) = true ∧ allGt (stp a) r ∧ rgtF r = true := by
 rw [rightF_cons]
 simp only [Bool.and_eq_true]
 exact ⟨fun ⟨⟨h1, h2⟩, h3⟩ => ⟨h1, right_gt h3 h2, h3⟩, fun ⟨h1, h2, h3⟩ => ⟨⟨h1, gt_hd h2⟩, h3⟩⟩
def okAt (f : NdF) (i : Nat) : Bool := match f.get? i with
 | none => true
 | some y => rgtX y && (match i with | 0 => true | j + 1 => match f.get? j with | none => true | some z => lessX z.1 y.1)
theorem right_at : ∀ {f : NdF}, rgtF f = true ↔ ∀ i, i < f.len → okAt f i = true := by
 intro f
 induction f with
 | nil => exact ⟨fun _ i h => by simp [Fr.len] at h, fun _ => rfl⟩
 | cons a k r _ ih =>
  rw [rightF_cons]
  simp only [Bool.and_eq_true]
  constructor
  ·intro ⟨⟨h1, h2⟩, h3⟩ i hi
   cases i with
   | zero => simp [okAt, Fr.get?, h1]
   | succ i =>
    have h4 := ih.1 h3 i (by simp only [Fr.len] at hi; omega)
    cases i with
    | zero =>
     cases r with
     | nil => simp [Fr.len] at hi
     | cons b q s => simp only [okAt, Fr.get?, Bool.and_true] at h4 ⊢; simp only [hdLess] at h2; rw [h4, h2]; rfl
    | succ j => simpa [okAt, Fr.get?] using h4
  ·intro h
   refine ⟨⟨?_, ?_⟩, ih.2 fun i hi => ?_⟩
   ·have := h 0 (by simp [Fr.len])
    simpa [okAt, Fr.get?] using this
   ·cases r with
    | nil => rfl
    | cons b q s =>
     have := h 1 (by simp [Fr.len])
     simp only [okAt, Fr.get?, Bool.and_eq_true] at this
     exact this.2
   ·have h4 := h (i + 1) (by simp only [Fr.len]; omega)
    cases i with
    | zero =>
     cases r with
     | nil => simp [Fr.len] at hi
     | cons b q s => simp only [okAt, Fr.get?, Bool.and_eq_true] at h4 ⊢; simp [h4.1]
    | succ j => simpa [okAt, Fr.get?] using h4
theorem right_none {f : NdF} {i : Nat} (hi : i < f.len) (h : okAt f i = false) : rgtF f = false := by
 cases h2 : rgtF f with
 | false => rfl
 | true => rw [right_at.1 h2 i hi] at h; cases h
def findN (s : Stp) : NdF → Option Nat
 | .nil => none
 | .cons a _ r => if stp a = s then some 0 else (findN s r).map (· + 1)
def findIx (s : Stp) (f : NdF) : Int := match findN s f with
 | none => -1
 | some i => (i : Int)
def gtF (s : Stp) : NdF → Option Nd
 | .nil => none
 | .cons a k r => if stp a = s then some (a, k) else gtF s r
def oneF (y : Nd) : NdF := .cons y.1 y.2 .nil
def repF (s : Stp) (y : Nd) : NdF → NdF
 | .nil => .nil
 | .cons a k r => if stp a = s then .cons y.1 y.2 r else .cons a k (repF s y r)
def delF (s : Stp) : NdF → NdF
 | .nil => .nil
 | .cons a k r => if stp a = s then r else .cons a k (delF s r)
def placeF (a : NdD) : NdF → Nat
 | .nil => 0
 | .cons b _ r => if lessX b a = true then placeF a r + 1 else 0
def insF (y : Nd) : NdF → NdF
 | .nil => oneF y
 | .cons b k r => if lessX b y.1 = true then .cons b k (insF y r) else .cons y.1 y.2 (.cons b k r)
def withF (f : NdF) (at_ many : Nat) (l : NdF) : NdF := (Fr.take at_ f).app (l.app (Fr.drop (at_ + many) f))
theorem find_get {s : Stp} : ∀ {f : NdF}, gtF s f = (findN s f).bind f.get? := by
 intro f
 induction f with
 | nil => rfl
 | cons a k r _ ih =>
  simp only [gtF, findN]
  split
  ·rfl
  ·rw [ih]
   cases findN s r <;> rfl
theorem find_stp {s : Stp} : ∀ {f : NdF} {i : Nat}, findN s f = some i → ∃ y, f.get? i = some y ∧ stp y.1 = s ∧ gtF s f = some y := by
 intro f
 induction f with
 | nil => intro i h; cases h
 | cons a k r _ ih =>
  intro i h
  simp only [findN] at h
  split at h
  ·injection h with h; subst h; rename_i e; exact ⟨(a, k), rfl, e, by simp [gtF, e]⟩
  ·rename_i e
   cases hr : findN s r with
   | none => rw [hr] at h; cases h
   | some j =>
    rw [hr] at h
    injection h with h
    subst h
    obtain ⟨y, h1, h2, h3⟩ := ih hr
    exact ⟨y, h1, h2, by simp [gtF, e, h3]⟩
theorem findN_none {s : Stp} {f : NdF} (h : findN s f = none) : gtF s f = none := by rw [find_get, h]; rfl
theorem getF_find {s : Stp} {f : NdF} {y : Nd} (h : gtF s f = some y) : ∃ i, findN s f = some i ∧ f.get? i = some y := by
 cases h2 : findN s f with
 | none => rw [findN_none h2] at h; cases h
 | some i =>
  obtain ⟨z, h3, _, h4⟩ := find_stp h2
  rw [h] at h4
  injection h4 with h4
  exact ⟨i, rfl, h4 ▸ h3⟩
theorem getF_stp {s : Stp} {f : NdF} {y : Nd} (h : gtF s f = some y) : stp y.1 = s := by
 obtain ⟨i, h1, h2⟩ := getF_find h
 obtain ⟨z, h3, h4, _⟩ := find_stp h1
 rw [h2] at h3
 injection h3 with h3
 rw [h3]; exact h4
theorem with_rep {s : Stp} {y : Nd} : ∀ {f : NdF} {i : Nat}, findN s f = some i → withF f i 1 (oneF y) = repF s y f := by
 intro f
 induction f with
 | nil => intro i h; cases h
 | cons a k r _ ih =>
  intro i h
  simp only [findN] at h
  split at h
  ·rename_i e
   injection h with h; subst h
   simp [withF, Fr.take, Fr.drop, Fr.app, oneF, repF, e]
  ·rename_i e
   cases hr : findN s r with
   | none => rw [hr] at h; cases h
   | some j =>
    rw [hr] at h
    injection h with h
    subst h
    have h5 := ih hr
    simp only [withF] at h5 ⊢
    simp only [repF]
    rw [if_neg e, ← h5, show j + 1 + 1 = (j + 1) + 1 from rfl]
    rfl
theorem with_del {s : Stp} : ∀ {f : NdF} {i : Nat}, findN s f = some i → withF f i 1 .nil = delF s f := by
 intro f
 induction f with
 | nil => intro i h; cases h
 | cons a k r _ ih =>
  intro i h
  simp only [findN] at h
  split at h
  ·rename_i e
   injection h with h; subst h
   simp [withF, Fr.take, Fr.drop, Fr.app, delF, e]
  ·rename_i e
   cases hr : findN s r with
   | none => rw [hr] at h; cases h
   | some j =>
    rw [hr] at h
    injection h with h
    subst h
    have h5 := ih hr
    simp only [withF] at h5 ⊢
    simp only [delF]
    rw [if_neg e, ← h5]
    rfl
theorem with_ins {y : Nd} : ∀ {f : NdF}, withF f (placeF y.1 f) 0 (oneF y) = insF y f := by
 intro f
 induction f with
 | nil => simp [withF, placeF, Fr.take, Fr.drop, Fr.app, insF, oneF]
 | cons b k r _ ih =>
  simp only [placeF, insF]
  split
  ·rename_i e
   simp only [withF] at ih ⊢
   rw [← ih]
   rfl
  ·simp [withF, Fr.take, Fr.drop, Fr.app, oneF]
theorem place_at {a : NdD} : ∀ {f : NdF} {i : Nat}, (∀ j, j < i → ∀ y, f.get? j = some y → lessX y.1 a = true) → i ≤ f.len → (∀ y, f.get? i = some y → lessX y.1 a = false) → placeF a f = i := by
 intro f
 induction f with
 | nil => intro i _ h2 _; simp [Fr.len] at h2; simp [placeF, h2]
 | cons b k r _ ih =>
  intro i h1 h2 h3
  cases i with
  | zero =>
   have := h3 (b, k) rfl
   simp [placeF, this]
  | succ i =>
   have h4 := h1 0 (by omega) (b, k) rfl
   simp only [placeF]
   rw [if_pos h4, ih (i := i) (fun j hj y hy => h1 (j + 1) (by omega) y hy) (by simp only [Fr.len] at h2; omega) (fun y hy => h3 y hy)]
theorem oneF_size (y : Nd) : (oneF y).size = sizeX y := by simp [oneF, Fr.size, sizeX]
theorem rep_size {s : Stp} {y z : Nd} : ∀ {f : NdF}, gtF s f = some z → (repF s y f).size + sizeX z = f.size + sizeX y := by
 intro f
 induction f with
 | nil => intro h; cases h
 | cons a k r _ ih =>
  intro h
  simp only [gtF] at h
  simp only [repF]
  split at h
  ·rename_i e; injection h with h; subst h; rw [if_pos e]; simp only [Fr.size, sizeX]; omega
  ·rename_i e; rw [if_neg e]; have := ih h; simp only [Fr.size]; omega
theorem del_size {s : Stp} {z : Nd} : ∀ {f : NdF}, gtF s f = some z → (delF s f).size + sizeX z = f.size := by
 intro f
 induction f with
 | nil => intro h; cases h
 | cons a k r _ ih =>
  intro h
  simp only [gtF] at h
  simp only [delF]
  split at h
  ·rename_i e; injection h with h; subst h; rw [if_pos e]; simp only [Fr.size, sizeX]; omega
  ·rename_i e; rw [if_neg e]; have := ih h; simp only [Fr.size]; omega
theorem ins_size {y : Nd} : ∀ {f : NdF}, (insF y f).size = f.size + sizeX y := by
 intro f
 induction f with
 | nil => simp [insF, oneF_size, Fr.size]
 | cons b k r _ ih =>
  simp only [insF]
  split
  ·simp only [Fr.size, ih]; omega
  ·simp only [Fr.size, sizeX]; omega
theorem getF_size {s : Stp} {z : Nd} {f : NdF} (h : gtF s f = some z) : sizeX z ≤ f.size := by
 have := del_size h; omega
theorem getF_rep {s : Stp} {y z : Nd} (hy : stp y.1 = s) : ∀ {f : NdF}, gtF s f = some z → gtF s (repF s y f) = some y := by
 intro f
 induction f with
 | nil => intro h; cases h
 | cons a k r _ ih =>
  intro h
  simp only [gtF] at h
  simp only [repF]
  split at h
  ·rename_i e; rw [if_pos e]; simp [gtF, hy]
  ·rename_i e; rw [if_neg e]; simp only [gtF]; rw [if_neg e]; exact ih h
theorem getF_ins {y : Nd} : ∀ {f : NdF}, gtF (stp y.1) f = none → gtF (stp y.1) (insF y f) = some y := by
 intro f
 induction f with
 | nil => intro _; simp [insF, oneF, gtF]
 | cons b k r _ ih =>
  intro h
  simp only [gtF] at h
  split at h
  ·cases h
  ·rename_i e
   simp only [insF]
   split
   ·simp only [gtF]; rw [if_neg e]; exact ih h
   ·simp [gtF]
theorem rep_rep {s : Stp} {y z : Nd} (hy : stp y.1 = s) : ∀ {f : NdF}, repF s z (repF s y f) = repF s z f := by
 intro f
 induction f with
 | nil => rfl
 | cons a k r _ ih =>
  simp only [repF]
  split
  ·simp [repF, hy]
  ·rename_i e; simp only [repF]; rw [if_neg e, ih]
theorem rep_same {s : Stp} {z : Nd} : ∀ {f : NdF}, gtF s f = some z → repF s z f = f := by
 intro f
 induction f with
 | nil => intro h; cases h
 | cons a k r _ ih =>
  intro h
  simp only [gtF] at h
  simp only [repF]
  split at h
  ·rename_i e; injection h with h; subst h; rw [if_pos e]
  ·rename_i e; rw [if_neg e, ih h]
theorem del_ins {y : Nd} : ∀ {f : NdF}, gtF (stp y.1) f = none → delF (stp y.1) (insF y f) = f := by
 intro f
 induction f with
 | nil => intro _; simp [insF, oneF, delF]
 | cons b k r _ ih =>
  intro h
  simp only [gtF] at h
  split at h
  ·cases h
  ·rename_i e
   simp only [insF]
   split
   ·simp only [delF]; rw [if_neg e, ih h]
   ·simp [delF]
theorem gt_none {s : Stp} : ∀ {f : NdF}, allGt s f → gtF s f = none := by
 intro f
 induction f with
 | nil => intro _; rfl
 | cons a k r _ ih => intro ⟨h1, h2⟩; simp only [gtF]; rw [if_neg (fun e => lessS_ne h1 e.symm)]; exact ih h2
theorem gt_del {s t : Stp} : ∀ {f : NdF}, allGt t f → allGt t (delF s f) := by
 intro f
 induction f with
 | nil => intro _; trivial
 | cons a k r _ ih =>
  intro ⟨h1, h2⟩
  simp only [delF]
  split
  ·exact h2
  ·exact ⟨h1, ih h2⟩
theorem gt_rep {s t : Stp} {y : Nd} (hy : stp y.1 = s) : ∀ {f : NdF}, allGt t f → allGt t (repF s y f) := by
 intro f
 induction f with
 | nil => intro _; trivial
 | cons a k r _ ih =>
  intro ⟨h1, h2⟩
  simp only [repF]
  split
  ·rename_i e; exact ⟨by rw [hy, ← e]; exact h1, h2⟩
  ·exact ⟨h1, ih h2⟩
theorem gt_ins {t : Stp} {y : Nd} (hy : lessS t (stp y.1) = true) : ∀ {f : NdF}, allGt t f → allGt t (insF y f) := by
 intro f
 induction f with
 | nil => intro _; exact ⟨hy, trivial⟩
 | cons a k r _ ih =>
  intro ⟨h1, h2⟩
  simp only [insF]
  split
  ·exact ⟨h1, ih h2⟩
  ·exact ⟨hy, h1, h2⟩
theorem right_get {s : Stp} {z : Nd} : ∀ {f : NdF}, rgtF f = true → gtF s f = some z → rgtX z = true := by
 intro f
 induction f with
 | nil => intro _ h; cases h
 | cons a k r _ ih =>
  intro h h2
  rw [right_cons_iff] at h
  simp only [gtF] at h2
  split at h2
  ·injection h2 with h2; subst h2; exact h.1
  ·exact ih h.2.2 h2
theorem right_rep {s : Stp} {y : Nd} (hy : stp y.1 = s) (hr : rgtX y = true) : ∀ {f : NdF}, rgtF f = true → rgtF (repF s y f) = true := by
 intro f
 induction f with
 | nil => intro h; exact h
 | cons a k r _ ih =>
  intro h
  rw [right_cons_iff] at h
  simp only [repF]
  split
  ·rename_i e; exact right_cons_iff.2 ⟨hr, by rw [hy, ← e]; exact h.2.1, h.2.2⟩
  ·exact right_cons_iff.2 ⟨h.1, gt_rep hy h.2.1, ih h.2.2⟩
theorem right_del {s : Stp} : ∀ {f : NdF}, rgtF f = true → rgtF (delF s f) = true := by
 intro f
 induction f with
 | nil => intro h; exact h
 | cons a k r _ ih =>
  intro h
  rw [right_cons_iff] at h
  simp only [delF]
  split
  ·exact h.2.2
  ·exact right_cons_iff.2 ⟨h.1, gt_del h.2.1, ih h.2.2⟩
theorem getF_del {s : Stp} : ∀ {f : NdF}, rgtF f = true → gtF s (delF s f) = none := by
 intro f
 induction f with
 | nil => intro _; rfl
 | cons a k r _ ih =>
  intro h
  rw [right_cons_iff] at h
  simp only [delF]
  split
  ·rename_i e; rw [← e]; exact gt_none h.2.1
  ·rename_i e; simp only [gtF]; rw [if_neg e]; exact ih h.2.2
theorem right_ins {y : Nd} (hr : rgtX y = true) : ∀ {f : NdF}, rgtF f = true → gtF (stp y.1) f = none → rgtF (insF y f) = true := by
 intro f
 induction f with
 | nil => intro _ _; exact right_cons_iff.2 ⟨hr, trivial, rfl⟩
 | cons b k r _ ih =>
  intro h h2
  have h0 := h
  rw [right_cons_iff] at h
  simp only [gtF] at h2
  split at h2
  ·cases h2
  ·rename_i e
   simp only [insF]
   split
   ·rename_i e2; exact right_cons_iff.2 ⟨h.1, gt_ins e2 h.2.1, ih h.2.2 h2⟩
   ·rename_i e2
    have e3 : lessS (stp y.1) (stp b) = true := (lessS_total (fun h => e h.symm)).resolve_right e2
    exact right_cons_iff.2 ⟨hr, ⟨e3, h.2.1.mono e3⟩, h0⟩
theorem ins_gt {y : Nd} {f : NdF} (h : allGt (stp y.1) f) : insF y f = .cons y.1 y.2 f := by
 cases f with
 | nil => rfl
 | cons b k r =>
  simp only [insF]
  rw [if_neg]
  intro e
  have := lessS_asymm h.1
  rw [show lessS (stp b) (stp y.1) = true from e] at this
  cases this
theorem ins_del {s : Stp} {z : Nd} : ∀ {f : NdF}, rgtF f = true → gtF s f = some z → insF z (delF s f) = f := by
 intro f
 induction f with
 | nil => intro _ h; cases h
 | cons a k r _ ih =>
  intro h h2
  rw [right_cons_iff] at h
  have hs := getF_stp h2
  simp only [gtF] at h2
  simp only [delF]
  split at h2
  ·rename_i e; injection h2 with h2; subst h2; rw [if_pos e]; exact ins_gt h.2.1
  ·rename_i e
   rw [if_neg e]
   simp only [insF]
   have : lessX a z.1 = true := by
    have h3 : ∀ {g : NdF}, allGt (stp a) g → gtF s g = some z → lessS (stp a) (stp z.1) = true := by
     intro g
     induction g with
     | nil => intro _ h; cases h
     | cons b q t _ ih2 =>
      intro h4 h5
      simp only [gtF] at h5
      split at h5
      ·injection h5 with h5; subst h5; exact h4.1
      ·exact ih2 h4.2 h5
    exact h3 h.2.1 h2
   rw [if_pos this, ih h.2.2 h2]
def getX : Nd → List Stp → Option Nd
 | x, [] => some x
 | x, s :: l => match gtF s x.2 with
  | none => none
  | some y => getX y l
def setX : Nd → List Stp → Nd → Nd
 | x, [], _ => x
 | x, s :: l, y => match l, gtF s x.2 with
  | [], some _ => (x.1, repF s y x.2)
  | [], none => (x.1, insF y x.2)
  | _ :: _, some z => (x.1, repF s (setX z l y) x.2)
  | _ :: _, none => x
def cutX : Nd → List Stp → Nd
 | x, [] => x
 | x, s :: l => match l, gtF s x.2 with
  | [], _ => (x.1, delF s x.2)
  | _ :: _, some z => (x.1, repF s (cutX z l) x.2)
  | _ :: _, none => x
def GetX (x : Nd) (l : List Stp) : Nd × Bool := match getX x l with
 | some y => (y, true)
 | none => (noN, false)
def SetX (x : Nd) (l : List Stp) (y : Nd) : Nd × Nat :=
 if l.getLast? ≠ some (stp y.1) then (noN, 1) else match getX x l.dropLast with
  | none => (noN, 30)
  | some p => if p.1.kind ≠ 0 then (noN, 30) else (setX x l y, 0)
def CutX (x : Nd) (l : List Stp) : Nd × Nat :=
 if l = [] then (noN, 30) else match getX x l with
  | none => (noN, 30)
  | some _ => (cutX x l, 0)
theorem set_one {x y : Nd} {s : Stp} : setX x [s] y = match gtF s x.2 with | some _ => (x.1, repF s y x.2) | none => (x.1, insF y x.2) := by
 simp only [setX]; split <;> simp_all
theorem set_more {x y : Nd} {s t : Stp} {l : List Stp} : setX x (s :: t :: l) y = match gtF s x.2 with | some z => (x.1, repF s (setX z (t :: l) y) x.2) | none => x := by
 rw [setX.eq_def]; cases h : gtF s x.2 <;> simp [h]
theorem cutX_one {x : Nd} {s : Stp} : cutX x [s] = (x.1, delF s x.2) := by
 rw [cutX.eq_def]
theorem cut_more {x : Nd} {s t : Stp} {l : List Stp} : cutX x (s :: t :: l) = match gtF s x.2 with | some z => (x.1, repF s (cutX z (t :: l)) x.2) | none => x := by
 rw [cutX.eq_def]; cases h : gtF s x.2 <;> simp [h]
theorem set_fst {x y : Nd} : ∀ {l : List Stp}, (setX x l y).1 = x.1 := by
 intro l
 match l with
 | [] => rfl
 | [s] => rw [set_one]; split <;> rfl
 | s :: t :: l => rw [set_more]; split <;> rfl
theorem cut_fst {x : Nd} : ∀ {l : List Stp}, (cutX x l).1 = x.1 := by
 intro l
 match l with
 | [] => rfl
 | [s] => rw [cutX_one]
 | s :: t :: l => rw [cut_more]; split <;> rfl
def okSet : Nd → List Stp → Nd → Prop
 | _, [], _ => False
 | x, s :: l, y => match l with
  | [] => s = stp y.1 ∧ x.1.kind = 0
  | _ :: _ => ∃ z, gtF s x.2 = some z ∧ okSet z l y
theorem ok_one {x y : Nd} {s : Stp} : okSet x [s] y ↔ s = stp y.1 ∧ x.1.kind = 0 := Iff.rfl
theorem ok_more {x y : Nd} {s t : Stp} {l : List Stp} : okSet x (s :: t :: l) y ↔ ∃ z, gtF s x.2 = some z ∧ okSet z (t :: l) y := by
 rw [okSet.eq_def]
theorem ok_iff {y : Nd} : ∀ (l : List Stp) (x : Nd), okSet x l y ↔ l.getLast? = some (stp y.1) ∧ ∃ p, getX x l.dropLast = some p ∧ p.1.kind = 0 := by
 intro l
 induction l with
 | nil => intro x; simp [okSet]
 | cons s l ih =>
  intro x
  cases l with
  | nil =>
   rw [ok_one]
   simp [getX]
  | cons t l =>
   rw [ok_more]
   have e : (s :: t :: l).dropLast = s :: (t :: l).dropLast := rfl
   have e2 : (s :: t :: l).getLast? = (t :: l).getLast? := by simp [List.getLast?_cons_cons]
   rw [e, e2]
   simp only [getX]
   constructor
   ·intro ⟨z, h1, h2⟩
    obtain ⟨h3, p, h4, h5⟩ := (ih z).1 h2
    exact ⟨h3, p, by rw [h1]; exact h4, h5⟩
   ·intro ⟨h3, p, h4, h5⟩
    cases hz : gtF s x.2 with
    | none => rw [hz] at h4; cases h4
    | some z => rw [hz] at h4; exact ⟨z, rfl, (ih z).2 ⟨h3, p, h4, h5⟩⟩
theorem SetX_ok {x y : Nd} {l : List Stp} : (SetX x l y).2 = 0 ↔ okSet x l y := by
 rw [ok_iff]
 unfold SetX
 split
 ·rename_i h; simp [h]
 ·rename_i h
  have h' : l.getLast? = some (stp y.1) := Classical.not_not.1 h
  cases hp : getX x l.dropLast with
  | none => simp
  | some p =>
   by_cases hk : p.1.kind = 0 <;> simp [hk, h']
theorem SetX_is {x y : Nd} {l : List Stp} (h : okSet x l y) : SetX x l y = (setX x l y, 0) := by
 obtain ⟨h1, p, h2, h3⟩ := (ok_iff l x).1 h
 unfold SetX
 rw [if_neg (by simp [h1]), h2]
 simp [h3]
theorem CutX_is {x z : Nd} {l : List Stp} (h : l ≠ []) (h2 : getX x l = some z) : CutX x l = (cutX x l, 0) := by
 unfold CutX
 rw [if_neg h, h2]
theorem CutX_ok {x : Nd} {l : List Stp} (h : (CutX x l).2 = 0) : l ≠ [] ∧ ∃ z, getX x l = some z := by
 unfold CutX at h
 split at h
 ·cases h
 ·rename_i e
  cases hz : getX x l with
  | none => rw [hz] at h; cases h
  | some z => exact ⟨e, z, rfl⟩
theorem ok_ne {x y : Nd} {l : List Stp} (h : okSet x l y) : l ≠ [] := by
 intro e; subst e; exact h
theorem right_kind {x : Nd} {s : Stp} {z : Nd} (h : rgtX x = true) (h2 : gtF s x.2 = some z) : x.1.kind = 0 ∧ x.1.num = 0 ∧ x.1.text = [] ∧ rgtF x.2 = true := by
 unfold rgtX at h
 split at h
 ·rename_i e
  obtain ⟨a, f⟩ := x
  cases f with
  | nil => cases h2
  | cons => simp [Fr.len] at h
 ·rename_i e
  simp only [Bool.and_eq_true, decide_eq_true_eq] at h
  exact ⟨Classical.not_not.1 e, h.1.1, h.1.2, h.2⟩
theorem right_kind0 {x : Nd} (h : rgtX x = true) (hk : x.1.kind = 0) : x.1.num = 0 ∧ x.1.text = [] ∧ rgtF x.2 = true := by
 unfold rgtX at h
 rw [if_neg (by simp [hk])] at h
 simp only [Bool.and_eq_true, decide_eq_true_eq] at h
 exact ⟨h.1.1, h.1.2, h.2⟩
theorem right_make {a : NdD} {f : NdF} (h : a.kind = 0 ∧ a.num = 0 ∧ a.text = []) (hf : rgtF f = true) : rgtX (a, f) = true := by
 unfold rgtX
 simp [h.1, h.2.1, h.2.2, hf]
theorem set_get {y : Nd} : ∀ (l : List Stp) (x : Nd), okSet x l y → getX (setX x l y) l = some y := by
 intro l
 induction l with
 | nil => intro x h; exact absurd rfl (ok_ne h)
 | cons s l ih =>
  intro x h
  cases l with
  | nil =>
   obtain ⟨rfl, hk⟩ := ok_one.1 h
   rw [set_one]
   cases hz : gtF (stp y.1) x.2 with
   | none => simp only [getX]; rw [getF_ins hz]
   | some z => simp only [getX]; rw [getF_rep rfl hz]
  | cons t l =>
   obtain ⟨z, h1, h2⟩ := ok_more.1 h
   rw [set_more, h1]
   simp only
   rw [getX.eq_def]
   simp only
   rw [getF_rep (z := z) (by rw [set_fst]; exact getF_stp h1) h1]
   exact ih z h2
theorem set_right {y : Nd} (hy : rgtX y = true) : ∀ (l : List Stp) (x : Nd), rgtX x = true → okSet x l y → rgtX (setX x l y) = true := by
 intro l
 induction l with
 | nil => intro x _ h; exact absurd rfl (ok_ne h)
 | cons s l ih =>
  intro x hx h
  cases l with
  | nil =>
   obtain ⟨rfl, hk⟩ := ok_one.1 h
   obtain ⟨g1, g2, g3⟩ := right_kind0 hx hk
   rw [set_one]
   cases hz : gtF (stp y.1) x.2 with
   | none => exact right_make ⟨hk, g1, g2⟩ (right_ins hy g3 hz)
   | some z => exact right_make ⟨hk, g1, g2⟩ (right_rep rfl hy g3)
  | cons t l =>
   obtain ⟨z, h1, h2⟩ := ok_more.1 h
   obtain ⟨hk, g1, g2, g3⟩ := right_kind hx h1
   rw [set_more, h1]
   exact right_make ⟨hk, g1, g2⟩ (right_rep (by rw [set_fst]; exact getF_stp h1) (ih z (right_get g3 h1) h2) g3)
theorem cut_right : ∀ (l : List Stp) (x z : Nd), rgtX x = true → l ≠ [] → getX x l = some z → rgtX (cutX x l) = true := by
 intro l
 induction l with
 | nil => intro x z _ h; exact absurd rfl h
 | cons s l ih =>
  intro x z hx _ h
  rw [getX.eq_def] at h
  simp only at h
  cases h1 : gtF s x.2 with
  | none => rw [h1] at h; cases h
  | some u =>
   rw [h1] at h
   obtain ⟨hk, g1, g2, g3⟩ := right_kind hx h1
   cases l with
   | nil => rw [cutX_one]; exact right_make ⟨hk, g1, g2⟩ (right_del g3)
   | cons t l =>
    rw [cut_more, h1]
    exact right_make ⟨hk, g1, g2⟩ (right_rep (by rw [cut_fst]; exact getF_stp h1) (ih u z (right_get g3 h1) (by simp) h) g3)
theorem cut_get : ∀ (l : List Stp) (x z : Nd), rgtX x = true → l ≠ [] → getX x l = some z → getX (cutX x l) l = none := by
 intro l
 induction l with
 | nil => intro x z _ h; exact absurd rfl h
 | cons s l ih =>
  intro x z hx _ h
  rw [getX.eq_def] at h
  simp only at h
  cases h1 : gtF s x.2 with
  | none => rw [h1] at h; cases h
  | some u =>
   rw [h1] at h
   obtain ⟨hk, g1, g2, g3⟩ := right_kind hx h1
   cases l with
   | nil => rw [cutX_one]; simp only [getX]; rw [getF_del g3]
   | cons t l =>
    rw [cut_more, h1]
    simp only
    rw [getX.eq_def]
    simp only
    rw [getF_rep (z := u) (by rw [cut_fst]; exact getF_stp h1) h1]
    exact ih u z (right_get g3 h1) (by simp) h
theorem cut_size : ∀ (l : List Stp) (x z : Nd), l ≠ [] → getX x l = some z → sizeX (cutX x l) + sizeX z = sizeX x := by
 intro l
 induction l with
 | nil => intro x z h; exact absurd rfl h
 | cons s l ih =>
  intro x z _ h
  rw [getX.eq_def] at h
  simp only at h
  cases h1 : gtF s x.2 with
  | none => rw [h1] at h; cases h
  | some u =>
   rw [h1] at h
   cases l with
   | nil =>
    injection h with h
    subst h
    rw [cutX_one]
    have := del_size h1
    simp only [sizeX] at this ⊢
    omega
   | cons t l =>
    rw [cut_more, h1]
    have h2 := ih u z (by simp) h
    have h3 := rep_size (y := cutX u (t :: l)) h1
    simp only [sizeX] at h2 h3 ⊢
    omega
theorem get_size : ∀ (l : List Stp) (x z : Nd), getX x l = some z → sizeX z ≤ sizeX x := by
 intro l
 induction l with
 | nil => intro x z h; injection h with h; subst h; exact Nat.le_refl _
 | cons s l ih =>
  intro x z h
  rw [getX.eq_def] at h
  simp only at h
  cases h1 : gtF s x.2 with
  | none => rw [h1] at h; cases h
  | some u =>
   rw [h1] at h
   have h2 := ih u z h
   have h3 := getF_size h1
   simp only [sizeX] at h2 h3 ⊢
   omega
theorem set_size {y : Nd} : ∀ (l : List Stp) (x : Nd), okSet x l y → sizeX (setX x l y) ≤ sizeX x + sizeX y := by
 intro l
 induction l with
 | nil => intro x h; exact absurd rfl (ok_ne h)
 | cons s l ih =>
  intro x h
  cases l with
  | nil =>
   rw [set_one]
   cases hz : gtF s x.2 with
   | none => have := ins_size (y := y) (f := x.2); simp only [sizeX] at this ⊢; omega
   | some z => have := rep_size (y := y) hz; simp only [sizeX] at this ⊢; omega
  | cons t l =>
   obtain ⟨z, h1, h2⟩ := ok_more.1 h
   rw [set_more, h1]
   have h3 := ih z h2
   have h4 := rep_size (y := setX z (t :: l) y) h1
   simp only [sizeX] at h3 h4 ⊢
   omega
theorem set_cut_none {y : Nd} : ∀ (l : List Stp) (x : Nd), okSet x l y → getX x l = none → cutX (setX x l y) l = x := by
 intro l
 induction l with
 | nil => intro x h; exact absurd rfl (ok_ne h)
 | cons s l ih =>
  intro x h hn
  rw [getX.eq_def] at hn
  simp only at hn
  cases l with
  | nil =>
   obtain ⟨rfl, hk⟩ := ok_one.1 h
   cases hz : gtF (stp y.1) x.2 with
   | none => rw [set_one, hz, cutX_one]; simp only; rw [del_ins hz]
   | some z => rw [hz] at hn; cases hn
  | cons t l =>
   obtain ⟨z, h1, h2⟩ := ok_more.1 h
   rw [h1] at hn
   rw [set_more, h1, cut_more]
   simp only
   rw [getF_rep (z := z) (by rw [set_fst]; exact getF_stp h1) h1]
   simp only
   rw [rep_rep (by rw [set_fst]; exact getF_stp h1), ih z h2 hn, rep_same h1]
theorem cut_set : ∀ (l : List Stp) (x old : Nd), rgtX x = true → l ≠ [] → getX x l = some old → okSet (cutX x l) l old ∧ setX (cutX x l) l old = x := by
 intro l
 induction l with
 | nil => intro x old _ h; exact absurd rfl h
 | cons s l ih =>
  intro x old hx _ h
  rw [getX.eq_def] at h
  simp only at h
  cases h1 : gtF s x.2 with
  | none => rw [h1] at h; cases h
  | some u =>
   rw [h1] at h
   obtain ⟨hk, g1, g2, g3⟩ := right_kind hx h1
   cases l with
   | nil =>
    injection h with h
    subst h
    have hs := getF_stp h1
    rw [cutX_one]
    refine ⟨⟨hs.symm, hk⟩, ?_⟩
    rw [set_one]
    simp only
    rw [getF_del g3]
    simp only
    rw [ins_del g3 h1]
   | cons t l =>
    obtain ⟨h2, h3⟩ := ih u old (right_get g3 h1) (by simp) h
    have hs : stp (cutX u (t :: l)).1 = s := by rw [cut_fst]; exact getF_stp h1
    rw [cut_more, h1]
    simp only
    refine ⟨ok_more.2 ⟨_, getF_rep hs h1, h2⟩, ?_⟩
    rw [set_more]
    simp only
    rw [getF_rep hs h1]
    simp only
    rw [h3, rep_rep hs, rep_same h1]
def parts : List Stp → List Stp → Prop
 | s :: a, t :: b => s ≠ t ∨ parts a b
 | _, _ => False
def posD (a : NdD) (g : NdF) : Nat → Nat
 | 0 => 0
 | n + 1 => match g.get? n with
  | none => n + 1
  | some z => if lessX a z.1 = true then posD a g n else n + 1
def insB (y : Nd) (g : NdF) : NdF := withF g (posD y.1 g g.len) 0 (oneF y)
def sortA (g : NdF) : NdF → NdF
 | .nil => g
 | .cons a k r => sortA (insB (a, sortA .nil k) g) r
def sortX (x : Nd) : Nd := (x.1, sortA .nil x.2)
theorem posD_le {a : NdD} {g : NdF} : ∀ n, posD a g n ≤ n := by
 intro n
 induction n with
 | zero => exact Nat.le_refl _
 | succ n ih =>
  simp only [posD]
  split
  ·exact Nat.le_refl _
  ·split <;> omega
theorem with_len {f l : NdF} {a m : Nat} (h : a + m ≤ f.len) : (withF f a m l).len + m = f.len + l.len := by
 simp only [withF, Fr.len_app]
 rw [Fr.len_take _ _ (by omega), Fr.len_drop]
 omega
theorem insB_len {y : Nd} {g : NdF} : (insB y g).len = g.len + 1 := by
 have := with_len (f := g) (l := oneF y) (a := posD y.1 g g.len) (m := 0) (posD_le _)
 have e : (oneF y).len = 1 := rfl
 rw [e] at this
 unfold insB
 omega
theorem sortA_len : ∀ (r g : NdF), (sortA g r).len = g.len + r.len := by
 intro r
 induction r with
 | nil => intro g; simp [sortA, Fr.len]
 | cons a k r _ ih => intro g; simp only [sortA, Fr.len]; rw [ih, insB_len]; omega
theorem sort_right : ∀ (r g : NdF), rgtF (g.app r) = true → sortA g r = g.app r := by
 intro r
 induction r with
 | nil => intro g _; simp only [sortA]; rw [Fr.app_nil]
 | cons a k r ihk ihr =>
  intro g h
  have hat := right_at.1 h g.len (by rw [Fr.len_app]; simp [Fr.len])
  have hg : (g.app (.cons a k r)).get? g.len = some (a, k) := Fr.get_app_right 0
  have hk : sortA .nil k = k := by
   have h2 : rgtX (a, k) = true := by
    unfold okAt at hat
    rw [hg] at hat
    simp only [Bool.and_eq_true] at hat
    exact hat.1
   unfold rgtX at h2
   simp only at h2
   split at h2
   ·cases k with
    | nil => rfl
    | cons => simp [Fr.len] at h2
   ·simp only [Bool.and_eq_true] at h2
    exact ihk .nil h2.2
  have hp : posD a g g.len = g.len := by
   cases hn : g.len with
   | zero => rfl
   | succ n =>
    obtain ⟨b, q, hb⟩ := Fr.get_some (f := g) (n := n) (by omega)
    simp only [posD]
    rw [hb]
    simp only
    rw [if_neg]
    intro e
    rw [hn] at hat hg
    unfold okAt at hat
    rw [hg] at hat
    simp only at hat
    rw [Fr.get_app_left (by omega : n < g.len), hb] at hat
    simp only [Bool.and_eq_true] at hat
    have := lessS_asymm hat.2
    rw [show lessS (stp a) (stp b) = true from e] at this
    cases this
  have hi : insB (a, sortA .nil k) g = g.app (.cons a k .nil) := by
   rw [hk]
   unfold insB
   rw [hp]
   unfold withF
   rw [Fr.take_all, Nat.add_zero, Fr.drop_all, Fr.app_nil]
   rfl
  simp only [sortA]
  rw [hi, ihr _ (by rw [Fr.app_assoc]; exact h), Fr.app_assoc]
  rfl
theorem sortX_right {x : Nd} (h : rgtX x = true) : sortX x = x := by
 unfold rgtX at h
 obtain ⟨a, f⟩ := x
 split at h
 ·cases f with
  | nil => rfl
  | cons => simp [Fr.len] at h
 ·simp only [Bool.and_eq_true] at h
  show (a, sortA .nil f) = (a, f)
  rw [sort_right f .nil h.2]
  rfl
end Go.Proofs.Ythmobcaidhgeaaa
