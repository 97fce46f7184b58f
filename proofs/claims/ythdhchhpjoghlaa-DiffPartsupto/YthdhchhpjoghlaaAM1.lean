/- TreNum TreWay DifNum ForestB -/
import Derived.Test.YthdhchhpjoghlaaAM0
import Derived.ArgAppend
set_option linter.unusedSimpArgs false
set_option linter.unusedVariables false
namespace Go.Proofs.Ythdhchhpjoghlaa
open Go.RowKit
abbrev ltY (a b : List UInt8) : Bool := Go.Op.bytesLess a b
theorem u8_lt_irrefl (a : UInt8) : ¬ a < a := by rw [UInt8.lt_iff_toNat_lt]; omega
theorem ltB_irrefl : ∀ a : List UInt8, ltY a a = false := by
 intro a
 induction a with
 | nil => rfl
 | cons x a ih =>
  have h : ltY (x :: a) (x :: a) = (decide (x < x) || (x == x && ltY a a)) := rfl
  rw [h, ih]
  simp [u8_lt_irrefl]
theorem ltB_nil (a : List UInt8) : ltY a [] = false := by cases a <;> rfl
theorem ltB_cons (x y : UInt8) (a b : List UInt8) : ltY (x :: a) (y :: b) = true ↔ x.toNat < y.toNat ∨ (x = y ∧ ltY a b = true) := by
 have h : ltY (x :: a) (y :: b) = (decide (x < y) || (x == y && ltY a b)) := rfl
 rw [h]
 simp [UInt8.lt_iff_toNat_lt]
theorem ltB_trans : ∀ a b c : List UInt8, ltY a b = true → ltY b c = true → ltY a c = true := by
 intro a
 induction a with
 | nil =>
  intro b c h1 h2
  cases c with
  | nil => rw [ltB_nil] at h2; cases h2
  | cons => rfl
 | cons x a ih =>
  intro b c h1 h2
  cases b with
  | nil => rw [ltB_nil] at h1; cases h1
  | cons y b =>
   cases c with
   | nil => rw [ltB_nil] at h2; cases h2
   | cons z c =>
    rw [ltB_cons] at h1 h2 ⊢
    rcases h1 with h1 | ⟨rfl, h1⟩
    ·rcases h2 with h2 | ⟨rfl, h2⟩
     ·exact .inl (by omega)
     ·exact .inl h1
    ·rcases h2 with h2 | ⟨rfl, h2⟩
     ·exact .inl h2
     ·exact .inr ⟨rfl, ih b c h1 h2⟩
theorem ltB_total : ∀ a b : List UInt8, a ≠ b → ltY a b = true ∨ ltY b a = true := by
 intro a
 induction a with
 | nil =>
  intro b h
  cases b with
  | nil => exact absurd rfl h
  | cons => exact .inl rfl
 | cons x a ih =>
  intro b h
  cases b with
  | nil => exact .inr rfl
  | cons y b =>
   rw [ltB_cons, ltB_cons]
   by_cases hx : x = y
   ·subst hx
    rcases ih b (fun e => h (by rw [e])) with h1 | h1
    ·exact .inl (.inr ⟨rfl, h1⟩)
    ·exact .inr (.inr ⟨rfl, h1⟩)
   ·have : x.toNat ≠ y.toNat := fun e => hx (UInt8.toNat_inj.1 e)
    rcases Nat.lt_or_gt_of_ne this with h1 | h1
    ·exact .inl (.inl h1)
    ·exact .inr (.inl h1)
structure NdD where
 name : List UInt8
 key : List UInt8
 kind : Int
 num : Nat
 text : List UInt8
theorem NdD.ext_ {a b : NdD} (h1 : a.name = b.name) (h2 : a.key = b.key) (h3 : a.kind = b.kind) (h4 : a.num = b.num) (h5 : a.text = b.text) : a = b := by
 cases a; cases b; simp_all
instance : DecidableEq NdD := fun a b => decidable_of_iff (a.name = b.name ∧ a.key = b.key ∧ a.kind = b.kind ∧ a.num = b.num ∧ a.text = b.text)
 ⟨fun ⟨h1, h2, h3, h4, h5⟩ => NdD.ext_ h1 h2 h3 h4 h5, fun h => by subst h; exact ⟨rfl, rfl, rfl, rfl, rfl⟩⟩
abbrev NdF := Fr NdD
abbrev Nd := NdD × NdF
abbrev Stp := List UInt8 × List UInt8
abbrev zeroT : NdD := ⟨[], [], 0, 0, []⟩
abbrev noN : Nd := (zeroT, .nil)
def stp (a : NdD) : Stp := (a.name, a.key)
def lessS (s t : Stp) : Bool := ltY s.1 t.1 || (decide (s.1 = t.1) && ltY s.2 t.2)
def lessX (a b : NdD) : Bool := lessS (stp a) (stp b)
theorem lessS_iff (s t : Stp) : lessS s t = true ↔ ltY s.1 t.1 = true ∨ (s.1 = t.1 ∧ ltY s.2 t.2 = true) := by simp [lessS]
theorem lessS_irrefl (s : Stp) : lessS s s = false := by simp [lessS, ltB_irrefl]
theorem lessS_trans {s t u : Stp} (h1 : lessS s t = true) (h2 : lessS t u = true) : lessS s u = true := by
 rw [lessS_iff] at h1 h2 ⊢
 rcases h1 with h1 | ⟨e, h1⟩
 ·rcases h2 with h2 | ⟨e2, h2⟩
  ·exact .inl (ltB_trans _ _ _ h1 h2)
  ·exact .inl (e2 ▸ h1)
 ·rcases h2 with h2 | ⟨e2, h2⟩
  ·exact .inl (e ▸ h2)
  ·exact .inr ⟨e.trans e2, ltB_trans _ _ _ h1 h2⟩
theorem lessS_asymm {s t : Stp} (h : lessS s t = true) : lessS t s = false := by
 cases h2 : lessS t s with
 | false => rfl
 | true => have := lessS_trans h h2; rw [lessS_irrefl] at this; cases this
theorem lessS_total {s t : Stp} (h : s ≠ t) : lessS s t = true ∨ lessS t s = true := by
 rw [lessS_iff, lessS_iff]
 by_cases e : s.1 = t.1
 ·have h2 : s.2 ≠ t.2 := fun e2 => h (Prod.ext e e2)
  rcases ltB_total _ _ h2 with h3 | h3
  ·exact .inl (.inr ⟨e, h3⟩)
  ·exact .inr (.inr ⟨e.symm, h3⟩)
 ·rcases ltB_total _ _ e with h3 | h3
  ·exact .inl (.inl h3)
  ·exact .inr (.inl h3)
def hdLess (a : NdD) : NdF → Bool
 | .nil => true
 | .cons b _ _ => lessX a b
def rgtF : NdF → Bool
 | .nil => true
 | .cons a k r => ((if a.kind ≠ 0 then decide (k.len = 0) else (decide (a.num = 0) && decide (a.text = []) && rgtF k)) && hdLess a r) && rgtF r
def rgtX (x : Nd) : Bool := if x.1.kind ≠ 0 then decide (x.2.len = 0) else (decide (x.1.num = 0) && decide (x.1.text = []) && rgtF x.2)
theorem rightF_cons (a : NdD) (k r : NdF) : rgtF (.cons a k r) = (rgtX (a, k) && hdLess a r && rgtF r) := rfl
def sizeX (x : Nd) : Nat := x.2.size + 1
def allGt (s : Stp) : NdF → Prop
 | .nil => True
 | .cons a _ r => lessS s (stp a) = true ∧ allGt s r
theorem allGt.mono {s t : Stp} (h : lessS s t = true) : ∀ {f : NdF}, allGt t f → allGt s f := by
 intro f
 induction f with
 | nil => intro _; trivial
 | cons a k r _ ih => intro ⟨h1, h2⟩; exact ⟨lessS_trans h h1, ih h2⟩
theorem right_gt : ∀ {f : NdF} {a : NdD}, rgtF f = true → hdLess a f = true → allGt (stp a) f := by
 intro f
 induction f with
 | nil => intro a _ _; trivial
 | cons b k r _ ih =>
  intro a h1 h2
  rw [rightF_cons] at h1
  simp only [Bool.and_eq_true] at h1
  exact ⟨h2, (ih h1.2 h1.1.2).mono h2⟩
theorem gt_hd {a : NdD} {f : NdF} (h : allGt (stp a) f) : hdLess a f = true := by
 cases f with
 | nil => rfl
 | cons b k r => exact h.1
theorem right_cons_iff {a : NdD} {k r : NdF} : rgtF (.cons a k r) = true ↔ rgtX (a, k) = true ∧ allGt (stp a) r ∧ rgtF r = true := by
 rw [rightF_cons]
 simp only [Bool.and_eq_true]
 exact ⟨fun ⟨⟨h1, h2⟩, h3⟩ => ⟨h1, right_gt h3 h2, h3⟩, fun ⟨h1, h2, h3⟩ => ⟨⟨h1, gt_hd h2⟩, h3⟩⟩
def okAt (f : NdF) (i : Nat) : Bool := match f.get? i with
 | none => true
 | some y => rgtX y && (match i with | 0 => true | j + 1 => match f.get? j with | none => true | some z => lessX z.1 y.1)
theorem right_at : ∀ {f : NdF}, rgtF f = true ↔ ∀ i, i < f.len → okAt f i = true := by
 intro f
 induction f with
 | nil => exact ⟨fun _ i h => by simp [Fr.len] at h, fun _ => rfl⟩
 | cons a k r _ ih =>
  rw [rightF_cons]
  simp only [Bool.and_eq_true]
  constructor
  ·intro ⟨⟨h1, h2⟩, h3⟩ i hi
   cases i with
   | zero => simp [okAt, Fr.get?, h1]
   | succ i =>
    have h4 := ih.1 h3 i (by simp only [Fr.len] at hi; omega)
    cases i with
    | zero =>
     cases r with
     | nil => simp [Fr.len] at hi
     | cons b q s => simp only [okAt, Fr.get?, Bool.and_true] at h4 ⊢; simp only [hdLess] at h2; rw [h4, h2]; rfl
    | succ j => simpa [okAt, Fr.get?] using h4
  ·intro h
   refine ⟨⟨?_, ?_⟩, ih.2 fun i hi => ?_⟩
   ·have := h 0 (by simp [Fr.len])
    simpa [okAt, Fr.get?] using this
   ·cases r with
    | nil => rfl
    | cons b q s =>
     have := h 1 (by simp [Fr.len])
     simp only [okAt, Fr.get?, Bool.and_eq_true] at this
     exact this.2
   ·have h4 := h (i + 1) (by simp only [Fr.len]; omega)
    cases i with
    | zero =>
     cases r with
     | nil => simp [Fr.len] at hi
     | cons b q s => simp only [okAt, Fr.get?, Bool.and_eq_true] at h4 ⊢; simp [h4.1]
    | succ j => simpa [okAt, Fr.get?] using h4
theorem right_none {f : NdF} {i : Nat} (hi : i < f.len) (h : okAt f i = false) : rgtF f = false := by
 cases h2 : rgtF f with
 | false => rfl
 | true => rw [right_at.1 h2 i hi] at h; cases h
def findN (s : Stp) : NdF → Option Nat
 | .nil => none
 | .cons a _ r => if stp a = s then some 0 else (findN s r).map (· + 1)
def findIx (s : Stp) (f : NdF) : Int := match findN s f with
 | none => -1
 | some i => (i : Int)
def gtF (s : Stp) : NdF → Option Nd
 | .nil => none
 | .cons a k r => if stp a = s then some (a, k) else gtF s r
def delF (s : Stp) : NdF → NdF
 | .nil => .nil
 | .cons a k r => if stp a = s then r else .cons a k (delF s r)
theorem find_get {s : Stp} : ∀ {f : NdF}, gtF s f = (findN s f).bind f.get? := by
 intro f
 induction f with
 | nil => rfl
 | cons a k r _ ih =>
  simp only [gtF, findN]
  split
  ·rfl
  ·rw [ih]
   cases findN s r <;> rfl
theorem find_stp {s : Stp} : ∀ {f : NdF} {i : Nat}, findN s f = some i → ∃ y, f.get? i = some y ∧ stp y.1 = s ∧ gtF s f = some y := by
 intro f
 induction f with
 | nil => intro i h; cases h
 | cons a k r _ ih =>
  intro i h
  simp only [findN] at h
  split at h
  ·injection h with h; subst h; rename_i e; exact ⟨(a, k), rfl, e, by simp [gtF, e]⟩
  ·rename_i e
   cases hr : findN s r with
   | none => rw [hr] at h; cases h
   | some j =>
    rw [hr] at h
    injection h with h
    subst h
    obtain ⟨y, h1, h2, h3⟩ := ih hr
    exact ⟨y, h1, h2, by simp [gtF, e, h3]⟩
theorem findN_none {s : Stp} {f : NdF} (h : findN s f = none) : gtF s f = none := by rw [find_get, h]; rfl
theorem find_lt {s : Stp} : ∀ {f : NdF} {i : Nat}, (∀ j, j < i → ∀ y, f.get? j = some y → stp y.1 ≠ s) → (∃ y, f.get? i = some y ∧ stp y.1 = s) → findN s f = some i := by
 intro f
 induction f with
 | nil => intro i _ ⟨y, h, _⟩; cases h
 | cons a k r _ ih =>
  intro i h1 ⟨y, h2, h3⟩
  cases i with
  | zero =>
   injection h2 with h2
   subst h2
   simp [findN, h3]
  | succ i =>
   have h4 := h1 0 (by omega) (a, k) rfl
   have h5 := ih (i := i) (fun j hj y hy => h1 (j + 1) (by omega) y hy) ⟨y, h2, h3⟩
   simp only [findN]
   rw [if_neg h4, h5]
   rfl
theorem find_out {s : Stp} : ∀ {f : NdF}, (∀ j, j < f.len → ∀ y, f.get? j = some y → stp y.1 ≠ s) → findN s f = none := by
 intro f
 induction f with
 | nil => intro _; rfl
 | cons a k r _ ih =>
  intro h
  simp only [findN]
  rw [if_neg (h 0 (by simp [Fr.len]) (a, k) rfl), ih (fun j hj y hy => h (j + 1) (by simp only [Fr.len]; omega) y hy)]
  rfl
theorem del_size {s : Stp} {z : Nd} : ∀ {f : NdF}, gtF s f = some z → (delF s f).size + sizeX z = f.size := by
 intro f
 induction f with
 | nil => intro h; cases h
 | cons a k r _ ih =>
  intro h
  simp only [gtF] at h
  simp only [delF]
  split at h
  ·rename_i e; injection h with h; subst h; rw [if_pos e]; simp only [Fr.size, sizeX]; omega
  ·rename_i e; rw [if_neg e]; have := ih h; simp only [Fr.size]; omega
theorem getF_size {s : Stp} {z : Nd} {f : NdF} (h : gtF s f = some z) : sizeX z ≤ f.size := by
 have := del_size h; omega
end Go.Proofs.Ythdhchhpjoghlaa
namespace Go.Proofs.Ythdhchhpjoghlaa
open Go.RowKit
def getX : Nd → List Stp → Option Nd
 | x, [] => some x
 | x, s :: l => match gtF s x.2 with
  | none => none
  | some y => getX y l
def GetX (x : Nd) (l : List Stp) : Nd × Bool := match getX x l with
 | some y => (y, true)
 | none => (noN, false)
theorem get_size : ∀ (l : List Stp) (x z : Nd), getX x l = some z → sizeX z ≤ sizeX x := by
 intro l
 induction l with
 | nil => intro x z h; injection h with h; subst h; exact Nat.le_refl _
 | cons s l ih =>
  intro x z h
  rw [getX.eq_def] at h
  simp only at h
  cases h1 : gtF s x.2 with
  | none => rw [h1] at h; cases h
  | some u =>
   rw [h1] at h
   have h2 := ih u z h
   have h3 := getF_size h1
   simp only [sizeX] at h2 h3 ⊢
   omega
def parts : List Stp → List Stp → Prop
 | s :: a, t :: b => s ≠ t ∨ parts a b
 | _, _ => False
end Go.Proofs.Ythdhchhpjoghlaa
namespace Go.Proofs.Ythdhchhpjoghlaa
open Go.RowKit
structure EdD where
 kind : Int
 way : List Stp
 node : Nd
 old : Nd
theorem EdD.ext_ {a b : EdD} (h1 : a.kind = b.kind) (h2 : a.way = b.way) (h3 : a.node = b.node) (h4 : a.old = b.old) : a = b := by
 cases a; cases b; simp_all
instance : DecidableEq EdD := fun a b => decidable_of_iff (a.kind = b.kind ∧ a.way = b.way ∧ a.node = b.node ∧ a.old = b.old)
 ⟨fun ⟨h1, h2, h3, h4⟩ => EdD.ext_ h1 h2 h3 h4, fun h => by subst h; exact ⟨rfl, rfl, rfl, rfl⟩⟩
abbrev delE (w : List Stp) (y : Nd) : EdD := ⟨2, w, noN, y⟩
abbrev newE (w : List Stp) (y : Nd) : EdD := ⟨1, w, y, noN⟩
def edF : NdF → NdF → List Stp → List EdD
 | .nil, .nil, _ => []
 | .cons a k r, .nil, w => delE (w ++ [stp a]) (a, k) :: edF r .nil w
 | .nil, .cons b q s, w => newE (w ++ [stp b]) (b, q) :: edF .nil s w
 | .cons a k r, .cons b q s, w =>
  if lessX a b = true then delE (w ++ [stp a]) (a, k) :: edF r (.cons b q s) w
  else if lessX b a = true then newE (w ++ [stp b]) (b, q) :: edF (.cons a k r) s w
  else (if a = b ∧ k = q then [] else if a.kind ≠ 0 ∧ b.kind ≠ 0 then [⟨3, w ++ [stp a], (b, q), (a, k)⟩]
   else if a.kind = 0 ∧ b.kind = 0 then edF k q (w ++ [stp a]) else [delE (w ++ [stp a]) (a, k), newE (w ++ [stp a]) (b, q)]) ++ edF r s w
termination_by f g => f.size + g.size
decreasing_by all_goals (simp only [Fr.size]; omega)
def edK (x y : Nd) (w : List Stp) : List EdD := if x = y then [] else if x.1.kind ≠ 0 ∧ y.1.kind ≠ 0 then [⟨3, w, y, x⟩] else if x.1.kind = 0 ∧ y.1.kind = 0 then edF x.2 y.2 w else [delE w x, newE w y]
theorem edF_nil (w : List Stp) : edF .nil .nil w = [] := by rw [edF]
theorem edF_del (a : NdD) (k r : NdF) (w : List Stp) : edF (.cons a k r) .nil w = delE (w ++ [stp a]) (a, k) :: edF r .nil w := by rw [edF]
theorem edF_new (b : NdD) (q s : NdF) (w : List Stp) : edF .nil (.cons b q s) w = newE (w ++ [stp b]) (b, q) :: edF .nil s w := by rw [edF]
theorem edF_both (a b : NdD) (k r q s : NdF) (w : List Stp) : edF (.cons a k r) (.cons b q s) w = if lessX a b = true then delE (w ++ [stp a]) (a, k) :: edF r (.cons b q s) w
  else if lessX b a = true then newE (w ++ [stp b]) (b, q) :: edF (.cons a k r) s w else edK (a, k) (b, q) (w ++ [stp a]) ++ edF r s w := by
 rw [edF]
 unfold edK
 simp only [Prod.mk.injEq]
theorem ed_ind {P : NdF → NdF → List Stp → Prop} (h0 : ∀ w, P .nil .nil w) (h1 : ∀ a k r w, P r .nil w → P (.cons a k r) .nil w) (h2 : ∀ b q s w, P .nil s w → P .nil (.cons b q s) w)
  (h3 : ∀ a k r b q s w, lessX a b = true → P r (.cons b q s) w → P (.cons a k r) (.cons b q s) w)
  (h4 : ∀ a k r b q s w, lessX a b = false → lessX b a = true → P (.cons a k r) s w → P (.cons a k r) (.cons b q s) w)
  (h5 : ∀ a k r b q s w, lessX a b = false → lessX b a = false → stp a = stp b → P k q (w ++ [stp a]) → P r s w → P (.cons a k r) (.cons b q s) w) : ∀ f g w, P f g w := by
 have main : ∀ n f g w, f.size + g.size ≤ n → P f g w := by
  intro n
  induction n with
  | zero =>
   intro f g w h
   cases f with
   | nil => cases g with
    | nil => exact h0 w
    | cons b q s => simp only [Fr.size] at h; omega
   | cons a k r => simp only [Fr.size] at h; omega
  | succ n ih =>
   intro f g w h
   cases f with
   | nil => cases g with
    | nil => exact h0 w
    | cons b q s => exact h2 b q s w (ih _ _ _ (by simp only [Fr.size] at h ⊢; omega))
   | cons a k r => cases g with
    | nil => exact h1 a k r w (ih _ _ _ (by simp only [Fr.size] at h ⊢; omega))
    | cons b q s =>
     cases hab : lessX a b with
     | true => exact h3 a k r b q s w hab (ih _ _ _ (by simp only [Fr.size] at h ⊢; omega))
     | false => cases hba : lessX b a with
      | true => exact h4 a k r b q s w hab hba (ih _ _ _ (by simp only [Fr.size] at h ⊢; omega))
      | false =>
       refine h5 a k r b q s w hab hba ?_ (ih _ _ _ (by simp only [Fr.size] at h ⊢; omega)) (ih _ _ _ (by simp only [Fr.size] at h ⊢; omega))
       by_cases e : stp a = stp b
       ·exact e
       ·rcases lessS_total e with h | h
        ·unfold lessX at hab; rw [h] at hab; cases hab
        ·unfold lessX at hba; rw [h] at hba; cases hba
 exact fun f g w => main _ f g w (Nat.le_refl _)
theorem edF_lt {a b : NdD} (h : lessX a b = true) (k r q s : NdF) (w : List Stp) : edF (.cons a k r) (.cons b q s) w = delE (w ++ [stp a]) (a, k) :: edF r (.cons b q s) w := by rw [edF_both, if_pos h]
theorem edF_gt {a b : NdD} (h1 : lessX a b = false) (h : lessX b a = true) (k r q s : NdF) (w : List Stp) : edF (.cons a k r) (.cons b q s) w = newE (w ++ [stp b]) (b, q) :: edF (.cons a k r) s w := by
 rw [edF_both, if_neg (by rw [h1]; simp), if_pos h]
theorem edF_eq {a b : NdD} (h1 : lessX a b = false) (h : lessX b a = false) (k r q s : NdF) (w : List Stp) : edF (.cons a k r) (.cons b q s) w = edK (a, k) (b, q) (w ++ [stp a]) ++ edF r s w := by
 rw [edF_both, if_neg (by rw [h1]; simp), if_neg (by rw [h]; simp)]
theorem edK_len {x y : Nd} {w w' : List Stp} (h : (edF x.2 y.2 w).length = (edF y.2 x.2 w').length) : (edK x y w).length = (edK y x w').length := by
 unfold edK
 by_cases e : x = y
 ·rw [if_pos e, if_pos (show y = x from e.symm)]
 rw [if_neg e, if_neg (show ¬ y = x from fun h => e h.symm)]
 by_cases c1 : x.1.kind ≠ 0 ∧ y.1.kind ≠ 0
 ·rw [if_pos c1, if_pos (show y.1.kind ≠ 0 ∧ x.1.kind ≠ 0 from ⟨c1.2, c1.1⟩)]; rfl
 rw [if_neg c1, if_neg (show ¬ (y.1.kind ≠ 0 ∧ x.1.kind ≠ 0) from fun h => c1 ⟨h.2, h.1⟩)]
 by_cases c2 : x.1.kind = 0 ∧ y.1.kind = 0
 ·rw [if_pos c2, if_pos (show y.1.kind = 0 ∧ x.1.kind = 0 from ⟨c2.2, c2.1⟩)]; exact h
 ·rw [if_neg c2, if_neg (show ¬ (y.1.kind = 0 ∧ x.1.kind = 0) from fun h => c2 ⟨h.2, h.1⟩)]; rfl
theorem ed_back (f g : NdF) (w : List Stp) : ∀ w', (edF f g w).length = (edF g f w').length := by
 refine ed_ind (P := fun f g w => ∀ w', (edF f g w).length = (edF g f w').length) (fun w w' => by rw [edF_nil, edF_nil]) (fun a k r w ih w' => ?_) (fun b q s w ih w' => ?_) (fun a k r b q s w h ih w' => ?_) (fun a k r b q s w h1 h2 ih w' => ?_) (fun a k r b q s w h1 h2 _ ihk ih w' => ?_) f g w
 ·rw [edF_del, edF_new, List.length_cons, List.length_cons, ih w']
 ·rw [edF_del, edF_new, List.length_cons, List.length_cons, ih w']
 ·rw [edF_lt h, edF_gt (lessS_asymm h) h, List.length_cons, List.length_cons, ih w']
 ·rw [edF_gt h1 h2, edF_lt h2, List.length_cons, List.length_cons, ih w']
 ·rw [edF_eq h1 h2, edF_eq h2 h1, List.length_append, List.length_append, ih w', edK_len (ihk (w' ++ [stp b]))]
theorem ed_self : ∀ (f : NdF) (w : List Stp), edF f f w = [] := by
 intro f
 induction f with
 | nil => intro w; exact edF_nil w
 | cons a k r _ ih =>
  intro w
  have h : lessX a a = false := lessS_irrefl _
  rw [edF_eq h h, ih w]
  unfold edK
  rw [if_pos rfl]
  rfl
theorem ed_none (f g : NdF) (w : List Stp) : rgtF f = true → rgtF g = true → edF f g w = [] → f = g := by
 refine ed_ind (P := fun f g w => rgtF f = true → rgtF g = true → edF f g w = [] → f = g) (fun w _ _ _ => rfl) (fun a k r w ih _ _ h => ?_) (fun b q s w ih _ _ h => ?_) (fun a k r b q s w h ih _ _ h' => ?_) (fun a k r b q s w h1 h2 ih _ _ h' => ?_) (fun a k r b q s w h1 h2 hs ihk ih hf hg h => ?_) f g w
 ·rw [edF_del] at h; cases h
 ·rw [edF_new] at h; cases h
 ·rw [edF_lt h] at h'; cases h'
 ·rw [edF_gt h1 h2] at h'; cases h'
 ·rw [edF_eq h1 h2] at h
  obtain ⟨hk, hr⟩ := List.append_eq_nil_iff.1 h
  obtain ⟨ra, _, rr⟩ := right_cons_iff.1 hf
  obtain ⟨rb, _, rs⟩ := right_cons_iff.1 hg
  obtain rfl := ih rr rs hr
  unfold edK at hk
  by_cases e : (a, k) = (b, q)
  ·injection e with e1 e2; subst e1 e2; rfl
  rw [if_neg e] at hk
  by_cases c1 : a.kind ≠ 0 ∧ b.kind ≠ 0
  ·rw [if_pos c1] at hk; cases hk
  rw [if_neg c1] at hk
  by_cases c2 : a.kind = 0 ∧ b.kind = 0
  ·rw [if_pos c2] at hk
   unfold rgtX at ra rb
   rw [if_neg (by simp [c2.1])] at ra
   rw [if_neg (by simp [c2.2])] at rb
   simp only [Bool.and_eq_true, decide_eq_true_eq] at ra rb
   obtain rfl := ihk ra.2 rb.2 hk
   have hn := congrArg Prod.fst hs
   have hy := congrArg Prod.snd hs
   have : a = b := NdD.ext_ hn hy (by rw [c2.1, c2.2]) (by rw [ra.1.1, rb.1.1]) (by rw [ra.1.2, rb.1.2])
   rw [this]
  ·rw [if_neg c2] at hk; cases hk
def inv1 (e : EdD) : Option EdD := if e.kind = 1 then some ⟨2, e.way, noN, e.node⟩ else if e.kind = 2 then some ⟨1, e.way, e.old, noN⟩ else if e.kind = 3 then some ⟨3, e.way, e.old, e.node⟩ else none
def invX (l : List EdD) : List EdD := l.reverse.filterMap inv1
def Prp (e : EdD) : Prop := (e.kind = 1 ∧ e.old = noN) ∨ (e.kind = 2 ∧ e.node = noN) ∨ e.kind = 3
theorem inv1_prp {e : EdD} (h : Prp e) : ∃ e', inv1 e = some e' ∧ inv1 e' = some e ∧ Prp e' := by
 obtain ⟨k, w, n, o⟩ := e
 rcases h with ⟨h1, h2⟩ | ⟨h1, h2⟩ | h1
 ·simp only at h1 h2; subst h1 h2; exact ⟨_, rfl, rfl, .inr (.inl ⟨rfl, rfl⟩)⟩
 ·simp only at h1 h2; subst h1 h2; exact ⟨_, rfl, rfl, .inl ⟨rfl, rfl⟩⟩
 ·simp only at h1; subst h1; exact ⟨_, rfl, rfl, .inr (.inr rfl)⟩
theorem inv_inv : ∀ {l : List EdD}, (∀ e ∈ l, Prp e) → invX (invX l) = l ∧ (invX l).length = l.length := by
 intro l
 unfold invX
 rw [← List.filterMap_reverse, List.reverse_reverse]
 induction l with
 | nil => intro _; exact ⟨rfl, rfl⟩
 | cons e l ih =>
  intro h
  obtain ⟨e', h1, h2, _⟩ := inv1_prp (h e (by simp))
  obtain ⟨g1, g2⟩ := ih fun x hx => h x (by simp [hx])
  refine ⟨?_, ?_⟩
  ·rw [List.filterMap_cons, h1]
   simp only
   rw [List.filterMap_cons, h2]
   simp only
   rw [g1]
  ·rw [List.reverse_cons, List.filterMap_append, List.length_append, g2]
   simp [h1]
def Shp (w : List Stp) (e : EdD) : Prop := Prp e ∧ ∃ m y, e.way = w ++ m ++ [stp y.1] ∧ y = (if e.kind = 2 then e.old else e.node)
theorem edK_shp {x y : Nd} {w : List Stp} (hs : stp x.1 = stp y.1) (h : ∀ e ∈ edF x.2 y.2 (w ++ [stp x.1]), Shp (w ++ [stp x.1]) e) : ∀ e ∈ edK x y (w ++ [stp x.1]), Shp w e ∧ ∃ m, e.way = w ++ [stp x.1] ++ m := by
 intro e he
 unfold edK at he
 split at he
 ·cases he
 ·split at he
  ·simp only [List.mem_cons, List.not_mem_nil, or_false] at he
   subst he
   exact ⟨⟨.inr (.inr rfl), [], y, by rw [List.append_nil, hs], rfl⟩, [], by simp⟩
  ·split at he
   ·obtain ⟨h1, m, z, h2, h3⟩ := h e he
    exact ⟨⟨h1, [stp x.1] ++ m, z, by rw [h2]; simp, h3⟩, m ++ [stp z.1], by rw [h2]; simp⟩
   ·simp only [List.mem_cons, List.not_mem_nil, or_false] at he
    rcases he with rfl | rfl
    ·exact ⟨⟨.inr (.inl ⟨rfl, rfl⟩), [], x, by simp, rfl⟩, [], by simp⟩
    ·exact ⟨⟨.inl ⟨rfl, rfl⟩, [], y, by rw [List.append_nil, hs], rfl⟩, [], by simp⟩
theorem ed_shp (f g : NdF) (w : List Stp) : ∀ e ∈ edF f g w, Shp w e := by
 refine ed_ind (P := fun f g w => ∀ e ∈ edF f g w, Shp w e) (fun w e he => by rw [edF_nil] at he; cases he) (fun a k r w ih e he => ?_) (fun b q s w ih e he => ?_) (fun a k r b q s w h ih e he => ?_) (fun a k r b q s w h1 h2 ih e he => ?_) (fun a k r b q s w h1 h2 hs ihk ih e he => ?_) f g w
 ·rw [edF_del] at he
  rcases List.mem_cons.1 he with rfl | he
  ·exact ⟨.inr (.inl ⟨rfl, rfl⟩), [], (a, k), by simp, rfl⟩
  ·exact ih e he
 ·rw [edF_new] at he
  rcases List.mem_cons.1 he with rfl | he
  ·exact ⟨.inl ⟨rfl, rfl⟩, [], (b, q), by simp, rfl⟩
  ·exact ih e he
 ·rw [edF_lt h] at he
  rcases List.mem_cons.1 he with rfl | he
  ·exact ⟨.inr (.inl ⟨rfl, rfl⟩), [], (a, k), by simp, rfl⟩
  ·exact ih e he
 ·rw [edF_gt h1 h2] at he
  rcases List.mem_cons.1 he with rfl | he
  ·exact ⟨.inl ⟨rfl, rfl⟩, [], (b, q), by simp, rfl⟩
  ·exact ih e he
 ·rw [edF_eq h1 h2] at he
  rcases List.mem_append.1 he with he | he
  ·exact (edK_shp (x := (a, k)) (y := (b, q)) hs ihk e he).1
  ·exact ih e he
def undE (l : List EdD) (way : List Stp) : Nat := (l.filter fun e => decide (e.way.take way.length = way)).length
theorem und_cons (e : EdD) (l : List EdD) (way : List Stp) : undE (e :: l) way = (if e.way.take way.length = way then 1 else 0) + undE l way := by
 unfold undE
 rw [List.filter_cons]
 by_cases h : e.way.take way.length = way
 ·rw [if_pos (by simpa using h), if_pos h, List.length_cons]; omega
 ·rw [if_neg (by simpa using h), if_neg h]; omega
theorem und_app (l m : List EdD) (way : List Stp) : undE (l ++ m) way = undE l way + undE m way := by
 unfold undE
 rw [List.filter_append, List.length_append]
theorem und_all {l : List EdD} {way : List Stp} (h : ∀ e ∈ l, e.way.take way.length = way) : undE l way = l.length := by
 unfold undE
 rw [List.filter_eq_self.2 (fun e he => by simpa using h e he)]
theorem und_no {l : List EdD} {way : List Stp} (h : ∀ e ∈ l, e.way.take way.length ≠ way) : undE l way = 0 := by
 unfold undE
 rw [List.filter_eq_nil_iff.2 (fun e he => by simpa using h e he)]
 rfl
def stepsF : NdF → List Stp
 | .nil => []
 | .cons a _ r => stp a :: stepsF r
theorem gt_not : ∀ {f : NdF} {s : Stp}, allGt s f → s ∉ stepsF f := by
 intro f
 induction f with
 | nil => intro s _ h; cases h
 | cons a k r _ ih =>
  intro s ⟨h1, h2⟩ h
  rcases List.mem_cons.1 h with rfl | h
  ·rw [lessS_irrefl] at h1; cases h1
  ·exact ih h2 h
theorem edK_und {x y : Nd} {s : Stp} (hs : stp x.1 = stp y.1) : undE (edK x y [stp x.1]) [s] = if s = stp x.1 then (edK x y [stp x.1]).length else 0 := by
 have hw : ∀ e ∈ edK x y ([] ++ [stp x.1]), ∃ m, e.way = [] ++ [stp x.1] ++ m := fun e he => (edK_shp (w := []) hs (ed_shp _ _ _) e he).2
 by_cases h : s = stp x.1
 ·rw [if_pos h]
  refine und_all fun e he => ?_
  obtain ⟨m, hm⟩ := hw e he
  rw [hm, h]
  simp
 ·rw [if_neg h]
  refine und_no fun e he => ?_
  obtain ⟨m, hm⟩ := hw e he
  rw [hm]
  simp
  exact fun e => h e.symm
def sumU (l : List EdD) : NdF → Nat
 | .nil => 0
 | .cons a _ r => undE l [stp a] + sumU l r
def onlyG (f : NdF) : NdF → Nat
 | .nil => 0
 | .cons b _ s => (if stp b ∈ stepsF f then 0 else 1) + onlyG f s
theorem sumU_cons (l : List EdD) (a : NdD) (k r : NdF) : sumU l (.cons a k r) = undE l [stp a] + sumU l r := rfl
theorem sumU_more (e : EdD) (l : List EdD) : ∀ f : NdF, (∀ s ∈ stepsF f, e.way.take 1 ≠ [s]) → sumU (e :: l) f = sumU l f := by
 intro f
 induction f with
 | nil => intro _; rfl
 | cons a k r _ ih =>
  intro h
  rw [sumU_cons, sumU_cons, und_cons, if_neg (by simpa using h (stp a) (by simp [stepsF])), ih fun s hs => h s (by simp [stepsF, hs]), Nat.zero_add]
theorem sumU_app (m l : List EdD) : ∀ f : NdF, (∀ e ∈ m, ∀ s ∈ stepsF f, e.way.take 1 ≠ [s]) → sumU (m ++ l) f = sumU l f := by
 induction m with
 | nil => intro f _; rfl
 | cons e m ih =>
  intro f h
  rw [List.cons_append, sumU_more e _ f (h e (by simp)), ih f fun x hx => h x (by simp [hx])]
theorem onlyG_cons {a : NdD} {k r : NdF} : ∀ g : NdF, stp a ∉ stepsF g → onlyG (.cons a k r) g = onlyG r g := by
 intro g
 induction g with
 | nil => intro _; rfl
 | cons b q s _ ih =>
  intro h
  simp only [stepsF, List.mem_cons, not_or] at h
  unfold onlyG
  rw [ih h.2]
  congr 1
  simp only [stepsF, List.mem_cons]
  by_cases c : stp b ∈ stepsF r
  ·rw [if_pos c, if_pos (.inr c)]
  ·rw [if_neg c, if_neg]
   rintro (e | e)
   ·exact h.1 e.symm
   ·exact c e
theorem ed_parts (f g : NdF) (w : List Stp) : w = [] → rgtF f = true → rgtF g = true →
  (∀ s, s ∉ stepsF f → s ∉ stepsF g → undE (edF f g w) [s] = 0) ∧ (∀ s, s ∉ stepsF f → s ∈ stepsF g → undE (edF f g w) [s] = 1) ∧ (edF f g w).length = sumU (edF f g w) f + onlyG f g := by
 refine ed_ind (P := fun f g w => w = [] → rgtF f = true → rgtF g = true → (∀ s, s ∉ stepsF f → s ∉ stepsF g → undE (edF f g w) [s] = 0) ∧ (∀ s, s ∉ stepsF f → s ∈ stepsF g → undE (edF f g w) [s] = 1) ∧ (edF f g w).length = sumU (edF f g w) f + onlyG f g)
  (fun w h _ _ => ?_) (fun a k r w ih h hf _ => ?_) (fun b q s w ih h _ hg => ?_) (fun a k r b q s w hab ih h hf hg => ?_) (fun a k r b q s w h1 h2 ih h hf hg => ?_) (fun a k r b q s w h1 h2 hs ihk ih h hf hg => ?_) f g w
 ·rw [edF_nil]; exact ⟨fun _ _ _ => rfl, fun s _ h => (by cases h), rfl⟩
 ·subst h
  obtain ⟨_, ga, rr⟩ := right_cons_iff.1 hf
  obtain ⟨i1, i2, i3⟩ := ih rfl rr rfl
  rw [edF_del]
  refine ⟨fun t ht _ => ?_, fun t _ h => (by cases h), ?_⟩
  ·simp only [stepsF, List.mem_cons, not_or] at ht
   rw [und_cons, i1 t ht.2 (by simp [stepsF]), if_neg (by simp; exact fun e => ht.1 e.symm)]
  ·rw [List.length_cons, i3]
   rw [sumU_cons, und_cons, if_pos (by simp), i1 _ (gt_not ga) (by simp [stepsF]), sumU_more _ _ r (fun t ht => by simp; intro e; subst e; exact gt_not ga ht)]
   simp only [onlyG]
   omega
 ·subst h
  obtain ⟨_, gb, rs⟩ := right_cons_iff.1 hg
  obtain ⟨i1, i2, i3⟩ := ih rfl rfl rs
  rw [edF_new]
  refine ⟨fun t _ ht => ?_, fun t _ ht => ?_, ?_⟩
  ·simp only [stepsF, List.mem_cons, not_or] at ht
   rw [und_cons, i1 t (by simp [stepsF]) ht.2, if_neg (by simp; exact fun e => ht.1 e.symm)]
  ·rw [und_cons]
   rcases List.mem_cons.1 ht with rfl | ht
   ·rw [if_pos (by simp), i1 _ (by simp [stepsF]) (gt_not gb)]
   ·rw [i2 t (by simp [stepsF]) ht, if_neg (by simp; intro e; subst e; exact gt_not gb ht)]
  ·rw [List.length_cons, i3]
   simp only [sumU, onlyG]
   rw [if_neg (by simp [stepsF])]
   omega
 ·subst h
  obtain ⟨_, ga, rr⟩ := right_cons_iff.1 hf
  obtain ⟨_, gb, rs⟩ := right_cons_iff.1 hg
  obtain ⟨i1, i2, i3⟩ := ih rfl rr hg
  have hag : stp a ∉ stepsF (.cons b q s) := gt_not (f := .cons b q s) ⟨hab, gb.mono hab⟩
  rw [edF_lt hab]
  refine ⟨fun t ht ht2 => ?_, fun t ht ht2 => ?_, ?_⟩
  ·simp only [stepsF, List.mem_cons, not_or] at ht
   rw [und_cons, i1 t ht.2 ht2, if_neg (by simp; exact fun e => ht.1 e.symm)]
  ·simp only [stepsF, List.mem_cons, not_or] at ht
   rw [und_cons, i2 t ht.2 ht2, if_neg (by simp; exact fun e => ht.1 e.symm)]
  ·rw [List.length_cons, i3]
   rw [sumU_cons, und_cons, if_pos (by simp), i1 _ (gt_not ga) hag, sumU_more _ _ r (fun t ht => by simp; intro e; subst e; exact gt_not ga ht), onlyG_cons _ hag]
   omega
 ·subst h
  obtain ⟨_, ga, rr⟩ := right_cons_iff.1 hf
  obtain ⟨_, gb, rs⟩ := right_cons_iff.1 hg
  obtain ⟨i1, i2, i3⟩ := ih rfl hf rs
  have hbf : stp b ∉ stepsF (.cons a k r) := gt_not (f := .cons a k r) ⟨h2, ga.mono h2⟩
  rw [edF_gt h1 h2]
  refine ⟨fun t ht ht2 => ?_, fun t ht ht2 => ?_, ?_⟩
  ·simp only [stepsF, List.mem_cons, not_or] at ht2
   rw [und_cons, i1 t ht ht2.2, if_neg (by simp; exact fun e => ht2.1 e.symm)]
  ·rw [und_cons]
   rcases List.mem_cons.1 ht2 with rfl | ht2
   ·rw [if_pos (by simp), i1 _ ht (gt_not gb)]
   ·rw [i2 t ht ht2, if_neg (by simp; intro e; subst e; exact gt_not gb ht2)]
  ·rw [List.length_cons, i3, sumU_more _ _ _ (fun t ht => by simp; intro e; subst e; exact hbf ht)]
   simp only [onlyG]
   rw [if_neg hbf]
   omega
 ·subst h
  obtain ⟨_, ga, rr⟩ := right_cons_iff.1 hf
  obtain ⟨_, gb, rs⟩ := right_cons_iff.1 hg
  obtain ⟨i1, i2, i3⟩ := ih rfl rr rs
  have gb' : allGt (stp a) s := by rw [hs]; exact gb
  rw [edF_eq h1 h2, List.nil_append]
  have hu := fun t => edK_und (x := (a, k)) (y := (b, q)) (s := t) hs
  simp only at hu
  refine ⟨fun t ht ht2 => ?_, fun t ht ht2 => ?_, ?_⟩
  ·simp only [stepsF, List.mem_cons, not_or] at ht ht2
   rw [und_app, hu, if_neg ht.1, i1 t ht.2 ht2.2]
  ·simp only [stepsF, List.mem_cons, not_or] at ht
   rcases List.mem_cons.1 ht2 with h | ht2
   ·exact absurd (h.trans hs.symm) ht.1
   ·rw [und_app, hu, if_neg ht.1, i2 t ht.2 ht2]
  ·rw [List.length_append, i3]
   rw [sumU_cons, und_app, hu, if_pos rfl, i1 _ (gt_not ga) (gt_not gb')]
   have hm : ∀ e ∈ edK (a, k) (b, q) [stp a], ∀ t ∈ stepsF r, e.way.take 1 ≠ [t] := fun e he t ht h => by
    obtain ⟨m, hm⟩ := (edK_shp (w := []) (x := (a, k)) (y := (b, q)) hs (ed_shp _ _ _) e he).2
    rw [hm] at h
    simp at h
    subst h
    exact gt_not ga ht
   rw [sumU_app _ _ r hm]
   have : onlyG (.cons a k r) (.cons b q s) = onlyG r s := by
    show (if stp b ∈ stepsF (.cons a k r) then 0 else 1) + onlyG (.cons a k r) s = onlyG r s
    rw [if_pos (by simp [stepsF, hs]), onlyG_cons s (gt_not gb')]
    omega
   rw [this]
   omega
end Go.Proofs.Ythdhchhpjoghlaa
namespace Go.Proofs.Ythdhchhpjoghlaa
open Go.RowKit
section
variable {α : Type} {D : RdOf α} {e : TypeId} {K p : Nat} {w w' : World} {base : Nat} {S S' N N' : Nat → Prop} {v : Value} {f : Fr α}
theorem FrV.lit {g c : Nat} {xs : List Value} (hS : S g) (hb : Blk w g e xs.toArray) (hr : rowG D K p w S N xs f) (hc : f.len ≤ c) : FrV D K p w S N (.slice (some ⟨g, 0, none⟩) f.len c) f :=
 ⟨_, c, rfl, hc, fun _ => ⟨g, 0, rfl, hS, hr.at (fun j u hj => by
  rw [Nat.zero_add, hb.cell]
  simpa using hj)⟩⟩
theorem OwnK.lit {k n g : Nat} {xs : List Value} (hb : Blk w g e xs.toArray) (hg : base ≤ g) (hl : xs.length = n * k) (hn : n ≤ maxLen) : OwnK e k w base (.slice (some ⟨g, 0, none⟩) n n) n xs :=
 ⟨hl, .inr ⟨g, n, xs.toArray, rfl, hg, hb, Nat.le_refl _, hn, by simpa using hl, by simp [← hl]⟩⟩
theorem OwnG.lit {g : Nat} {xs : List Value} (hb : Blk w g e xs.toArray) (hg : base ≤ g) (hn : f.len ≤ maxLen) (hr : rowG D K p w S N xs f) (hS : ∀ k, S k → k < w.heap.size ∧ k ≠ g) (hN : ∀ k, N k → k < w.heap.size ∧ k ≠ g) : OwnG D e K p w base S N (.slice (some ⟨g, 0, none⟩) f.len f.len) f :=
 ⟨fun k hk => ⟨(hS k hk).1, by intro h; injection h with h; exact (hS k hk).2 h⟩, fun k hk => ⟨(hN k hk).1, by intro h; injection h with h; exact (hN k hk).2 h⟩, xs, OwnK.lit hb hg hr.len hn, hr⟩
theorem OwnG.grown (hD : StayD D) {row : Option Nat} (h : OwnG D e K p w base S N v f) (hg : w.grownBy w' row) (hne : v.ownBlock = none ∨ v.ownBlock ≠ row) (hS : ∀ g, S g → some g ≠ row) (hN : ∀ g, N g → some g ≠ row) : OwnG D e K p w' base S N v f := by
 obtain ⟨h1, h2, xs, h3, h4⟩ := h
 exact ⟨fun g hg' => ⟨Nat.lt_of_lt_of_le (h1 g hg').1 hg.size, (h1 g hg').2⟩, fun g hg' => ⟨Nat.lt_of_lt_of_le (h2 g hg').1 hg.size, (h2 g hg').2⟩, xs, h3.grown hg hne,
  h4.kept hD (fun g hg' => hg.block g (h1 g hg').1 (hS g hg')) (fun _ h => h) (fun g hg' => hg.block g (h2 g hg').1 (hN g hg')) (fun _ h => h)⟩
def AppG (D : RdOf α) (e : TypeId) (K p : Nat) (base : Nat) (S N : Nat → Prop) (w : World) (v : Value) (f : Fr α) (v' : Value) (w' : World) : Prop :=
 OwnG D e K p w' base S N v' f ∧ w.grownBy w' v.ownBlock ∧ (v'.ownBlock = v.ownBlock ∨ v'.ownBlock = some w.heap.size) ∧ ∃ g c, v' = .slice (some ⟨g, 0, none⟩) f.len c
theorem AppG.below {v' : Value} {g : Fr α} (h : AppG D e K p base S N w v g v' w') (hown : OwnG D e K p w base S N v f) (hb : base ≤ w.heap.size) : Below base w w' :=
 (Below.refl _ _).grown h.2.1 hb fun b e => (hown.lt b e).1
end
end Go.Proofs.Ythdhchhpjoghlaa
