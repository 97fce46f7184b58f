/- What ValidClasses stands on: FrmRow, TreNum, TreWay, ForestB, TreMem. -/
import Derived.Test.YtljjaikejfoanaaGreatXM0
import Derived.ArgAppend
set_option linter.unusedSimpArgs false
set_option linter.unusedVariables false
namespace Go.Proofs.YtljjaikejfoanaaGreat
open Go.RowKit
def Vals (w : World) (d : Nat) (v : Value) (xs : List Value) : Prop :=
 ∃ A c, v = .slice A xs.length c ∧ xs.length ≤ c ∧ (0 < xs.length → d < w.heap.size ∧ ∃ off, A = some ⟨d, off, none⟩ ∧ ∀ j u, xs[j]? = some u → w.cell? ⟨d, off + j, none⟩ = some u)
section
variable {w w' : World} {d : Nat} {v : Value} {xs : List Value}
theorem Vals.shape (h : Vals w d v xs) : ∃ A c, v = .slice A xs.length c := by obtain ⟨A, c, h, _⟩ := h; exact ⟨A, c, h⟩
theorem Vals.nil (w : World) (d : Nat) : Vals w d (.slice none 0 0) [] := ⟨none, 0, rfl, Nat.le_refl _, fun h => absurd h (by simp)⟩
theorem Vals.below {B : Nat} (h : Vals w d v xs) (hb : Below B w w') (hd : 0 < xs.length → d < B) : Vals w' d v xs := by
 obtain ⟨A, c, rfl, h1, h2⟩ := h
 refine ⟨A, c, rfl, h1, fun hp => ?_⟩
 obtain ⟨hlt, off, rfl, hc⟩ := h2 hp
 exact ⟨Nat.lt_of_lt_of_le hlt hb.size, off, rfl, fun j x hx => (hb.cell (p := ⟨d, off + j, none⟩) (hd hp)).trans (hc j x hx)⟩
theorem Vals.lt (h : Vals w d v xs) (hp : 0 < xs.length) : d < w.heap.size := by obtain ⟨A, c, rfl, h1, h2⟩ := h; exact (h2 hp).1
theorem Vals.at {A : Option Addr} {n c : Nat} (h : Vals w d (.slice A n c) xs) {j : Nat} {u : Value} (hj : xs[j]? = some u) :
  ∃ off, A = some ⟨d, off, none⟩ ∧ d < w.heap.size ∧ j < n ∧ n = xs.length ∧ w.cell? ⟨d, off + j, none⟩ = some u := by
 obtain ⟨A', c', he, h1, h2⟩ := h
 injection he with e1 e2 e3
 subst e1 e2 e3
 have hjl : j < xs.length := (List.getElem?_eq_some_iff.1 hj).1
 obtain ⟨hlt, off, rfl, hc⟩ := h2 (by omega)
 exact ⟨off, rfl, hlt, hjl, rfl, hc j u hj⟩
end
def OwnV (e : TypeId) (w : World) (base : Nat) (v : Value) (xs : List Value) : Prop := w.ownsRow base e 1 v xs.length xs
section
variable {w w' : World} {e : TypeId} {base : Nat} {v : Value} {xs : List Value}
theorem OwnV.nil (w : World) (base : Nat) : OwnV e w base (.slice none 0 0) [] := World.ownsRow_nil w base e 1
theorem OwnV.below (h : OwnV e w base v xs) (hb : Below w.heap.size w w') : OwnV e w' base v xs :=
 World.ownsRow.kept h ⟨hb.os, hb.tape, hb.output, hb.size, fun k hk _ => hb.block k hk⟩ (row := none) (by cases hv : v.ownBlock <;> simp)
theorem OwnV.lt (h : OwnV e w base v xs) : ∀ k, v.ownBlock = some k → base ≤ k ∧ k < w.heap.size := fun k hk => World.ownsRow.lt h k hk
end
def AppV (e : TypeId) (w : World) (base : Nat) (v : Value) (xs : List Value) (v' : Value) (w' : World) : Prop :=
 OwnV e w' base v' xs ∧ w.grownBy w' v.ownBlock ∧ (v'.ownBlock = v.ownBlock ∨ v'.ownBlock = some w.heap.size) ∧ ∃ g c, v' = .slice (some ⟨g, 0, none⟩) xs.length c
theorem AppV.below {e : TypeId} {w w' : World} {base : Nat} {v v' : Value} {xs ys : List Value} (h : AppV e w base v xs v' w') (hown : OwnV e w base v ys) (hb : base ≤ w.heap.size) : Below base w w' :=
 (Below.refl _ _).grown h.2.1 hb fun k e => (hown.lt k e).1
def txts (ls : List (List UInt8)) : List Value := ls.map fun l => .string (txt l)
theorem txts_at {ls : List (List UInt8)} {j : Nat} {l : List UInt8} (h : ls[j]? = some l) : (txts ls)[j]? = some (.string (txt l)) := by simp [txts, h]
end Go.Proofs.YtljjaikejfoanaaGreat
namespace Go.Proofs.YtljjaikejfoanaaGreat
open Go.RowKit
abbrev ltY (a b : List UInt8) : Bool := Go.Op.bytesLess a b
theorem u8_lt_irrefl (a : UInt8) : ¬ a < a := by rw [UInt8.lt_iff_toNat_lt]; omega
theorem ltB_irrefl : ∀ a : List UInt8, ltY a a = false := by
 intro a
 induction a with
 | nil => rfl
 | cons x a ih =>
  have h : ltY (x :: a) (x :: a) = (decide (x < x) || (x == x && ltY a a)) := rfl
  rw [h, ih]
  simp [u8_lt_irrefl]
theorem ltB_nil (a : List UInt8) : ltY a [] = false := by cases a <;> rfl
theorem ltB_cons (x y : UInt8) (a b : List UInt8) : ltY (x :: a) (y :: b) = true ↔ x.toNat < y.toNat ∨ (x = y ∧ ltY a b = true) := by
 have h : ltY (x :: a) (y :: b) = (decide (x < y) || (x == y && ltY a b)) := rfl
 rw [h]
 simp [UInt8.lt_iff_toNat_lt]
theorem ltB_trans : ∀ a b c : List UInt8, ltY a b = true → ltY b c = true → ltY a c = true := by
 intro a
 induction a with
 | nil =>
  intro b c h1 h2
  cases c with
  | nil => rw [ltB_nil] at h2; cases h2
  | cons => rfl
 | cons x a ih =>
  intro b c h1 h2
  cases b with
  | nil => rw [ltB_nil] at h1; cases h1
  | cons y b =>
   cases c with
   | nil => rw [ltB_nil] at h2; cases h2
   | cons z c =>
    rw [ltB_cons] at h1 h2 ⊢
    rcases h1 with h1 | ⟨rfl, h1⟩
    ·rcases h2 with h2 | ⟨rfl, h2⟩
     ·exact .inl (by omega)
     ·exact .inl h1
    ·rcases h2 with h2 | ⟨rfl, h2⟩
     ·exact .inl h2
     ·exact .inr ⟨rfl, ih b c h1 h2⟩
structure NdD where
 name : List UInt8
 key : List UInt8
 kind : Int
 num : Nat
 text : List UInt8
theorem NdD.ext_ {a b : NdD} (h1 : a.name = b.name) (h2 : a.key = b.key) (h3 : a.kind = b.kind) (h4 : a.num = b.num) (h5 : a.text = b.text) : a = b := by
 cases a; cases b; simp_all
instance : DecidableEq NdD := fun a b => decidable_of_iff (a.name = b.name ∧ a.key = b.key ∧ a.kind = b.kind ∧ a.num = b.num ∧ a.text = b.text)
 ⟨fun ⟨h1, h2, h3, h4, h5⟩ => NdD.ext_ h1 h2 h3 h4 h5, fun h => by subst h; exact ⟨rfl, rfl, rfl, rfl, rfl⟩⟩
abbrev NdF := Fr NdD
abbrev Nd := NdD × NdF
abbrev Stp := List UInt8 × List UInt8
abbrev zeroT : NdD := ⟨[], [], 0, 0, []⟩
abbrev noN : Nd := (zeroT, .nil)
def stp (a : NdD) : Stp := (a.name, a.key)
def lessS (s t : Stp) : Bool := ltY s.1 t.1 || (decide (s.1 = t.1) && ltY s.2 t.2)
def lessX (a b : NdD) : Bool := lessS (stp a) (stp b)
theorem lessS_iff (s t : Stp) : lessS s t = true ↔ ltY s.1 t.1 = true ∨ (s.1 = t.1 ∧ ltY s.2 t.2 = true) := by simp [lessS]
theorem lessS_irrefl (s : Stp) : lessS s s = false := by simp [lessS, ltB_irrefl]
theorem lessS_trans {s t u : Stp} (h1 : lessS s t = true) (h2 : lessS t u = true) : lessS s u = true := by
 rw [lessS_iff] at h1 h2 ⊢
 rcases h1 with h1 | ⟨e, h1⟩
 ·rcases h2 with h2 | ⟨e2, h2⟩
  ·exact .inl (ltB_trans _ _ _ h1 h2)
  ·exact .inl (e2 ▸ h1)
 ·rcases h2 with h2 | ⟨e2, h2⟩
  ·exact .inl (e ▸ h2)
  ·exact .inr ⟨e.trans e2, ltB_trans _ _ _ h1 h2⟩
theorem lessS_ne {s t : Stp} (h : lessS s t = true) : s ≠ t := fun e => by subst e; rw [lessS_irrefl] at h; cases h
def hdLess (a : NdD) : NdF → Bool
 | .nil => true
 | .cons b _ _ => lessX a b
def rgtF : NdF → Bool
 | .nil => true
 | .cons a k r => ((if a.kind ≠ 0 then decide (k.len = 0) else (decide (a.num = 0) && decide (a.text = []) && rgtF k)) && hdLess a r) && rgtF r
def rgtX (x : Nd) : Bool := if x.1.kind ≠ 0 then decide (x.2.len = 0) else (decide (x.1.num = 0) && decide (x.1.text = []) && rgtF x.2)
theorem rightF_cons (a : NdD) (k r : NdF) : rgtF (.cons a k r) = (rgtX (a, k) && hdLess a r && rgtF r) := rfl
def sizeX (x : Nd) : Nat := x.2.size + 1
def allGt (s : Stp) : NdF → Prop
 | .nil => True
 | .cons a _ r => lessS s (stp a) = true ∧ allGt s r
theorem allGt.mono {s t : Stp} (h : lessS s t = true) : ∀ {f : NdF}, allGt t f → allGt s f := by
 intro f
 induction f with
 | nil => intro _; trivial
 | cons a k r _ ih => intro ⟨h1, h2⟩; exact ⟨lessS_trans h h1, ih h2⟩
theorem right_gt : ∀ {f : NdF} {a : NdD}, rgtF f = true → hdLess a f = true → allGt (stp a) f := by
 intro f
 induction f with
 | nil => intro a _ _; trivial
 | cons b k r _ ih =>
  intro a h1 h2
  rw [rightF_cons] at h1
  simp only [Bool.and_eq_true] at h1
  exact ⟨h2, (ih h1.2 h1.1.2).mono h2⟩
theorem gt_hd {a : NdD} {f : NdF} (h : allGt (stp a) f) : hdLess a f = true := by
 cases f with
 | nil => rfl
 | cons b k r => exact h.1
theorem right_cons_iff {a : NdD} {k r : NdF} : rgtF (.cons a k r) = true ↔ rgtX (a, k) = true ∧ allGt (stp a) r ∧ rgtF r = true := by
 rw [rightF_cons]
 simp only [Bool.and_eq_true]
 exact ⟨fun ⟨⟨h1, h2⟩, h3⟩ => ⟨h1, right_gt h3 h2, h3⟩, fun ⟨h1, h2, h3⟩ => ⟨⟨h1, gt_hd h2⟩, h3⟩⟩
def okAt (f : NdF) (i : Nat) : Bool := match f.get? i with
 | none => true
 | some y => rgtX y && (match i with | 0 => true | j + 1 => match f.get? j with | none => true | some z => lessX z.1 y.1)
theorem right_at : ∀ {f : NdF}, rgtF f = true ↔ ∀ i, i < f.len → okAt f i = true := by
 intro f
 induction f with
 | nil => exact ⟨fun _ i h => by simp [Fr.len] at h, fun _ => rfl⟩
 | cons a k r _ ih =>
  rw [rightF_cons]
  simp only [Bool.and_eq_true]
  constructor
  ·intro ⟨⟨h1, h2⟩, h3⟩ i hi
   cases i with
   | zero => simp [okAt, Fr.get?, h1]
   | succ i =>
    have h4 := ih.1 h3 i (by simp only [Fr.len] at hi; omega)
    cases i with
    | zero =>
     cases r with
     | nil => simp [Fr.len] at hi
     | cons b q s => simp only [okAt, Fr.get?, Bool.and_true] at h4 ⊢; simp only [hdLess] at h2; rw [h4, h2]; rfl
    | succ j => simpa [okAt, Fr.get?] using h4
  ·intro h
   refine ⟨⟨?_, ?_⟩, ih.2 fun i hi => ?_⟩
   ·have := h 0 (by simp [Fr.len])
    simpa [okAt, Fr.get?] using this
   ·cases r with
    | nil => rfl
    | cons b q s =>
     have := h 1 (by simp [Fr.len])
     simp only [okAt, Fr.get?, Bool.and_eq_true] at this
     exact this.2
   ·have h4 := h (i + 1) (by simp only [Fr.len]; omega)
    cases i with
    | zero =>
     cases r with
     | nil => simp [Fr.len] at hi
     | cons b q s => simp only [okAt, Fr.get?, Bool.and_eq_true] at h4 ⊢; simp [h4.1]
    | succ j => simpa [okAt, Fr.get?] using h4
theorem right_none {f : NdF} {i : Nat} (hi : i < f.len) (h : okAt f i = false) : rgtF f = false := by
 cases h2 : rgtF f with
 | false => rfl
 | true => rw [right_at.1 h2 i hi] at h; cases h
def findN (s : Stp) : NdF → Option Nat
 | .nil => none
 | .cons a _ r => if stp a = s then some 0 else (findN s r).map (· + 1)
def findIx (s : Stp) (f : NdF) : Int := match findN s f with
 | none => -1
 | some i => (i : Int)
def gtF (s : Stp) : NdF → Option Nd
 | .nil => none
 | .cons a k r => if stp a = s then some (a, k) else gtF s r
def oneF (y : Nd) : NdF := .cons y.1 y.2 .nil
def repF (s : Stp) (y : Nd) : NdF → NdF
 | .nil => .nil
 | .cons a k r => if stp a = s then .cons y.1 y.2 r else .cons a k (repF s y r)
def delF (s : Stp) : NdF → NdF
 | .nil => .nil
 | .cons a k r => if stp a = s then r else .cons a k (delF s r)
def withF (f : NdF) (at_ many : Nat) (l : NdF) : NdF := (Fr.take at_ f).app (l.app (Fr.drop (at_ + many) f))
theorem find_get {s : Stp} : ∀ {f : NdF}, gtF s f = (findN s f).bind f.get? := by
 intro f
 induction f with
 | nil => rfl
 | cons a k r _ ih =>
  simp only [gtF, findN]
  split
  ·rfl
  ·rw [ih]
   cases findN s r <;> rfl
theorem find_stp {s : Stp} : ∀ {f : NdF} {i : Nat}, findN s f = some i → ∃ y, f.get? i = some y ∧ stp y.1 = s ∧ gtF s f = some y := by
 intro f
 induction f with
 | nil => intro i h; cases h
 | cons a k r _ ih =>
  intro i h
  simp only [findN] at h
  split at h
  ·injection h with h; subst h; rename_i e; exact ⟨(a, k), rfl, e, by simp [gtF, e]⟩
  ·rename_i e
   cases hr : findN s r with
   | none => rw [hr] at h; cases h
   | some j =>
    rw [hr] at h
    injection h with h
    subst h
    obtain ⟨y, h1, h2, h3⟩ := ih hr
    exact ⟨y, h1, h2, by simp [gtF, e, h3]⟩
theorem findN_none {s : Stp} {f : NdF} (h : findN s f = none) : gtF s f = none := by rw [find_get, h]; rfl
theorem getF_find {s : Stp} {f : NdF} {y : Nd} (h : gtF s f = some y) : ∃ i, findN s f = some i ∧ f.get? i = some y := by
 cases h2 : findN s f with
 | none => rw [findN_none h2] at h; cases h
 | some i =>
  obtain ⟨z, h3, _, h4⟩ := find_stp h2
  rw [h] at h4
  injection h4 with h4
  exact ⟨i, rfl, h4 ▸ h3⟩
theorem getF_stp {s : Stp} {f : NdF} {y : Nd} (h : gtF s f = some y) : stp y.1 = s := by
 obtain ⟨i, h1, h2⟩ := getF_find h
 obtain ⟨z, h3, h4, _⟩ := find_stp h1
 rw [h2] at h3
 injection h3 with h3
 rw [h3]; exact h4
theorem find_lt {s : Stp} : ∀ {f : NdF} {i : Nat}, (∀ j, j < i → ∀ y, f.get? j = some y → stp y.1 ≠ s) → (∃ y, f.get? i = some y ∧ stp y.1 = s) → findN s f = some i := by
 intro f
 induction f with
 | nil => intro i _ ⟨y, h, _⟩; cases h
 | cons a k r _ ih =>
  intro i h1 ⟨y, h2, h3⟩
  cases i with
  | zero =>
   injection h2 with h2
   subst h2
   simp [findN, h3]
  | succ i =>
   have h4 := h1 0 (by omega) (a, k) rfl
   have h5 := ih (i := i) (fun j hj y hy => h1 (j + 1) (by omega) y hy) ⟨y, h2, h3⟩
   simp only [findN]
   rw [if_neg h4, h5]
   rfl
theorem find_out {s : Stp} : ∀ {f : NdF}, (∀ j, j < f.len → ∀ y, f.get? j = some y → stp y.1 ≠ s) → findN s f = none := by
 intro f
 induction f with
 | nil => intro _; rfl
 | cons a k r _ ih =>
  intro h
  simp only [findN]
  rw [if_neg (h 0 (by simp [Fr.len]) (a, k) rfl), ih (fun j hj y hy => h (j + 1) (by simp only [Fr.len]; omega) y hy)]
  rfl
theorem with_rep {s : Stp} {y : Nd} : ∀ {f : NdF} {i : Nat}, findN s f = some i → withF f i 1 (oneF y) = repF s y f := by
 intro f
 induction f with
 | nil => intro i h; cases h
 | cons a k r _ ih =>
  intro i h
  simp only [findN] at h
  split at h
  ·rename_i e
   injection h with h; subst h
   simp [withF, Fr.take, Fr.drop, Fr.app, oneF, repF, e]
  ·rename_i e
   cases hr : findN s r with
   | none => rw [hr] at h; cases h
   | some j =>
    rw [hr] at h
    injection h with h
    subst h
    have h5 := ih hr
    simp only [withF] at h5 ⊢
    simp only [repF]
    rw [if_neg e, ← h5, show j + 1 + 1 = (j + 1) + 1 from rfl]
    rfl
theorem with_del {s : Stp} : ∀ {f : NdF} {i : Nat}, findN s f = some i → withF f i 1 .nil = delF s f := by
 intro f
 induction f with
 | nil => intro i h; cases h
 | cons a k r _ ih =>
  intro i h
  simp only [findN] at h
  split at h
  ·rename_i e
   injection h with h; subst h
   simp [withF, Fr.take, Fr.drop, Fr.app, delF, e]
  ·rename_i e
   cases hr : findN s r with
   | none => rw [hr] at h; cases h
   | some j =>
    rw [hr] at h
    injection h with h
    subst h
    have h5 := ih hr
    simp only [withF] at h5 ⊢
    simp only [delF]
    rw [if_neg e, ← h5]
    rfl
theorem rep_size {s : Stp} {y z : Nd} : ∀ {f : NdF}, gtF s f = some z → (repF s y f).size + sizeX z = f.size + sizeX y := by
 intro f
 induction f with
 | nil => intro h; cases h
 | cons a k r _ ih =>
  intro h
  simp only [gtF] at h
  simp only [repF]
  split at h
  ·rename_i e; injection h with h; subst h; rw [if_pos e]; simp only [Fr.size, sizeX]; omega
  ·rename_i e; rw [if_neg e]; have := ih h; simp only [Fr.size]; omega
theorem del_size {s : Stp} {z : Nd} : ∀ {f : NdF}, gtF s f = some z → (delF s f).size + sizeX z = f.size := by
 intro f
 induction f with
 | nil => intro h; cases h
 | cons a k r _ ih =>
  intro h
  simp only [gtF] at h
  simp only [delF]
  split at h
  ·rename_i e; injection h with h; subst h; rw [if_pos e]; simp only [Fr.size, sizeX]; omega
  ·rename_i e; rw [if_neg e]; have := ih h; simp only [Fr.size]; omega
theorem getF_size {s : Stp} {z : Nd} {f : NdF} (h : gtF s f = some z) : sizeX z ≤ f.size := by
 have := del_size h; omega
theorem getF_del_ne {s t : Stp} (hn : t ≠ s) : ∀ {f : NdF}, gtF t (delF s f) = gtF t f := by
 intro f
 induction f with
 | nil => rfl
 | cons a k r _ ih =>
  simp only [delF]
  split
  ·rename_i e; simp only [gtF]; rw [if_neg (by rw [e]; exact fun h => hn h.symm)]
  ·rename_i e; simp only [gtF]; rw [ih]
theorem gt_none {s : Stp} : ∀ {f : NdF}, allGt s f → gtF s f = none := by
 intro f
 induction f with
 | nil => intro _; rfl
 | cons a k r _ ih => intro ⟨h1, h2⟩; simp only [gtF]; rw [if_neg (fun e => lessS_ne h1 e.symm)]; exact ih h2
theorem gt_del {s t : Stp} : ∀ {f : NdF}, allGt t f → allGt t (delF s f) := by
 intro f
 induction f with
 | nil => intro _; trivial
 | cons a k r _ ih =>
  intro ⟨h1, h2⟩
  simp only [delF]
  split
  ·exact h2
  ·exact ⟨h1, ih h2⟩
theorem gt_rep {s t : Stp} {y : Nd} (hy : stp y.1 = s) : ∀ {f : NdF}, allGt t f → allGt t (repF s y f) := by
 intro f
 induction f with
 | nil => intro _; trivial
 | cons a k r _ ih =>
  intro ⟨h1, h2⟩
  simp only [repF]
  split
  ·rename_i e; exact ⟨by rw [hy, ← e]; exact h1, h2⟩
  ·exact ⟨h1, ih h2⟩
theorem right_get {s : Stp} {z : Nd} : ∀ {f : NdF}, rgtF f = true → gtF s f = some z → rgtX z = true := by
 intro f
 induction f with
 | nil => intro _ h; cases h
 | cons a k r _ ih =>
  intro h h2
  rw [right_cons_iff] at h
  simp only [gtF] at h2
  split at h2
  ·injection h2 with h2; subst h2; exact h.1
  ·exact ih h.2.2 h2
theorem right_rep {s : Stp} {y : Nd} (hy : stp y.1 = s) (hr : rgtX y = true) : ∀ {f : NdF}, rgtF f = true → rgtF (repF s y f) = true := by
 intro f
 induction f with
 | nil => intro h; exact h
 | cons a k r _ ih =>
  intro h
  rw [right_cons_iff] at h
  simp only [repF]
  split
  ·rename_i e; exact right_cons_iff.2 ⟨hr, by rw [hy, ← e]; exact h.2.1, h.2.2⟩
  ·exact right_cons_iff.2 ⟨h.1, gt_rep hy h.2.1, ih h.2.2⟩
theorem right_del {s : Stp} : ∀ {f : NdF}, rgtF f = true → rgtF (delF s f) = true := by
 intro f
 induction f with
 | nil => intro h; exact h
 | cons a k r _ ih =>
  intro h
  rw [right_cons_iff] at h
  simp only [delF]
  split
  ·exact h.2.2
  ·exact right_cons_iff.2 ⟨h.1, gt_del h.2.1, ih h.2.2⟩
theorem getF_del {s : Stp} : ∀ {f : NdF}, rgtF f = true → gtF s (delF s f) = none := by
 intro f
 induction f with
 | nil => intro _; rfl
 | cons a k r _ ih =>
  intro h
  rw [right_cons_iff] at h
  simp only [delF]
  split
  ·rename_i e; rw [← e]; exact gt_none h.2.1
  ·rename_i e; simp only [gtF]; rw [if_neg e]; exact ih h.2.2
end Go.Proofs.YtljjaikejfoanaaGreat
namespace Go.Proofs.YtljjaikejfoanaaGreat
open Go.RowKit
def getX : Nd → List Stp → Option Nd
 | x, [] => some x
 | x, s :: l => match gtF s x.2 with
  | none => none
  | some y => getX y l
def cutX : Nd → List Stp → Nd
 | x, [] => x
 | x, s :: l => match l, gtF s x.2 with
  | [], _ => (x.1, delF s x.2)
  | _ :: _, some z => (x.1, repF s (cutX z l) x.2)
  | _ :: _, none => x
def GetX (x : Nd) (l : List Stp) : Nd × Bool := match getX x l with
 | some y => (y, true)
 | none => (noN, false)
def CutX (x : Nd) (l : List Stp) : Nd × Nat :=
 if l = [] then (noN, 30) else match getX x l with
  | none => (noN, 30)
  | some _ => (cutX x l, 0)
theorem cutX_one {x : Nd} {s : Stp} : cutX x [s] = (x.1, delF s x.2) := by
 rw [cutX.eq_def]
theorem cut_more {x : Nd} {s t : Stp} {l : List Stp} : cutX x (s :: t :: l) = match gtF s x.2 with | some z => (x.1, repF s (cutX z (t :: l)) x.2) | none => x := by
 rw [cutX.eq_def]; cases h : gtF s x.2 <;> simp [h]
theorem cut_fst {x : Nd} : ∀ {l : List Stp}, (cutX x l).1 = x.1 := by
 intro l
 match l with
 | [] => rfl
 | [s] => rw [cutX_one]
 | s :: t :: l => rw [cut_more]; split <;> rfl
theorem CutX_is {x z : Nd} {l : List Stp} (h : l ≠ []) (h2 : getX x l = some z) : CutX x l = (cutX x l, 0) := by
 unfold CutX
 rw [if_neg h, h2]
theorem right_kind {x : Nd} {s : Stp} {z : Nd} (h : rgtX x = true) (h2 : gtF s x.2 = some z) : x.1.kind = 0 ∧ x.1.num = 0 ∧ x.1.text = [] ∧ rgtF x.2 = true := by
 unfold rgtX at h
 split at h
 ·rename_i e
  obtain ⟨a, f⟩ := x
  cases f with
  | nil => cases h2
  | cons => simp [Fr.len] at h
 ·rename_i e
  simp only [Bool.and_eq_true, decide_eq_true_eq] at h
  exact ⟨Classical.not_not.1 e, h.1.1, h.1.2, h.2⟩
theorem right_make {a : NdD} {f : NdF} (h : a.kind = 0 ∧ a.num = 0 ∧ a.text = []) (hf : rgtF f = true) : rgtX (a, f) = true := by
 unfold rgtX
 simp [h.1, h.2.1, h.2.2, hf]
theorem cut_right : ∀ (l : List Stp) (x z : Nd), rgtX x = true → l ≠ [] → getX x l = some z → rgtX (cutX x l) = true := by
 intro l
 induction l with
 | nil => intro x z _ h; exact absurd rfl h
 | cons s l ih =>
  intro x z hx _ h
  rw [getX.eq_def] at h
  simp only at h
  cases h1 : gtF s x.2 with
  | none => rw [h1] at h; cases h
  | some u =>
   rw [h1] at h
   obtain ⟨hk, g1, g2, g3⟩ := right_kind hx h1
   cases l with
   | nil => rw [cutX_one]; exact right_make ⟨hk, g1, g2⟩ (right_del g3)
   | cons t l =>
    rw [cut_more, h1]
    exact right_make ⟨hk, g1, g2⟩ (right_rep (by rw [cut_fst]; exact getF_stp h1) (ih u z (right_get g3 h1) (by simp) h) g3)
theorem cut_size : ∀ (l : List Stp) (x z : Nd), l ≠ [] → getX x l = some z → sizeX (cutX x l) + sizeX z = sizeX x := by
 intro l
 induction l with
 | nil => intro x z h; exact absurd rfl h
 | cons s l ih =>
  intro x z _ h
  rw [getX.eq_def] at h
  simp only at h
  cases h1 : gtF s x.2 with
  | none => rw [h1] at h; cases h
  | some u =>
   rw [h1] at h
   cases l with
   | nil =>
    injection h with h
    subst h
    rw [cutX_one]
    have := del_size h1
    simp only [sizeX] at this ⊢
    omega
   | cons t l =>
    rw [cut_more, h1]
    have h2 := ih u z (by simp) h
    have h3 := rep_size (y := cutX u (t :: l)) h1
    simp only [sizeX] at h2 h3 ⊢
    omega
theorem get_size : ∀ (l : List Stp) (x z : Nd), getX x l = some z → sizeX z ≤ sizeX x := by
 intro l
 induction l with
 | nil => intro x z h; injection h with h; subst h; exact Nat.le_refl _
 | cons s l ih =>
  intro x z h
  rw [getX.eq_def] at h
  simp only at h
  cases h1 : gtF s x.2 with
  | none => rw [h1] at h; cases h
  | some u =>
   rw [h1] at h
   have h2 := ih u z h
   have h3 := getF_size h1
   simp only [sizeX] at h2 h3 ⊢
   omega
def parts : List Stp → List Stp → Prop
 | s :: a, t :: b => s ≠ t ∨ parts a b
 | _, _ => False
end Go.Proofs.YtljjaikejfoanaaGreat
namespace Go.Proofs.YtljjaikejfoanaaGreat
open Go.RowKit
section
variable {α : Type} {D : RdOf α} {e : TypeId} {K p : Nat} {w w' : World} {base : Nat} {S S' N N' : Nat → Prop} {v : Value} {f : Fr α}
theorem FrV.lit {g c : Nat} {xs : List Value} (hS : S g) (hb : Blk w g e xs.toArray) (hr : rowG D K p w S N xs f) (hc : f.len ≤ c) : FrV D K p w S N (.slice (some ⟨g, 0, none⟩) f.len c) f :=
 ⟨_, c, rfl, hc, fun _ => ⟨g, 0, rfl, hS, hr.at (fun j u hj => by
  rw [Nat.zero_add, hb.cell]
  simpa using hj)⟩⟩
theorem OwnK.lit {k n g : Nat} {xs : List Value} (hb : Blk w g e xs.toArray) (hg : base ≤ g) (hl : xs.length = n * k) (hn : n ≤ maxLen) : OwnK e k w base (.slice (some ⟨g, 0, none⟩) n n) n xs :=
 ⟨hl, .inr ⟨g, n, xs.toArray, rfl, hg, hb, Nat.le_refl _, hn, by simpa using hl, by simp [← hl]⟩⟩
theorem OwnG.lit {g : Nat} {xs : List Value} (hb : Blk w g e xs.toArray) (hg : base ≤ g) (hn : f.len ≤ maxLen) (hr : rowG D K p w S N xs f) (hS : ∀ k, S k → k < w.heap.size ∧ k ≠ g) (hN : ∀ k, N k → k < w.heap.size ∧ k ≠ g) : OwnG D e K p w base S N (.slice (some ⟨g, 0, none⟩) f.len f.len) f :=
 ⟨fun k hk => ⟨(hS k hk).1, by intro h; injection h with h; exact (hS k hk).2 h⟩, fun k hk => ⟨(hN k hk).1, by intro h; injection h with h; exact (hN k hk).2 h⟩, xs, OwnK.lit hb hg hr.len hn, hr⟩
theorem OwnG.grown (hD : StayD D) {row : Option Nat} (h : OwnG D e K p w base S N v f) (hg : w.grownBy w' row) (hne : v.ownBlock = none ∨ v.ownBlock ≠ row) (hS : ∀ g, S g → some g ≠ row) (hN : ∀ g, N g → some g ≠ row) : OwnG D e K p w' base S N v f := by
 obtain ⟨h1, h2, xs, h3, h4⟩ := h
 exact ⟨fun g hg' => ⟨Nat.lt_of_lt_of_le (h1 g hg').1 hg.size, (h1 g hg').2⟩, fun g hg' => ⟨Nat.lt_of_lt_of_le (h2 g hg').1 hg.size, (h2 g hg').2⟩, xs, h3.grown hg hne,
  h4.kept hD (fun g hg' => hg.block g (h1 g hg').1 (hS g hg')) (fun _ h => h) (fun g hg' => hg.block g (h2 g hg').1 (hN g hg')) (fun _ h => h)⟩
def AppG (D : RdOf α) (e : TypeId) (K p : Nat) (base : Nat) (S N : Nat → Prop) (w : World) (v : Value) (f : Fr α) (v' : Value) (w' : World) : Prop :=
 OwnG D e K p w' base S N v' f ∧ w.grownBy w' v.ownBlock ∧ (v'.ownBlock = v.ownBlock ∨ v'.ownBlock = some w.heap.size) ∧ ∃ g c, v' = .slice (some ⟨g, 0, none⟩) f.len c
theorem AppG.below {v' : Value} {g : Fr α} (h : AppG D e K p base S N w v g v' w') (hown : OwnG D e K p w base S N v f) (hb : base ≤ w.heap.size) : Below base w w' :=
 (Below.refl _ _).grown h.2.1 hb fun b e => (hown.lt b e).1
end
end Go.Proofs.YtljjaikejfoanaaGreat
namespace Go.Proofs.YtljjaikejfoanaaGreat
open Go.RowKit
abbrev ndC (a : NdD) (kv : Value) : List Value := [.string (txt a.name), .string (txt a.key), .int .i64 a.kind, .int .u64 (a.num : Int), .string (txt a.text), kv]
def NdT : RdOf NdD := fun _ _ cs a => ∃ kv, cs = ndC a kv ∧ kv.oneCell' = true
def NdA : RdOf NdD := fun w N cs a => NdT w N cs a ∧ ∀ b o n c, cs[5]? = some (.slice (some ⟨b, o, none⟩) n c) → o % 6 = 0
def noB : Nat → Prop := fun _ => False
theorem stay_nd : StayD NdT := fun _ _ _ _ _ _ _ _ h => h
theorem one_nd : OneD NdT := by
 intro w N cs a ⟨kv, h1, h4⟩ u hu
 subst h1
 simp only [List.mem_cons, List.not_mem_nil, or_false] at hu
 rcases hu with rfl | rfl | rfl | rfl | rfl | rfl <;> first | rfl | exact h4
def LieB (b : Nat) (w : World) (cs : List Value) (x : Nd) : Prop := FrN NdT 6 5 w (fun g => g < b) noB cs x.1 x.2
def RowT (b : Nat) (w : World) (v : Value) (f : NdF) : Prop := FrV NdT 6 5 w (fun g => g < b) noB v f
abbrev LieN (w : World) (cs : List Value) (x : Nd) : Prop := LieB w.heap.size w cs x
theorem LieB.shape {b : Nat} {w : World} {cs : List Value} {x : Nd} (h : LieB b w cs x) : ∃ A c, cs = ndC x.1 (.slice A x.2.len c) ∧ RowT b w (.slice A x.2.len c) x.2 := by
 obtain ⟨_, ⟨kv, rfl, _⟩, v, h5, h6⟩ := h
 obtain ⟨A, c, rfl⟩ := h6.shape
 simp at h5
 subst h5
 exact ⟨A, c, rfl, h6⟩
theorem LieB.make {b : Nat} {w : World} {a : NdD} {f : NdF} {v : Value} (h : RowT b w v f) : LieB b w (ndC a v) (a, f) := by
 refine ⟨rfl, ⟨v, rfl, ?_⟩, v, rfl, h⟩
 obtain ⟨A, c, rfl⟩ := h.shape
 rfl
theorem LieB.keep {b b' : Nat} {w w' : World} {cs : List Value} {x : Nd} (h : LieB b w cs x) (hk : ∀ g, g < b → w'.heap[g]? = w.heap[g]?) (hb : b ≤ b') : LieB b' w' cs x :=
 FrN.kept stay_nd h hk (fun g hg => Nat.lt_of_lt_of_le hg hb) (fun _ h => h.elim) (fun _ h => h)
theorem RowT.keep {b b' : Nat} {w w' : World} {v : Value} {f : NdF} (h : RowT b w v f) (hk : ∀ g, g < b → w'.heap[g]? = w.heap[g]?) (hb : b ≤ b') : RowT b' w' v f :=
 FrV.kept stay_nd h hk (fun g hg => Nat.lt_of_lt_of_le hg hb) (fun _ h => h.elim) (fun _ h => h)
theorem LieB.under {b b' B : Nat} {w w' : World} {cs : List Value} {x : Nd} (h : LieB b w cs x) (hB : Below B w w') (hb : b ≤ B) (hb' : b ≤ b') : LieB b' w' cs x := h.keep (fun g hg => hB.block g (Nat.lt_of_lt_of_le hg hb)) hb'
theorem RowT.under {b b' B : Nat} {w w' : World} {v : Value} {f : NdF} (h : RowT b w v f) (hB : Below B w w') (hb : b ≤ B) (hb' : b ≤ b') : RowT b' w' v f := h.keep (fun g hg => hB.block g (Nat.lt_of_lt_of_le hg hb)) hb'
theorem LieB.below {w w' : World} {cs : List Value} {x : Nd} (h : LieN w cs x) (hb : Below w.heap.size w w') : LieN w' cs x := h.under hb (Nat.le_refl _) hb.size
theorem RowT.below {w w' : World} {v : Value} {f : NdF} (h : RowT w.heap.size w v f) (hb : Below w.heap.size w w') : RowT w'.heap.size w' v f := h.under hb (Nat.le_refl _) hb.size
theorem LieB.zero (b : Nat) (w : World) : LieB b w (ndC zeroT (.slice none 0 0)) noN := LieB.make (FrV.empty _ _ _)
theorem RowT.at {b : Nat} {w : World} {A : Option Addr} {n c : Nat} {f : NdF} (h : RowT b w (.slice A n c) f) {i : Nat} {y : Nd} (hy : f.get? i = some y) :
  ∃ g o A' c', A = some ⟨g, o, none⟩ ∧ n = f.len ∧ n ≤ c ∧ g < b ∧ RowT b w (.slice A' y.2.len c') y.2 ∧ ∀ j u, (ndC y.1 (.slice A' y.2.len c'))[j]? = some u → w.cell? ⟨g, o + i * 6 + j, none⟩ = some u := by
 obtain ⟨a, k⟩ := y
 obtain ⟨g, o, c1, cs, e, h1, h2, h3, h4⟩ := FrV.at h hy
 injection e with e1 e2 e3
 subst e1 e2 e3
 obtain ⟨A', c', rfl, h6⟩ := LieB.shape (x := (a, k)) h3
 exact ⟨g, o, A', c', rfl, rfl, h1, h2, h6, h4⟩
theorem RowT.len {b : Nat} {w : World} {A : Option Addr} {n c : Nat} {f : NdF} (h : RowT b w (.slice A n c) f) : n = f.len ∧ n ≤ c := by
 obtain ⟨A', c', e, h1, _⟩ := h
 injection e with e1 e2 e3
 subst e2 e3
 exact ⟨rfl, h1⟩
def WayV (b : Nat) (w : World) (v : Value) (l : List Stp) : Prop := ∃ A c, v = .slice A l.length c ∧ l.length ≤ c ∧ (0 < l.length → ∃ g o, A = some ⟨g, o, none⟩ ∧ g < b ∧
 ∀ j s, l[j]? = some s → w.cell? ⟨g, o + j * 2, none⟩ = some (.string (txt s.1)) ∧ w.cell? ⟨g, o + j * 2 + 1, none⟩ = some (.string (txt s.2)))
theorem WayV.keep {b b' : Nat} {w w' : World} {v : Value} {l : List Stp} (h : WayV b w v l) (hk : ∀ g, g < b → w'.heap[g]? = w.heap[g]?) (hb : b ≤ b') : WayV b' w' v l := by
 obtain ⟨A, c, rfl, h1, h2⟩ := h
 refine ⟨A, c, rfl, h1, fun h0 => ?_⟩
 obtain ⟨g, o, rfl, h3, h4⟩ := h2 h0
 refine ⟨g, o, rfl, Nat.lt_of_lt_of_le h3 hb, fun j s hs => ?_⟩
 obtain ⟨h5, h6⟩ := h4 j s hs
 exact ⟨(World.cell?_of_block (w := w) (hk g h3)).trans h5, (World.cell?_of_block (w := w) (hk g h3)).trans h6⟩
theorem WayV.under {b b' B : Nat} {w w' : World} {v : Value} {l : List Stp} (h : WayV b w v l) (hB : Below B w w') (hb : b ≤ B) (hb' : b ≤ b') : WayV b' w' v l := h.keep (fun g hg => hB.block g (Nat.lt_of_lt_of_le hg hb)) hb'
theorem WayV.below {w w' : World} {v : Value} {l : List Stp} (h : WayV w.heap.size w v l) (hb : Below w.heap.size w w') : WayV w'.heap.size w' v l := h.under hb (Nat.le_refl _) hb.size
theorem WayV.shape {b : Nat} {w : World} {v : Value} {l : List Stp} (h : WayV b w v l) : ∃ A c, v = .slice A l.length c := by
 obtain ⟨A, c, h, _⟩ := h; exact ⟨A, c, h⟩
theorem WayV.at {b : Nat} {w : World} {A : Option Addr} {n c : Nat} {l : List Stp} (h : WayV b w (.slice A n c) l) {j : Nat} {s : Stp} (hs : l[j]? = some s) :
  ∃ g o, A = some ⟨g, o, none⟩ ∧ n = l.length ∧ n ≤ c ∧ g < b ∧ w.cell? ⟨g, o + j * 2, none⟩ = some (.string (txt s.1)) ∧ w.cell? ⟨g, o + j * 2 + 1, none⟩ = some (.string (txt s.2)) := by
 have hlt := (List.getElem?_eq_some_iff.1 hs).1
 obtain ⟨A', c', e, h1, h2⟩ := h
 injection e with e1 e2 e3
 subst e1 e2 e3
 obtain ⟨g, o, rfl, h3, h4⟩ := h2 (by omega)
 obtain ⟨h5, h6⟩ := h4 j s hs
 exact ⟨g, o, rfl, rfl, h1, h3, h5, h6⟩
theorem WayV.nil (b : Nat) (w : World) (A : Option Addr) (c : Nat) : WayV b w (.slice A 0 c) [] := ⟨A, c, rfl, Nat.zero_le _, fun h => absurd h (by simp)⟩
theorem WayV.tail {b : Nat} {w : World} {g o n c : Nat} {s : Stp} {l : List Stp} (h : WayV b w (.slice (some ⟨g, o, none⟩) n c) (s :: l)) : WayV b w (.slice (some ⟨g, o + 2, none⟩) l.length (c - 1)) l := by
 obtain ⟨A', c', e, h1, h2⟩ := h
 injection e with e1 e2 e3
 subst e2 e3
 obtain ⟨g', o', e4, h3, h4⟩ := h2 (by simp)
 rw [← e1] at e4
 injection e4 with e4
 injection e4 with e5 e6 e7
 subst e5 e6
 simp only [List.length_cons] at h1
 refine ⟨_, _, rfl, by omega, fun _ => ⟨g, o + 2, rfl, h3, fun j u hu => ?_⟩⟩
 have h5 := h4 (j + 1) u (by simpa using hu)
 rw [show o + (j + 1) * 2 = o + 2 + j * 2 by omega] at h5
 exact h5
theorem WayV.front {b : Nat} {w : World} {A : Option Addr} {n c : Nat} {l : List Stp} (m : Nat) (hm : m ≤ l.length) (h : WayV b w (.slice A n c) l) : WayV b w (.slice A m c) (l.take m) := by
 obtain ⟨A', c', e, h1, h2⟩ := h
 injection e with e1 e2 e3
 subst e1 e2 e3
 have hl : (l.take m).length = m := by rw [List.length_take]; omega
 refine ⟨A, c, by rw [hl], by omega, fun h0 => ?_⟩
 obtain ⟨g, o, rfl, h3, h4⟩ := h2 (by omega)
 refine ⟨g, o, rfl, h3, fun j s hs => h4 j s ?_⟩
 rw [List.getElem?_take] at hs
 split at hs
 ·exact hs
 ·cases hs
def Fresh9 (base : Nat) (w : World) (g : Nat) : Prop := base ≤ g ∧ ∃ cs t, w.heap[g]? = some (.cells cs t (0, 0))
theorem Fresh9.lt {base : Nat} {w : World} {g : Nat} (h : Fresh9 base w g) : g < w.heap.size := by
 obtain ⟨_, cs, t, h⟩ := h
 exact (Array.getElem?_eq_some_iff.1 h).1
def NewT (base : Nat) (w : World) (cs : List Value) (x : Nd) : Prop := ∃ S, (∀ g, S g → Fresh9 base w g) ∧ FrN NdA 6 5 w S noB cs x.1 x.2
theorem FrAt.plain {w : World} {S N : Nat → Prop} : ∀ {f : NdF} {b o : Nat}, FrAt NdA 6 5 w S N f b o → FrAt NdT 6 5 w S N f b o := by
 intro f
 induction f with
 | nil => intro b o _; trivial
 | cons a k r ihk ihr =>
  intro b o ⟨⟨cs, h1, h2, h3, A, c, h4, h5, h6⟩, h7⟩
  refine ⟨⟨cs, h1, h2, h3.1, A, c, h4, h5, fun h0 => ?_⟩, ihr h7⟩
  obtain ⟨b', o', h8, h9, h10⟩ := h6 h0
  exact ⟨b', o', h8, h9, ihk h10⟩
theorem FrV.plain {w : World} {S N : Nat → Prop} {v : Value} {f : NdF} (h : FrV NdA 6 5 w S N v f) : FrV NdT 6 5 w S N v f := by
 obtain ⟨A, c, rfl, h1, h2⟩ := h
 refine ⟨A, c, rfl, h1, fun h0 => ?_⟩
 obtain ⟨b, o, h3, h4, h5⟩ := h2 h0
 exact ⟨b, o, h3, h4, h5.plain⟩
theorem NewT.lies {base : Nat} {w : World} {cs : List Value} {x : Nd} (h : NewT base w cs x) : LieN w cs x := by
 obtain ⟨S, h1, h2, h3, v, h4, h5⟩ := h
 exact FrN.mono stay_nd ⟨h2, h3.1, v, h4, h5.plain⟩ (fun g hg => (h1 g hg).lt) (fun _ h => h)
def TreP (x : Nd) (u : Value) (w : World) (r : Ending) (w' : World) : Prop := ∃ cs, r = .returned (.tuple #[.agg cs.toArray, u]) ∧ NewT w.heap.size w' cs x ∧ Below w.heap.size w w'
def TreP1 (x : Nd) (w : World) (r : Ending) (w' : World) : Prop := ∃ cs, r = .returned (.agg cs.toArray) ∧ NewT w.heap.size w' cs x ∧ Below w.heap.size w w'
def RTreP (x : Nd) (u : Value) (w : World) (r : Ending) (w' : World) : Prop := ∃ cs, r = .returned (.tuple #[.agg cs.toArray, u]) ∧ LieN w' cs x ∧ Below w.heap.size w w'
def RTreP1 (x : Nd) (w : World) (r : Ending) (w' : World) : Prop := ∃ cs, r = .returned (.agg cs.toArray) ∧ LieN w' cs x ∧ Below w.heap.size w w'
def LieP (b B : Nat) (w : World) (cs : List Value) (x : Nd) : Prop := FrN NdT 6 5 w (fun g => g < b ∨ (B ≤ g ∧ g < w.heap.size)) noB cs x.1 x.2
def RowP (b B : Nat) (w : World) (v : Value) (f : NdF) : Prop := FrV NdT 6 5 w (fun g => g < b ∨ (B ≤ g ∧ g < w.heap.size)) noB v f
theorem LieP.shape {b B : Nat} {w : World} {cs : List Value} {x : Nd} (h : LieP b B w cs x) : ∃ A c, cs = ndC x.1 (.slice A x.2.len c) ∧ RowP b B w (.slice A x.2.len c) x.2 := by
 obtain ⟨_, ⟨kv, rfl, _⟩, v, h5, h6⟩ := h
 obtain ⟨A, c, rfl⟩ := h6.shape
 simp at h5
 subst h5
 exact ⟨A, c, rfl, h6⟩
theorem LieP.make {b B : Nat} {w : World} {a : NdD} {f : NdF} {v : Value} (h : RowP b B w v f) : LieP b B w (ndC a v) (a, f) := by
 refine ⟨rfl, ⟨v, rfl, ?_⟩, v, rfl, h⟩
 obtain ⟨A, c, rfl⟩ := h.shape
 rfl
theorem LieP.keep {b B b' B' : Nat} {w w' : World} {cs : List Value} {x : Nd} (h : LieP b B w cs x) (hk : ∀ g, g < b ∨ (B ≤ g ∧ g < w.heap.size) → w'.heap[g]? = w.heap[g]?) (hS : ∀ g, g < b ∨ (B ≤ g ∧ g < w.heap.size) → g < b' ∨ (B' ≤ g ∧ g < w'.heap.size)) : LieP b' B' w' cs x :=
 FrN.kept stay_nd h hk hS (fun _ h => h.elim) (fun _ h => h)
theorem LieP.lies {b B : Nat} {w : World} {cs : List Value} {x : Nd} (h : LieP b B w cs x) (hb : b ≤ w.heap.size) : LieN w cs x :=
 FrN.mono stay_nd h (fun g hg => by rcases hg with h | h <;> omega) (fun _ h => h)
theorem LieB.p {b : Nat} {w : World} {cs : List Value} {x : Nd} (h : LieB b w cs x) (B : Nat) : LieP b B w cs x := FrN.mono stay_nd h (fun g hg => .inl hg) (fun _ h => h)
theorem RowT.p {b : Nat} {w : World} {v : Value} {f : NdF} (h : RowT b w v f) (B : Nat) : RowP b B w v f := FrV.mono stay_nd h (fun g hg => .inl hg) (fun _ h => h)
def PTreP (b : Nat) (x : Nd) (u : Value) (w : World) (r : Ending) (w' : World) : Prop := ∃ cs, r = .returned (.tuple #[.agg cs.toArray, u]) ∧ LieP b w.heap.size w' cs x ∧ Below w.heap.size w w'
def PTreP1 (b : Nat) (x : Nd) (w : World) (r : Ending) (w' : World) : Prop := ∃ cs, r = .returned (.agg cs.toArray) ∧ LieP b w.heap.size w' cs x ∧ Below w.heap.size w w'
theorem PTreP.r {x : Nd} {u : Value} {w : World} {r : Ending} {w' : World} (h : PTreP w.heap.size x u w r w') : RTreP x u w r w' := by
 obtain ⟨cs, h1, h2, h3⟩ := h; exact ⟨cs, h1, h2.lies h3.size, h3⟩
theorem PTreP1.r {x : Nd} {w : World} {r : Ending} {w' : World} (h : PTreP1 w.heap.size x w r w') : RTreP1 x w r w' := by
 obtain ⟨cs, h1, h2, h3⟩ := h; exact ⟨cs, h1, h2.lies h3.size, h3⟩
theorem PTreP.flat {b : Nat} {a : NdD} {f : NdF} {u : Value} {w : World} {r : Ending} {w' : World} (h : PTreP b (a, f) u w r w') : ∃ A c, r = .returned (.tuple #[.agg (ndC a (.slice A f.len c)).toArray, u]) ∧ LieP b w.heap.size w' (ndC a (.slice A f.len c)) (a, f) ∧ Below w.heap.size w w' := by
 obtain ⟨cs, rfl, h2, h3⟩ := h
 obtain ⟨A, c, rfl, _⟩ := h2.shape
 exact ⟨A, c, rfl, h2, h3⟩
theorem PTreP1.flat {b : Nat} {a : NdD} {f : NdF} {w : World} {r : Ending} {w' : World} (h : PTreP1 b (a, f) w r w') : ∃ A c, r = .returned (.agg (ndC a (.slice A f.len c)).toArray) ∧ LieP b w.heap.size w' (ndC a (.slice A f.len c)) (a, f) ∧ Below w.heap.size w w' := by
 obtain ⟨cs, rfl, h2, h3⟩ := h
 obtain ⟨A, c, rfl, _⟩ := h2.shape
 exact ⟨A, c, rfl, h2, h3⟩
def Ans9 (v : Value) (w : World) (r : Ending) (w' : World) : Prop := r = .returned v ∧ Below w.heap.size w w'
theorem TreP.r {x : Nd} {u : Value} {w : World} {r : Ending} {w' : World} (h : TreP x u w r w') : RTreP x u w r w' := by
 obtain ⟨cs, h1, h2, h3⟩ := h; exact ⟨cs, h1, h2.lies, h3⟩
theorem TreP1.r {x : Nd} {w : World} {r : Ending} {w' : World} (h : TreP1 x w r w') : RTreP1 x w r w' := by
 obtain ⟨cs, h1, h2, h3⟩ := h; exact ⟨cs, h1, h2.lies, h3⟩
def Few9 (x : Nd) : Prop := x.2.size ≤ 1000000
end Go.Proofs.YtljjaikejfoanaaGreat
