/- What the laws of package tree want of TreWay. -/
import Derived.Test.YtgipnemcmiohlaaZ0TreNum
namespace Go.Proofs.Ytgipnemcmiohlaa
open Go.RowKit
set_option linter.unusedSimpArgs false
set_option linter.unusedVariables false
/-- What stands at the end of a way. -/
def getX : Nd → List Stp → Option Nd
  | x, [] => some x
  | x, s :: l => match gtF s x.2 with
    | none => none
    | some y => getX y l
/-- A tree with a node at the end of a way whose last but one there is. -/
def setX : Nd → List Stp → Nd → Nd
  | x, [], _ => x
  | x, s :: l, y => match l, gtF s x.2 with
    | [], some _ => (x.1, repF s y x.2)
    | [], none => (x.1, insF y x.2)
    | _ :: _, some z => (x.1, repF s (setX z l y) x.2)
    | _ :: _, none => x
/-- A tree without the node at the end of a way, that there is. -/
def cutX : Nd → List Stp → Nd
  | x, [] => x
  | x, s :: l => match l, gtF s x.2 with
    | [], _ => (x.1, delF s x.2)
    | _ :: _, some z => (x.1, repF s (cutX z l) x.2)
    | _ :: _, none => x
/-- What Get tells. -/
def GetX (x : Nd) (l : List Stp) : Nd × Bool := match getX x l with
  | some y => (y, true)
  | none => (noN, false)
/-- What Set tells: a tree, and the error. -/
def SetX (x : Nd) (l : List Stp) (y : Nd) : Nd × Nat :=
  if l.getLast? ≠ some (stp y.1) then (noN, 1) else match getX x l.dropLast with
    | none => (noN, 30)
    | some p => if p.1.kind ≠ 0 then (noN, 30) else (setX x l y, 0)
/-- What Cut tells. -/
def CutX (x : Nd) (l : List Stp) : Nd × Nat :=
  if l = [] then (noN, 30) else match getX x l with
    | none => (noN, 30)
    | some _ => (cutX x l, 0)
theorem set_one {x y : Nd} {s : Stp} : setX x [s] y = match gtF s x.2 with | some _ => (x.1, repF s y x.2) | none => (x.1, insF y x.2) := by
  simp only [setX]; split <;> simp_all
theorem set_more {x y : Nd} {s t : Stp} {l : List Stp} : setX x (s :: t :: l) y = match gtF s x.2 with | some z => (x.1, repF s (setX z (t :: l) y) x.2) | none => x := by
  rw [setX.eq_def]; cases h : gtF s x.2 <;> simp [h]
theorem cutX_one {x : Nd} {s : Stp} : cutX x [s] = (x.1, delF s x.2) := by
  rw [cutX.eq_def]
theorem cut_more {x : Nd} {s t : Stp} {l : List Stp} : cutX x (s :: t :: l) = match gtF s x.2 with | some z => (x.1, repF s (cutX z (t :: l)) x.2) | none => x := by
  rw [cutX.eq_def]; cases h : gtF s x.2 <;> simp [h]
theorem set_fst {x y : Nd} : ∀ {l : List Stp}, (setX x l y).1 = x.1 := by
  intro l
  match l with
  | [] => rfl
  | [s] => rw [set_one]; split <;> rfl
  | s :: t :: l => rw [set_more]; split <;> rfl
theorem cut_fst {x : Nd} : ∀ {l : List Stp}, (cutX x l).1 = x.1 := by
  intro l
  match l with
  | [] => rfl
  | [s] => rw [cutX_one]
  | s :: t :: l => rw [cut_more]; split <;> rfl
theorem CutX_is {x z : Nd} {l : List Stp} (h : l ≠ []) (h2 : getX x l = some z) : CutX x l = (cutX x l, 0) := by
  unfold CutX
  rw [if_neg h, h2]
theorem get_size : ∀ (l : List Stp) (x z : Nd), getX x l = some z → sizeX z ≤ sizeX x := by
  intro l
  induction l with
  | nil => intro x z h; injection h with h; subst h; exact Nat.le_refl _
  | cons s l ih =>
    intro x z h
    rw [getX.eq_def] at h
    simp only at h
    cases h1 : gtF s x.2 with
    | none => rw [h1] at h; cases h
    | some u =>
      rw [h1] at h
      have h2 := ih u z h
      have h3 := getF_size h1
      simp only [sizeX] at h2 h3 ⊢
      omega
def parts : List Stp → List Stp → Prop
  | s :: a, t :: b => s ≠ t ∨ parts a b
  | _, _ => False
/-- Where a node goes in a row, from behind. -/
def posD (a : NdD) (g : NdF) : Nat → Nat
  | 0 => 0
  | n + 1 => match g.get? n with
    | none => n + 1
    | some z => if lessX a z.1 = true then posD a g n else n + 1
def insB (y : Nd) (g : NdF) : NdF := withF g (posD y.1 g g.len) 0 (oneF y)
/-- The row g, and the others sorted into it, one behind the other. -/
def sortA (g : NdF) : NdF → NdF
  | .nil => g
  | .cons a k r => sortA (insB (a, sortA .nil k) g) r
def sortX (x : Nd) : Nd := (x.1, sortA .nil x.2)
theorem with_len {f l : NdF} {a m : Nat} (h : a + m ≤ f.len) : (withF f a m l).len + m = f.len + l.len := by
  simp only [withF, Fr.len_app]
  rw [Fr.len_take _ _ (by omega), Fr.len_drop]
  omega
end Go.Proofs.Ytgipnemcmiohlaa

