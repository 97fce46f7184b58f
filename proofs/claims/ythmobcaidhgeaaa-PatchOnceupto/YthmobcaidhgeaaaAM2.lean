/- DifNum PatNum PatMak PatBack PatFrt -/
import Derived.Test.YthmobcaidhgeaaaAM1
set_option linter.unusedSimpArgs false
set_option linter.unusedVariables false
set_option maxRecDepth 100000
set_option maxHeartbeats 8000000
namespace Go.Proofs.Ythmobcaidhgeaaa
open Go.RowKit
structure EdD where
 kind : Int
 way : List Stp
 node : Nd
 old : Nd
theorem EdD.ext_ {a b : EdD} (h1 : a.kind = b.kind) (h2 : a.way = b.way) (h3 : a.node = b.node) (h4 : a.old = b.old) : a = b := by
 cases a; cases b; simp_all
instance : DecidableEq EdD := fun a b => decidable_of_iff (a.kind = b.kind ∧ a.way = b.way ∧ a.node = b.node ∧ a.old = b.old)
 ⟨fun ⟨h1, h2, h3, h4⟩ => EdD.ext_ h1 h2 h3 h4, fun h => by subst h; exact ⟨rfl, rfl, rfl, rfl⟩⟩
abbrev delE (w : List Stp) (y : Nd) : EdD := ⟨2, w, noN, y⟩
abbrev newE (w : List Stp) (y : Nd) : EdD := ⟨1, w, y, noN⟩
def edF : NdF → NdF → List Stp → List EdD
 | .nil, .nil, _ => []
 | .cons a k r, .nil, w => delE (w ++ [stp a]) (a, k) :: edF r .nil w
 | .nil, .cons b q s, w => newE (w ++ [stp b]) (b, q) :: edF .nil s w
 | .cons a k r, .cons b q s, w =>
  if lessX a b = true then delE (w ++ [stp a]) (a, k) :: edF r (.cons b q s) w
  else if lessX b a = true then newE (w ++ [stp b]) (b, q) :: edF (.cons a k r) s w
  else (if a = b ∧ k = q then [] else if a.kind ≠ 0 ∧ b.kind ≠ 0 then [⟨3, w ++ [stp a], (b, q), (a, k)⟩]
   else if a.kind = 0 ∧ b.kind = 0 then edF k q (w ++ [stp a]) else [delE (w ++ [stp a]) (a, k), newE (w ++ [stp a]) (b, q)]) ++ edF r s w
termination_by f g => f.size + g.size
decreasing_by all_goals (simp only [Fr.size]; omega)
def edK (x y : Nd) (w : List Stp) : List EdD := if x = y then [] else if x.1.kind ≠ 0 ∧ y.1.kind ≠ 0 then [⟨3, w, y, x⟩] else if x.1.kind = 0 ∧ y.1.kind = 0 then edF x.2 y.2 w else [delE w x, newE w y]
theorem edF_nil (w : List Stp) : edF .nil .nil w = [] := by rw [edF]
theorem edF_del (a : NdD) (k r : NdF) (w : List Stp) : edF (.cons a k r) .nil w = delE (w ++ [stp a]) (a, k) :: edF r .nil w := by rw [edF]
theorem edF_new (b : NdD) (q s : NdF) (w : List Stp) : edF .nil (.cons b q s) w = newE (w ++ [stp b]) (b, q) :: edF .nil s w := by rw [edF]
theorem edF_both (a b : NdD) (k r q s : NdF) (w : List Stp) : edF (.cons a k r) (.cons b q s) w = if lessX a b = true then delE (w ++ [stp a]) (a, k) :: edF r (.cons b q s) w
  else if lessX b a = true then newE (w ++ [stp b]) (b, q) :: edF (.cons a k r) s w else edK (a, k) (b, q) (w ++ [stp a]) ++ edF r s w := by
 rw [edF]
 unfold edK
 simp only [Prod.mk.injEq]
theorem ed_ind {P : NdF → NdF → List Stp → Prop} (h0 : ∀ w, P .nil .nil w) (h1 : ∀ a k r w, P r .nil w → P (.cons a k r) .nil w) (h2 : ∀ b q s w, P .nil s w → P .nil (.cons b q s) w)
  (h3 : ∀ a k r b q s w, lessX a b = true → P r (.cons b q s) w → P (.cons a k r) (.cons b q s) w)
  (h4 : ∀ a k r b q s w, lessX a b = false → lessX b a = true → P (.cons a k r) s w → P (.cons a k r) (.cons b q s) w)
  (h5 : ∀ a k r b q s w, lessX a b = false → lessX b a = false → stp a = stp b → P k q (w ++ [stp a]) → P r s w → P (.cons a k r) (.cons b q s) w) : ∀ f g w, P f g w := by
 have main : ∀ n f g w, f.size + g.size ≤ n → P f g w := by
  intro n
  induction n with
  | zero =>
   intro f g w h
   cases f with
   | nil => cases g with
    | nil => exact h0 w
    | cons b q s => simp only [Fr.size] at h; omega
   | cons a k r => simp only [Fr.size] at h; omega
  | succ n ih =>
   intro f g w h
   cases f with
   | nil => cases g with
    | nil => exact h0 w
    | cons b q s => exact h2 b q s w (ih _ _ _ (by simp only [Fr.size] at h ⊢; omega))
   | cons a k r => cases g with
    | nil => exact h1 a k r w (ih _ _ _ (by simp only [Fr.size] at h ⊢; omega))
    | cons b q s =>
     cases hab : lessX a b with
     | true => exact h3 a k r b q s w hab (ih _ _ _ (by simp only [Fr.size] at h ⊢; omega))
     | false => cases hba : lessX b a with
      | true => exact h4 a k r b q s w hab hba (ih _ _ _ (by simp only [Fr.size] at h ⊢; omega))
      | false =>
       refine h5 a k r b q s w hab hba ?_ (ih _ _ _ (by simp only [Fr.size] at h ⊢; omega)) (ih _ _ _ (by simp only [Fr.size] at h ⊢; omega))
       by_cases e : stp a = stp b
       ·exact e
       ·rcases lessS_total e with h | h
        ·unfold lessX at hab; rw [h] at hab; cases hab
        ·unfold lessX at hba; rw [h] at hba; cases hba
 exact fun f g w => main _ f g w (Nat.le_refl _)
theorem edF_lt {a b : NdD} (h : lessX a b = true) (k r q s : NdF) (w : List Stp) : edF (.cons a k r) (.cons b q s) w = delE (w ++ [stp a]) (a, k) :: edF r (.cons b q s) w := by rw [edF_both, if_pos h]
theorem edF_gt {a b : NdD} (h1 : lessX a b = false) (h : lessX b a = true) (k r q s : NdF) (w : List Stp) : edF (.cons a k r) (.cons b q s) w = newE (w ++ [stp b]) (b, q) :: edF (.cons a k r) s w := by
 rw [edF_both, if_neg (by rw [h1]; simp), if_pos h]
theorem edF_eq {a b : NdD} (h1 : lessX a b = false) (h : lessX b a = false) (k r q s : NdF) (w : List Stp) : edF (.cons a k r) (.cons b q s) w = edK (a, k) (b, q) (w ++ [stp a]) ++ edF r s w := by
 rw [edF_both, if_neg (by rw [h1]; simp), if_neg (by rw [h]; simp)]
theorem ed_self : ∀ (f : NdF) (w : List Stp), edF f f w = [] := by
 intro f
 induction f with
 | nil => intro w; exact edF_nil w
 | cons a k r _ ih =>
  intro w
  have h : lessX a a = false := lessS_irrefl _
  rw [edF_eq h h, ih w]
  unfold edK
  rw [if_pos rfl]
  rfl
def inv1 (e : EdD) : Option EdD := if e.kind = 1 then some ⟨2, e.way, noN, e.node⟩ else if e.kind = 2 then some ⟨1, e.way, e.old, noN⟩ else if e.kind = 3 then some ⟨3, e.way, e.old, e.node⟩ else none
def invX (l : List EdD) : List EdD := l.reverse.filterMap inv1
def Prp (e : EdD) : Prop := (e.kind = 1 ∧ e.old = noN) ∨ (e.kind = 2 ∧ e.node = noN) ∨ e.kind = 3
def Shp (w : List Stp) (e : EdD) : Prop := Prp e ∧ ∃ m y, e.way = w ++ m ++ [stp y.1] ∧ y = (if e.kind = 2 then e.old else e.node)
theorem edK_shp {x y : Nd} {w : List Stp} (hs : stp x.1 = stp y.1) (h : ∀ e ∈ edF x.2 y.2 (w ++ [stp x.1]), Shp (w ++ [stp x.1]) e) : ∀ e ∈ edK x y (w ++ [stp x.1]), Shp w e ∧ ∃ m, e.way = w ++ [stp x.1] ++ m := by
 intro e he
 unfold edK at he
 split at he
 ·cases he
 ·split at he
  ·simp only [List.mem_cons, List.not_mem_nil, or_false] at he
   subst he
   exact ⟨⟨.inr (.inr rfl), [], y, by rw [List.append_nil, hs], rfl⟩, [], by simp⟩
  ·split at he
   ·obtain ⟨h1, m, z, h2, h3⟩ := h e he
    exact ⟨⟨h1, [stp x.1] ++ m, z, by rw [h2]; simp, h3⟩, m ++ [stp z.1], by rw [h2]; simp⟩
   ·simp only [List.mem_cons, List.not_mem_nil, or_false] at he
    rcases he with rfl | rfl
    ·exact ⟨⟨.inr (.inl ⟨rfl, rfl⟩), [], x, by simp, rfl⟩, [], by simp⟩
    ·exact ⟨⟨.inl ⟨rfl, rfl⟩, [], y, by rw [List.append_nil, hs], rfl⟩, [], by simp⟩
theorem ed_shp (f g : NdF) (w : List Stp) : ∀ e ∈ edF f g w, Shp w e := by
 refine ed_ind (P := fun f g w => ∀ e ∈ edF f g w, Shp w e) (fun w e he => by rw [edF_nil] at he; cases he) (fun a k r w ih e he => ?_) (fun b q s w ih e he => ?_) (fun a k r b q s w h ih e he => ?_) (fun a k r b q s w h1 h2 ih e he => ?_) (fun a k r b q s w h1 h2 hs ihk ih e he => ?_) f g w
 ·rw [edF_del] at he
  rcases List.mem_cons.1 he with rfl | he
  ·exact ⟨.inr (.inl ⟨rfl, rfl⟩), [], (a, k), by simp, rfl⟩
  ·exact ih e he
 ·rw [edF_new] at he
  rcases List.mem_cons.1 he with rfl | he
  ·exact ⟨.inl ⟨rfl, rfl⟩, [], (b, q), by simp, rfl⟩
  ·exact ih e he
 ·rw [edF_lt h] at he
  rcases List.mem_cons.1 he with rfl | he
  ·exact ⟨.inr (.inl ⟨rfl, rfl⟩), [], (a, k), by simp, rfl⟩
  ·exact ih e he
 ·rw [edF_gt h1 h2] at he
  rcases List.mem_cons.1 he with rfl | he
  ·exact ⟨.inl ⟨rfl, rfl⟩, [], (b, q), by simp, rfl⟩
  ·exact ih e he
 ·rw [edF_eq h1 h2] at he
  rcases List.mem_append.1 he with he | he
  ·exact (edK_shp (x := (a, k)) (y := (b, q)) hs ihk e he).1
  ·exact ih e he
def stepsF : NdF → List Stp
 | .nil => []
 | .cons a _ r => stp a :: stepsF r
def putK : Nd → List Stp → NdF → Nd
 | x, [], h => (x.1, h)
 | x, s :: l, h => match gtF s x.2 with
  | none => x
  | some z => (x.1, repF s (putK z l h) x.2)
theorem putK_cons {x z : Nd} {s : Stp} (hz : gtF s x.2 = some z) (l : List Stp) (h : NdF) : putK x (s :: l) h = (x.1, repF s (putK z l h) x.2) := by
 simp only [putK, hz]
theorem putK_fst (h : NdF) : ∀ (l : List Stp) (x : Nd), (putK x l h).1 = x.1 := by
 intro l x
 cases l with
 | nil => rfl
 | cons s l => simp only [putK]; split <;> rfl
theorem getX_cons {x y : Nd} {s : Stp} {l : List Stp} (h : getX x (s :: l) = some y) : ∃ z, gtF s x.2 = some z ∧ getX z l = some y := by
 simp only [getX] at h
 split at h
 ·cases h
 ·next z hz => exact ⟨z, hz, h⟩
theorem getX_of {x z : Nd} {s : Stp} (hz : gtF s x.2 = some z) (l : List Stp) : getX x (s :: l) = getX z l := by
 simp only [getX, hz]
theorem putK_get (h' : NdF) {y : Nd} : ∀ (l : List Stp) (x : Nd), getX x l = some y → getX (putK x l h') l = some (y.1, h') := by
 intro l
 induction l with
 | nil => intro x h; injection h with h; subst h; rfl
 | cons s l ih =>
  intro x h
  obtain ⟨z, hz, h2⟩ := getX_cons h
  rw [putK_cons hz]
  have h3 : gtF s (repF s (putK z l h') x.2) = some (putK z l h') := getF_rep (by rw [putK_fst]; exact getF_stp hz) hz
  rw [getX_of h3]
  exact ih z h2
theorem putK_putK (h1 h2 : NdF) {y : Nd} : ∀ (l : List Stp) (x : Nd), getX x l = some y → putK (putK x l h1) l h2 = putK x l h2 := by
 intro l
 induction l with
 | nil => intro x h; rfl
 | cons s l ih =>
  intro x h
  obtain ⟨z, hz, h3⟩ := getX_cons h
  have hs : stp (putK z l h1).1 = s := by rw [putK_fst]; exact getF_stp hz
  rw [putK_cons hz, putK_cons (x := (x.1, repF s (putK z l h1) x.2)) (z := putK z l h1) (getF_rep hs hz), putK_cons hz, ih z h3]
  show (x.1, repF s (putK z l h2) (repF s (putK z l h1) x.2)) = _
  rw [rep_rep hs]
theorem putK_same {a : NdD} {h : NdF} : ∀ (l : List Stp) (x : Nd), getX x l = some (a, h) → putK x l h = x := by
 intro l
 induction l with
 | nil => intro x hx; injection hx with hx; subst hx; rfl
 | cons s l ih =>
  intro x hx
  obtain ⟨z, hz, h3⟩ := getX_cons hx
  rw [putK_cons hz, ih z h3, rep_same hz]
theorem get_snoc {a : NdD} {h : NdF} {s : Stp} : ∀ (l : List Stp) (x : Nd), getX x l = some (a, h) → getX x (l ++ [s]) = gtF s h := by
 intro l
 induction l with
 | nil =>
  intro x hx
  injection hx with hx
  subst hx
  show getX (a, h) [s] = _
  cases hg : gtF s h with
  | none => simp only [getX, hg]
  | some z => rw [getX_of (x := (a, h)) hg]; rfl
 | cons t l ih =>
  intro x hx
  obtain ⟨z, hz, h3⟩ := getX_cons hx
  rw [List.cons_append, getX_of hz]
  exact ih z h3
theorem putK_snoc {a : NdD} {h : NdF} {s : Stp} {y : Nd} (hy : gtF s h = some y) (h' : NdF) : ∀ (l : List Stp) (x : Nd), getX x l = some (a, h) → putK x (l ++ [s]) h' = putK x l (repF s (y.1, h') h) := by
 intro l
 induction l with
 | nil =>
  intro x hx
  injection hx with hx
  subst hx
  show putK (a, h) [s] h' = _
  rw [putK_cons (x := (a, h)) hy]
  rfl
 | cons t l ih =>
  intro x hx
  obtain ⟨z, hz, h3⟩ := getX_cons hx
  rw [List.cons_append, putK_cons hz, putK_cons hz, ih z h3]
theorem cut_put {a : NdD} {h : NdF} {s : Stp} : ∀ (l : List Stp) (x : Nd), getX x l = some (a, h) → cutX x (l ++ [s]) = putK x l (delF s h) := by
 intro l
 induction l with
 | nil => intro x hx; injection hx with hx; subst hx; exact cutX_one
 | cons t l ih =>
  intro x hx
  obtain ⟨z, hz, h3⟩ := getX_cons hx
  rw [putK_cons hz, ← ih z h3]
  cases l with
  | nil => show cutX x (t :: s :: []) = _; rw [cut_more, hz]; rfl
  | cons u l => show cutX x (t :: u :: (l ++ [s])) = _; rw [cut_more, hz]; rfl
theorem set_put {a : NdD} {h : NdF} {s : Stp} {y : Nd} : ∀ (l : List Stp) (x : Nd), getX x l = some (a, h) → setX x (l ++ [s]) y = putK x l (match gtF s h with | some _ => repF s y h | none => insF y h) := by
 intro l
 induction l with
 | nil =>
  intro x hx
  injection hx with hx
  subst hx
  show setX (a, h) [s] y = _
  rw [set_one]
  show (match gtF s h with | some _ => (a, repF s y h) | none => (a, insF y h)) = (a, _)
  cases gtF s h <;> rfl
 | cons t l ih =>
  intro x hx
  obtain ⟨z, hz, h3⟩ := getX_cons hx
  rw [putK_cons hz, ← ih z h3]
  cases l with
  | nil => show setX x (t :: s :: []) y = _; rw [set_more, hz]; rfl
  | cons u l => show setX x (t :: u :: (l ++ [s])) y = _; rw [set_more, hz]; rfl
theorem app_gt {t : Stp} : ∀ {p f : NdF}, allGt t (p.app f) → allGt t p ∧ allGt t f := by
 intro p
 induction p with
 | nil => intro f h; exact ⟨trivial, h⟩
 | cons a k r _ ih =>
  intro f h
  obtain ⟨h1, h2⟩ := ih h.2
  exact ⟨⟨h.1, h1⟩, h2⟩
theorem app_less {a : NdD} {k r : NdF} : ∀ {p : NdF}, rgtF (p.app (.cons a k r)) = true → ∀ t ∈ stepsF p, lessS t (stp a) = true := by
 intro p
 induction p with
 | nil => intro _ t ht; simp [stepsF] at ht
 | cons b q s _ ih =>
  intro h t ht
  obtain ⟨_, h2, h3⟩ := right_cons_iff.1 (show rgtF (.cons b q (s.app (.cons a k r))) = true from h)
  simp only [stepsF, List.mem_cons] at ht
  rcases ht with rfl | ht
  ·exact (app_gt h2).2.1
  ·exact ih h3 t ht
theorem app_right {f : NdF} : ∀ {p : NdF}, rgtF (p.app f) = true → rgtF f = true := by
 intro p
 induction p with
 | nil => exact id
 | cons b q s _ ih => exact fun h => ih (right_cons_iff.1 (show rgtF (.cons b q (s.app f)) = true from h)).2.2
theorem app_get {s : Stp} {f : NdF} : ∀ {p : NdF}, s ∉ stepsF p → gtF s (p.app f) = gtF s f := by
 intro p
 induction p with
 | nil => intro _; rfl
 | cons b q r _ ih =>
  intro h
  simp only [stepsF, List.mem_cons, not_or] at h
  show gtF s (.cons b q (r.app f)) = _
  simp only [gtF]
  rw [if_neg (fun e => h.1 e.symm)]
  exact ih h.2
theorem app_del {s : Stp} {f : NdF} : ∀ {p : NdF}, s ∉ stepsF p → delF s (p.app f) = p.app (delF s f) := by
 intro p
 induction p with
 | nil => intro _; rfl
 | cons b q r _ ih =>
  intro h
  simp only [stepsF, List.mem_cons, not_or] at h
  show delF s (.cons b q (r.app f)) = .cons b q (r.app (delF s f))
  simp only [delF]
  rw [if_neg (fun e => h.1 e.symm), ih h.2]
theorem app_rep {s : Stp} {y : Nd} {f : NdF} : ∀ {p : NdF}, s ∉ stepsF p → repF s y (p.app f) = p.app (repF s y f) := by
 intro p
 induction p with
 | nil => intro _; rfl
 | cons b q r _ ih =>
  intro h
  simp only [stepsF, List.mem_cons, not_or] at h
  show repF s y (.cons b q (r.app f)) = .cons b q (r.app (repF s y f))
  simp only [repF]
  rw [if_neg (fun e => h.1 e.symm), ih h.2]
theorem app_ins {y : Nd} {f : NdF} : ∀ {p : NdF}, (∀ t ∈ stepsF p, lessS t (stp y.1) = true) → insF y (p.app f) = p.app (insF y f) := by
 intro p
 induction p with
 | nil => intro _; rfl
 | cons b q r _ ih =>
  intro h
  show insF y (.cons b q (r.app f)) = .cons b q (r.app (insF y f))
  simp only [insF]
  rw [if_pos (by have := h (stp b) (by simp [stepsF]); exact this), ih fun t ht => h t (by simp [stepsF, ht])]
def oneX (n : Nd) (x : EdD) : Nd × Nat :=
 if (x.kind ≠ 1 ∧ x.kind ≠ 2 ∧ x.kind ≠ 3) ∨ x.way = [] ∨ (x.kind ≠ 2 ∧ x.way.getLast? ≠ some (stp x.node.1)) ∨ (x.kind ≠ 1 ∧ x.way.getLast? ≠ some (stp x.old.1)) then (noN, 1)
 else if x.kind = 1 ∧ (GetX n x.way).2 = true then (noN, 24)
 else if x.kind ≠ 1 ∧ (GetX n x.way).2 = false then (noN, 30)
 else if (x.kind ≠ 1 ∧ (GetX n x.way).1 ≠ x.old) ∨ (x.kind = 3 ∧ (x.node.1.kind = 0 ∨ x.old.1.kind = 0)) then (noN, 23)
 else if x.kind = 2 then CutX n x.way else SetX n x.way x.node
def runXE : Nd → List EdD → Nat → Nd × Nat × Nat
 | n, [], _ => (n, 0, 0)
 | n, x :: l, i => if (oneX n x).2 = 0 then runXE (oneX n x).1 l (i + 1) else (noN, (oneX n x).2, i)
def Goes (n : Nd) (l : List EdD) (m : Nd) : Prop := ∀ i, runXE n l i = (m, 0, 0)
theorem Goes.nil (n : Nd) : Goes n [] n := fun _ => rfl
theorem Goes.cons {n k m : Nd} {x : EdD} {l : List EdD} (h : oneX n x = (k, 0)) (h2 : Goes k l m) : Goes n (x :: l) m := fun i => by
 simp only [runXE, h]
 exact h2 (i + 1)
theorem Goes.app {m k : Nd} {l2 : List EdD} (h2 : Goes k l2 m) : ∀ {l : List EdD} {n : Nd}, Goes n l k → Goes n (l ++ l2) m := by
 intro l
 induction l with
 | nil =>
  intro n h
  have h1 := h 0
  simp only [runXE, Prod.mk.injEq, and_true] at h1
  subst h1
  exact h2
 | cons x l ih =>
  intro n h i
  have h1 : ∀ j, runXE n (x :: l) j = (k, 0, 0) := h
  simp only [runXE] at h1
  show runXE n (x :: (l ++ l2)) i = _
  simp only [runXE]
  by_cases hx : (oneX n x).2 = 0
  ·simp only [if_pos hx] at h1 ⊢
   refine ih (n := (oneX n x).1) (fun j => ?_) (i + 1)
   have hmv : ∀ (l : List EdD) (n : Nd) (i j : Nat), (runXE n l i).2.1 = 0 → runXE n l j = runXE n l i := by
    intro l
    induction l with
    | nil => intro n i j _; rfl
    | cons y l ih2 =>
     intro n i j h9
     simp only [runXE] at h9 ⊢
     by_cases hy : (oneX n y).2 = 0
     ·simp only [if_pos hy] at h9 ⊢
      exact ih2 _ _ _ h9
     ·simp only [if_neg hy] at h9
      exact absurd h9 hy
   exact (hmv l _ 1 j (by rw [h1 0])).trans (h1 0)
  ·have h3 := h1 0
   rw [if_neg hx] at h3
   injection h3 with e1 e2
   injection e2 with e3 e4
   exact absurd e3 hx
theorem snoc_last (w : List Stp) (s : Stp) : (w ++ [s]).getLast? = some s := by simp
theorem one_new {n : Nd} {w : List Stp} {a b : NdD} {q h : NdF} (hn : getX n w = some (a, h)) (ha : a.kind = 0) (hb : gtF (stp b) h = none) : oneX n (newE (w ++ [stp b]) (b, q)) = (putK n w (insF (b, q) h), 0) := by
 have hg : GetX n (w ++ [stp b]) = (noN, false) := by unfold GetX; rw [get_snoc w n hn, hb]
 have hs : SetX n (w ++ [stp b]) (b, q) = (putK n w (insF (b, q) h), 0) := by
  have ho : okSet n (w ++ [stp b]) (b, q) := (ok_iff _ _).2 ⟨snoc_last _ _, (a, h), by rw [List.dropLast_concat]; exact hn, ha⟩
  rw [SetX_is ho, set_put w n hn, hb]
 unfold oneX
 simp [newE, hg, hs]
theorem one_del {n : Nd} {w : List Stp} {a b : NdD} {q h : NdF} (hn : getX n w = some (a, h)) (hb : gtF (stp b) h = some (b, q)) : oneX n (delE (w ++ [stp b]) (b, q)) = (putK n w (delF (stp b) h), 0) := by
 have hx : getX n (w ++ [stp b]) = some (b, q) := (get_snoc w n hn).trans hb
 have hg : GetX n (w ++ [stp b]) = ((b, q), true) := by unfold GetX; rw [hx]
 have hs : CutX n (w ++ [stp b]) = (putK n w (delF (stp b) h), 0) := by
  rw [CutX_is (by simp) hx, cut_put w n hn]
 unfold oneX
 simp [delE, hg, hs]
theorem one_rep {n : Nd} {w : List Stp} {a b c : NdD} {q k h : NdF} (hn : getX n w = some (a, h)) (ha : a.kind = 0) (hc : gtF (stp c) h = some (c, k)) (hs : stp c = stp b) (h1 : c.kind ≠ 0) (h2 : b.kind ≠ 0) : oneX n ⟨3, w ++ [stp c], (b, q), (c, k)⟩ = (putK n w (repF (stp c) (b, q) h), 0) := by
 have hx : getX n (w ++ [stp c]) = some (c, k) := (get_snoc w n hn).trans hc
 have hg : GetX n (w ++ [stp c]) = ((c, k), true) := by unfold GetX; rw [hx]
 have hs2 : SetX n (w ++ [stp c]) (b, q) = (putK n w (repF (stp c) (b, q) h), 0) := by
  rw [SetX_is ((ok_iff _ _).2 ⟨by rw [snoc_last, hs], (a, h), by rw [List.dropLast_concat]; exact hn, ha⟩), set_put w n hn, hc]
 rw [hs] at hg hs2
 unfold oneX
 simp [hg, hs2, h1, h2, hs]
theorem not_ahead {a : NdD} {k r p : NdF} (h : rgtF (p.app (.cons a k r)) = true) : stp a ∉ stepsF p := fun hm => by
 have := app_less h _ hm
 rw [lessS_irrefl] at this
 cases this
theorem get_mid {a : NdD} {k r p : NdF} (h : rgtF (p.app (.cons a k r)) = true) : gtF (stp a) (p.app (.cons a k r)) = some (a, k) := by
 rw [app_get (not_ahead h)]; simp [gtF]
theorem del_mid {a : NdD} {k r p : NdF} (h : rgtF (p.app (.cons a k r)) = true) : delF (stp a) (p.app (.cons a k r)) = p.app r := by
 rw [app_del (not_ahead h)]; simp [delF]
theorem same_inner {a b : NdD} {k q : NdF} (h : rgtX (a, k) = true) (h2 : rgtX (b, q) = true) (hs : stp a = stp b) (ha : a.kind = 0) (hb : b.kind = 0) : a = b := by
 obtain ⟨h3, h4, _⟩ := right_kind0 h ha
 obtain ⟨h5, h6, _⟩ := right_kind0 h2 hb
 obtain ⟨n1, k1, d1, u1, t1⟩ := a
 obtain ⟨n2, k2, d2, u2, t2⟩ := b
 simp only [stp, Prod.mk.injEq] at hs
 simp only at ha hb h3 h4 h5 h6
 obtain ⟨rfl, rfl⟩ := hs
 subst ha hb h3 h4 h5 h6
 rfl
theorem ed_makes (f g : NdF) (w : List Stp) : ∀ (n : Nd) (a : NdD) (p : NdF), getX n w = some (a, p.app f) → a.kind = 0 → rgtF (p.app f) = true → rgtF (p.app g) = true → Goes n (edF f g w) (putK n w (p.app g)) := by
 refine ed_ind (P := fun f g w => ∀ (n : Nd) (a : NdD) (p : NdF), getX n w = some (a, p.app f) → a.kind = 0 → rgtF (p.app f) = true → rgtF (p.app g) = true → Goes n (edF f g w) (putK n w (p.app g)))
  (fun w n a p hn _ _ _ => ?_) (fun c k r w ih n a p hn ha hf hg => ?_) (fun b q s w ih n a p hn ha hf hg => ?_) (fun c k r b q s w h ih n a p hn ha hf hg => ?_) (fun c k r b q s w h1 h2 ih n a p hn ha hf hg => ?_) (fun c k r b q s w h1 h2 hs ihk ih n a p hn ha hf hg => ?_) f g w
 ·rw [edF_nil, putK_same w n hn]; exact Goes.nil n
 ·rw [edF_del]
  refine Goes.cons (one_del hn (get_mid hf)) ?_
  rw [del_mid hf]
  have h := ih (putK n w (p.app r)) a p (putK_get _ w n hn) ha (by rw [← del_mid hf]; exact right_del hf) hg
  rwa [putK_putK _ _ w n hn] at h
 ·rw [edF_new]
  have hb := one_new (b := b) (q := q) hn ha (by rw [app_get (not_ahead hg)]; rfl)
  refine Goes.cons hb ?_
  have he : insF (b, q) (p.app .nil) = (p.app (.cons b q .nil)).app .nil := by rw [app_ins (app_less hg), Fr.app_nil]; rfl
  have hx := (right_cons_iff.1 (app_right hg)).1
  rw [he]
  have h := ih (putK n w ((p.app (.cons b q .nil)).app .nil)) a (p.app (.cons b q .nil)) (putK_get _ w n hn) ha (by rw [← he]; exact right_ins hx hf (by rw [app_get (not_ahead hg)]; rfl)) (by rw [Fr.app_assoc]; exact hg)
  rw [putK_putK _ _ w n hn, Fr.app_assoc p (.cons b q .nil) s] at h
  exact h
 ·rw [edF_lt h]
  refine Goes.cons (one_del hn (get_mid hf)) ?_
  rw [del_mid hf]
  have h := ih (putK n w (p.app r)) a p (putK_get _ w n hn) ha (by rw [← del_mid hf]; exact right_del hf) hg
  rwa [putK_putK _ _ w n hn] at h
 ·rw [edF_gt h1 h2]
  have hgt : gtF (stp b) (p.app (.cons c k r)) = none := by
   rw [app_get (not_ahead hg)]
   have h3 := (right_cons_iff.1 (app_right hf)).2.1
   exact gt_none ⟨h2, allGt.mono h2 h3⟩
  refine Goes.cons (one_new hn ha hgt) ?_
  have he : insF (b, q) (p.app (.cons c k r)) = (p.app (.cons b q .nil)).app (.cons c k r) := by
   rw [app_ins (app_less hg), Fr.app_assoc]
   congr 1
   simp only [insF]
   rw [if_neg (by rw [h1]; simp)]
   rfl
  have hx := (right_cons_iff.1 (app_right hg)).1
  rw [he]
  have h := ih (putK n w ((p.app (.cons b q .nil)).app (.cons c k r))) a (p.app (.cons b q .nil)) (putK_get _ w n hn) ha (by rw [← he]; exact right_ins hx hf hgt) (by rw [Fr.app_assoc]; exact hg)
  rw [putK_putK _ _ w n hn, Fr.app_assoc p (.cons b q .nil) s] at h
  exact h
 ·rw [edF_eq h1 h2]
  have hx := (right_cons_iff.1 (app_right hf)).1
  have hy := (right_cons_iff.1 (app_right hg)).1
  have hfr : rgtF (p.app (.cons b q r)) = true := by
   have h := right_rep (s := stp c) (y := (b, q)) hs.symm hy hf
   rw [app_rep (not_ahead hf)] at h
   simpa [repF] using h
  have key : Goes n (edK (c, k) (b, q) (w ++ [stp c])) (putK n w (p.app (.cons b q r))) := by
   unfold edK
   split
   ·rename_i e
    injection e with e1 e2
    subst e1 e2
    rw [putK_same w n hn]
    exact Goes.nil n
   ·split
    ·rename_i hk
     have h := one_rep (b := b) (q := q) hn ha (get_mid hf) hs hk.1 hk.2
     rw [app_rep (not_ahead hf)] at h
     simp only [repF, if_true] at h
     exact Goes.cons h (Goes.nil _)
    ·split
     ·rename_i hk
      obtain rfl := same_inner hx hy hs hk.1 hk.2
      have hxr := (right_kind0 hx hk.1).2.2
      have hyr := (right_kind0 hy hk.2).2.2
      have h := ihk n c .nil ((get_snoc w n hn).trans (get_mid hf)) hk.1 hxr hyr
      rw [putK_snoc (get_mid hf) _ w n hn, app_rep (not_ahead hf)] at h
      simpa [repF, Fr.app] using h
     ·have hd : gtF (stp b) (p.app r) = none := by
       rw [app_get (not_ahead hg), ← hs]
       exact gt_none (right_cons_iff.1 (app_right hf)).2.1
      have h3 := one_del hn (get_mid hf)
      rw [del_mid hf] at h3
      have h4 := one_new (b := b) (q := q) (putK_get (p.app r) w n hn) ha hd
      rw [putK_putK _ _ w n hn, app_ins (app_less hg), ins_gt (by rw [← hs]; exact (right_cons_iff.1 (app_right hf)).2.1), ← hs] at h4
      exact Goes.cons h3 (Goes.cons h4 (Goes.nil _))
  refine Goes.app ?_ key
  have h := ih (putK n w (p.app (.cons b q r))) a (p.app (.cons b q .nil)) (by rw [Fr.app_assoc]; exact putK_get _ w n hn) ha (by rw [Fr.app_assoc]; exact hfr) (by rw [Fr.app_assoc]; exact hg)
  rw [putK_putK _ _ w n hn, Fr.app_assoc p (.cons b q .nil) s] at h
  exact h
theorem getX_none17 {n : Nd} {w : List Stp} (h : (GetX n w).2 = false) : getX n w = none := by
 unfold GetX at h
 cases hg : getX n w with
 | none => rfl
 | some y => rw [hg] at h; cases h
theorem getX_some17 {n : Nd} {w : List Stp} (h : (GetX n w).2 = true) : getX n w = some (GetX n w).1 := by
 unfold GetX at h ⊢
 cases hg : getX n w with
 | none => rw [hg] at h; cases h
 | some y => rfl
theorem oneX_parts {n m : Nd} {x : EdD} (h : oneX n x = (m, 0)) :
  (x.kind = 1 ∧ getX n x.way = none ∧ SetX n x.way x.node = (m, 0)) ∨ (x.kind = 2 ∧ x.way.getLast? = some (stp x.old.1) ∧ getX n x.way = some x.old ∧ CutX n x.way = (m, 0)) ∨
  (x.kind = 3 ∧ x.way.getLast? = some (stp x.old.1) ∧ getX n x.way = some x.old ∧ x.node.1.kind ≠ 0 ∧ x.old.1.kind ≠ 0 ∧ SetX n x.way x.node = (m, 0)) := by
 unfold oneX at h
 by_cases c1 : (x.kind ≠ 1 ∧ x.kind ≠ 2 ∧ x.kind ≠ 3) ∨ x.way = [] ∨ (x.kind ≠ 2 ∧ x.way.getLast? ≠ some (stp x.node.1)) ∨ (x.kind ≠ 1 ∧ x.way.getLast? ≠ some (stp x.old.1))
 ·rw [if_pos c1] at h; injection h with _ e; exact absurd e (by decide)
 rw [if_neg c1] at h
 simp only [not_or, not_and, Classical.not_not] at c1
 obtain ⟨d1, d2, d3, d4⟩ := c1
 by_cases c2 : x.kind = 1 ∧ (GetX n x.way).2 = true
 ·rw [if_pos c2] at h; injection h with _ e; exact absurd e (by decide)
 rw [if_neg c2] at h
 by_cases c3 : x.kind ≠ 1 ∧ (GetX n x.way).2 = false
 ·rw [if_pos c3] at h; injection h with _ e; exact absurd e (by decide)
 rw [if_neg c3] at h
 by_cases c4 : (x.kind ≠ 1 ∧ (GetX n x.way).1 ≠ x.old) ∨ (x.kind = 3 ∧ (x.node.1.kind = 0 ∨ x.old.1.kind = 0))
 ·rw [if_pos c4] at h; injection h with _ e; exact absurd e (by decide)
 rw [if_neg c4] at h
 simp only [not_or, not_and, Classical.not_not] at c4
 by_cases k1 : x.kind = 1
 ·rw [if_neg (by omega)] at h
  refine .inl ⟨k1, getX_none17 ?_, h⟩
  cases hg : (GetX n x.way).2 with
  | false => rfl
  | true => exact absurd ⟨k1, hg⟩ c2
 ·have hg : (GetX n x.way).2 = true := by
   cases hg : (GetX n x.way).2 with
   | true => rfl
   | false => exact absurd ⟨k1, hg⟩ c3
  have hs := getX_some17 hg
  rw [c4.1 k1] at hs
  by_cases k2 : x.kind = 2
  ·rw [if_pos k2] at h
   exact .inr (.inl ⟨k2, d4 k1, hs, h⟩)
  ·rw [if_neg k2] at h
   have k3 : x.kind = 3 := d1 k1 k2
   exact .inr (.inr ⟨k3, d4 k1, hs, (c4.2 k3).1, (c4.2 k3).2, h⟩)
theorem set_set {y z : Nd} : ∀ (l : List Stp) (x : Nd), okSet x l y → getX x l = some z → okSet (setX x l y) l z ∧ setX (setX x l y) l z = x := by
 intro l
 induction l with
 | nil => intro x h; exact absurd rfl (ok_ne h)
 | cons s l ih =>
  intro x h hz
  cases l with
  | nil =>
   obtain ⟨h1, h2⟩ := ok_one.1 h
   obtain ⟨u, hu, hu2⟩ := getX_cons hz
   injection hu2 with hu2
   subst hu2
   have e : setX x [s] y = (x.1, repF s y x.2) := by rw [set_one, hu]
   rw [e]
   refine ⟨ok_one.2 ⟨(getF_stp hu).symm, h2⟩, ?_⟩
   rw [set_one]
   show (match gtF s (repF s y x.2) with | some _ => (x.1, repF s u (repF s y x.2)) | none => (x.1, insF u (repF s y x.2))) = x
   rw [getF_rep h1.symm hu, rep_rep h1.symm, rep_same hu]
  | cons t l =>
   obtain ⟨u, hu, h2⟩ := ok_more.1 h
   obtain ⟨u', hu', hz2⟩ := getX_cons hz
   rw [hu] at hu'
   injection hu' with hu'
   subst hu'
   obtain ⟨g1, g2⟩ := ih u h2 hz2
   have hs : stp (setX u (t :: l) y).1 = s := by rw [set_fst]; exact getF_stp hu
   have e : setX x (s :: t :: l) y = (x.1, repF s (setX u (t :: l) y) x.2) := by rw [set_more, hu]
   rw [e]
   refine ⟨ok_more.2 ⟨_, getF_rep hs hu, g1⟩, ?_⟩
   rw [set_more]
   show (match gtF s (repF s (setX u (t :: l) y) x.2) with | some z' => (x.1, repF s (setX z' (t :: l) z) (repF s (setX u (t :: l) y) x.2)) | none => _) = x
   rw [getF_rep hs hu]
   show (x.1, repF s (setX (setX u (t :: l) y) (t :: l) z) (repF s (setX u (t :: l) y) x.2)) = x
   rw [g2, rep_rep hs, rep_same hu]
theorem getX_is {n y : Nd} {w : List Stp} (h : getX n w = some y) : GetX n w = (y, true) := by unfold GetX; rw [h]
theorem getX_no {n : Nd} {w : List Stp} (h : getX n w = none) : GetX n w = (noN, false) := by unfold GetX; rw [h]
theorem one_back {n m : Nd} {x : EdD} (hr : rgtX n = true) (hp : Prp x) (h : oneX n x = (m, 0)) : ∃ x', inv1 x = some x' ∧ oneX m x' = (n, 0) := by
 obtain ⟨kd, w, y, z⟩ := x
 rcases oneX_parts h with ⟨k1, h1, h2⟩ | ⟨k2, h1, h2, h3⟩ | ⟨k3, h1, h2, h3, h4, h5⟩
 ·simp only at k1 h1 h2
  subst k1
  have hok : okSet n w y := SetX_ok.1 (by rw [h2])
  rw [SetX_is hok] at h2
  injection h2 with e _
  subst e
  have hl := ((ok_iff w n).1 hok).1
  have hw := ok_ne hok
  have hg := getX_is (set_get w n hok)
  have hc : CutX (setX n w y) w = (n, 0) := by rw [CutX_is hw (set_get w n hok), set_cut_none w n hok h1]
  refine ⟨⟨2, w, noN, y⟩, by simp [inv1], ?_⟩
  unfold oneX
  simp [hg, hc, hl, hw]
 ·simp only at k2 h1 h2 h3
  subst k2
  have hw : w ≠ [] := fun e => by rw [e] at h1; simp at h1
  rw [CutX_is hw h2] at h3
  injection h3 with e _
  subst e
  have hg := getX_no (cut_get w n z hr hw h2)
  obtain ⟨c1, c2⟩ := cut_set w n z hr hw h2
  have hs : SetX (cutX n w) w z = (n, 0) := by rw [SetX_is c1, c2]
  refine ⟨⟨1, w, z, noN⟩, by simp [inv1], ?_⟩
  unfold oneX
  simp [hg, hs, h1, hw]
 ·simp only at k3 h1 h2 h3 h4 h5
  subst k3
  have hok : okSet n w y := SetX_ok.1 (by rw [h5])
  rw [SetX_is hok] at h5
  injection h5 with e _
  subst e
  have hl := ((ok_iff w n).1 hok).1
  have hw := ok_ne hok
  have hg := getX_is (set_get w n hok)
  obtain ⟨c1, c2⟩ := set_set w n hok h2
  have hs : SetX (setX n w y) w z = (n, 0) := by rw [SetX_is c1, c2]
  have hzy : stp z.1 = stp y.1 := by rw [h1] at hl; injection hl
  refine ⟨⟨3, w, z, y⟩, by simp [inv1], ?_⟩
  unfold oneX
  simp [hg, hs, h1, hl, hw, h3, h4, hzy]
theorem goes_back : ∀ {l : List EdD} {n m : Nd}, rgtX n = true → (∀ e ∈ l, Prp e ∧ rgtX e.node = true) → Goes n l m → Goes m (invX l) n := by
 intro l
 induction l with
 | nil =>
  intro n m _ _ h
  have h1 := h 0
  simp only [runXE, Prod.mk.injEq, and_true] at h1
  subst h1
  exact Goes.nil n
 | cons x l ih =>
  intro n m hr hp h
  have hx : (oneX n x).2 = 0 := by
   have h1 := h 0
   simp only [runXE] at h1
   by_cases hx : (oneX n x).2 = 0
   ·exact hx
   ·rw [if_neg hx] at h1
    injection h1 with _ e
    injection e with e _
  obtain ⟨k, hk⟩ : ∃ k, oneX n x = (k, 0) := ⟨(oneX n x).1, Prod.ext rfl hx⟩
  have hgo : Goes k l m := by
   have hmv : ∀ (l : List EdD) (n : Nd) (i j : Nat), (runXE n l i).2.1 = 0 → runXE n l j = runXE n l i := by
    intro l
    induction l with
    | nil => intro n i j _; rfl
    | cons y l ih2 =>
     intro n i j h9
     simp only [runXE] at h9 ⊢
     by_cases hy : (oneX n y).2 = 0
     ·simp only [if_pos hy] at h9 ⊢
      exact ih2 _ _ _ h9
     ·simp only [if_neg hy] at h9
      exact absurd h9 hy
   intro i
   have h1 := h 0
   simp only [runXE, hk, if_true] at h1
   exact (hmv l k 1 i (by rw [h1])).trans h1
  obtain ⟨x', hi, hb⟩ := one_back hr (hp x (by simp)).1 hk
  have hkr : rgtX k = true := by
   rcases oneX_parts hk with ⟨_, h1, h2⟩ | ⟨_, h1, h2, h3⟩ | ⟨_, h1, h2, h3, h4, h5⟩
   ·have hok : okSet n x.way x.node := SetX_ok.1 (by rw [h2])
    rw [SetX_is hok] at h2
    injection h2 with e _
    rw [← e]
    exact set_right (hp x (by simp)).2 _ _ hr hok
   ·have hw : x.way ≠ [] := fun e => by rw [e] at h1; simp at h1
    rw [CutX_is hw h2] at h3
    injection h3 with e _
    rw [← e]
    exact cut_right _ _ _ hr hw h2
   ·have hok : okSet n x.way x.node := SetX_ok.1 (by rw [h5])
    rw [SetX_is hok] at h5
    injection h5 with e _
    rw [← e]
    exact set_right (hp x (by simp)).2 _ _ hr hok
  have h2 := ih hkr (fun e he => hp e (by simp [he])) hgo
  have e : invX (x :: l) = invX l ++ [x'] := by unfold invX; simp [hi]
  rw [e]
  exact Goes.app (Goes.cons hb (Goes.nil n)) h2
theorem ed_rgt (f g : NdF) (w : List Stp) : rgtF f = true → rgtF g = true → ∀ e ∈ edF f g w, rgtX e.node = true ∧ rgtX e.old = true := by
 have hz : rgtX noN = true := by decide
 refine ed_ind (P := fun f g w => rgtF f = true → rgtF g = true → ∀ e ∈ edF f g w, rgtX e.node = true ∧ rgtX e.old = true) (fun w _ _ e he => by rw [edF_nil] at he; cases he) (fun a k r w ih hf hg e he => ?_) (fun b q s w ih hf hg e he => ?_) (fun a k r b q s w h ih hf hg e he => ?_) (fun a k r b q s w h1 h2 ih hf hg e he => ?_) (fun a k r b q s w h1 h2 hs ihk ih hf hg e he => ?_) f g w
 ·rw [edF_del] at he
  obtain ⟨x1, _, x3⟩ := right_cons_iff.1 hf
  rcases List.mem_cons.1 he with rfl | he
  ·exact ⟨hz, x1⟩
  ·exact ih x3 hg e he
 ·rw [edF_new] at he
  obtain ⟨x1, _, x3⟩ := right_cons_iff.1 hg
  rcases List.mem_cons.1 he with rfl | he
  ·exact ⟨x1, hz⟩
  ·exact ih hf x3 e he
 ·rw [edF_lt h] at he
  obtain ⟨x1, _, x3⟩ := right_cons_iff.1 hf
  rcases List.mem_cons.1 he with rfl | he
  ·exact ⟨hz, x1⟩
  ·exact ih x3 hg e he
 ·rw [edF_gt h1 h2] at he
  obtain ⟨x1, _, x3⟩ := right_cons_iff.1 hg
  rcases List.mem_cons.1 he with rfl | he
  ·exact ⟨x1, hz⟩
  ·exact ih hf x3 e he
 ·rw [edF_eq h1 h2] at he
  obtain ⟨x1, _, x3⟩ := right_cons_iff.1 hf
  obtain ⟨y1, _, y3⟩ := right_cons_iff.1 hg
  rcases List.mem_append.1 he with he | he
  ·unfold edK at he
   split at he
   ·cases he
   ·split at he
    ·obtain rfl : e = _ := by simpa using he
     exact ⟨y1, x1⟩
    ·split at he
     ·rename_i hk
      exact ihk (right_kind0 x1 hk.1).2.2 (right_kind0 y1 hk.2).2.2 e he
     ·rcases List.mem_cons.1 he with rfl | he
      ·exact ⟨hz, x1⟩
      ·obtain rfl : e = _ := by simpa using he
       exact ⟨y1, hz⟩
  ·exact ih x3 y3 e he
theorem ed_prefix {f g : NdF} (w : List Stp) : ∀ p : NdF, edF (p.app f) (p.app g) w = edF f g w := by
 intro p
 induction p with
 | nil => rfl
 | cons a k r _ ih =>
  show edF (.cons a k (r.app f)) (.cons a k (r.app g)) w = _
  have hl : lessX a a = false := by unfold lessX; exact lessS_irrefl _
  rw [edF_eq hl hl, ih]
  simp [edK]
theorem ed_there {a : NdD} {f g : NdF} (ha : a.kind = 0) (hf : rgtX (a, f) = true) (hg : rgtF g = true) : Goes (a, f) (edF f g []) (a, g) ∧ Goes (a, g) (invX (edF f g [])) (a, f) := by
 have hf2 := (right_kind0 hf ha).2.2
 have h := ed_makes f g [] (a, f) a .nil rfl ha hf2 hg
 refine ⟨h, goes_back hf (fun e he => ⟨(ed_shp f g [] e he).1, (ed_rgt f g [] hf2 hg e he).1⟩) h⟩
end Go.Proofs.Ythmobcaidhgeaaa
