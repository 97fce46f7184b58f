/- EdtNum EdtRow OctRefB TlvMath TlvMem Drawn TlvMany TlvOwn TlvPlain -/
import Derived.Test.YtleidkpdpabkpaaGreatDoorBM3
import Derived.Deep.RegionHeld3
import Derived.Deep.DrawnRows
set_option linter.unusedSimpArgs false
set_option linter.unusedVariables false
set_option maxRecDepth 100000
set_option maxHeartbeats 8000000
namespace Go.Proofs.YtleidkpdpabkpaaGreatDoor
open Go.RowKit
def ndOk (a : NdD) : Bool := decide (¬ (a.kind = 0 ∧ (a.num ≠ 0 ∨ a.text ≠ []))) && decide (0 ≤ a.kind) && decide (a.kind ≤ 255) && decide (¬ (a.text ≠ [] ∧ a.num ≠ 0))
def okF18 : NdF → Bool
 | .nil => true
 | .cons a k r => ndOk a && (decide (a.kind = 0) || decide (k = .nil)) && okF18 k && okF18 r
def okN18 (x : Nd) : Bool := ndOk x.1 && (decide (x.1.kind = 0) || decide (x.2 = .nil)) && okF18 x.2
def okE18 (e : EdD) : Bool := (decide (e.kind = 1) || decide (e.kind = 2) || decide (e.kind = 3)) && decide (e.way ≠ []) && decide (showX e.way ≠ []) && (decide (e.kind ≠ 2) || decide (e.node = noN)) && (decide (e.kind ≠ 1) || decide (e.old = noN)) && okN18 e.node && okN18 e.old
def valT18 (L : Nat → List UInt8) (a : NdD) : List UInt8 := if a.text = [] then UInt8.ofNat a.kind.toNat :: 0 :: L a.num else UInt8.ofNat a.kind.toNat :: 1 :: a.text
def keyI18 (a : NdD) (r : Fo) : Fo := if a.key = [] then r else .cons 2 a.key .nil r
def valI18 (L : Nat → List UInt8) (a : NdD) (r : Fo) : Fo := if a.kind = 0 then r else .cons 4 (valT18 L a) .nil r
def inI18 (L : Nat → List UInt8) (a : NdD) (r : Fo) : Fo := .cons 0 a.name .nil (keyI18 a (valI18 L a r))
def itmF18 (L : Nat → List UInt8) : NdF → Fo
 | .nil => .nil
 | .cons a k r => .cons 7 [] (inI18 L a (itmF18 L k)) (itmF18 L r)
def itm18 (L : Nat → List UInt8) (t : Nat) (x : Nd) (r : Fo) : Fo := .cons t [] (inI18 L x.1 (itmF18 L x.2)) r
def itsE18 (L : Nat → List UInt8) : List EdD → Fo
 | [] => .nil
 | e :: l => .cons (2 * e.kind + 1).toNat [] (.cons 2 (showX e.way) .nil (if e.kind = 2 then (if e.kind = 1 then .nil else itm18 L 5 e.old .nil) else itm18 L 3 e.node (if e.kind = 1 then .nil else itm18 L 5 e.old .nil))) (itsE18 L l)
theorem its_app18 (L : Nat → List UInt8) (l m : List EdD) : itsE18 L (l ++ m) = (itsE18 L l).app (itsE18 L m) := by
 induction l with
 | nil => rfl
 | cons e l ih => simp only [List.cons_append, itsE18, Fo.app, ih]
def dat18 (t : Nat) : Fo → List UInt8
 | .nil => []
 | .cons u d _ r => if u = t then d else dat18 t r
def kid18 (V : List UInt8 → Nat) (k : Fo) : NdD :=
 match dat18 4 k with
 | x :: y :: s => if y = 0 then ⟨dat18 0 k, dat18 2 k, (x.toNat : Int), V s, []⟩ else ⟨dat18 0 k, dat18 2 k, (x.toNat : Int), 0, s⟩
 | _ => ⟨dat18 0 k, dat18 2 k, 0, 0, []⟩
def red18 (V : List UInt8 → Nat) : Fo → NdF
 | .nil => .nil
 | .cons t _ k r => if t = 7 then .cons (kid18 V k) (red18 V k) (red18 V r) else red18 V r
def read18 (V : List UInt8 → Nat) (t : Nat) : Fo → Nd
 | .nil => noN
 | .cons u _ k r => if u = t then (kid18 V k, red18 V k) else read18 V t r
def redE18 (V : List UInt8 → Nat) : Fo → List EdD
 | .nil => []
 | .cons t _ k r => ⟨((t % 256 / 2 : Nat) : Int), (parseX15 (dat18 2 k)).1, read18 V 3 k, read18 V 5 k⟩ :: redE18 V r
theorem dat_itm {L : Nat → List UInt8} {t : Nat} (h : t ≠ 7) : ∀ f : NdF, dat18 t (itmF18 L f) = [] := by
 intro f
 induction f with
 | nil => rfl
 | cons a k r _ ih => simp only [itmF18, dat18]; rw [if_neg (fun e => h e.symm)]; exact ih
theorem dat4_val {L : Nat → List UInt8} (a : NdD) (f : NdF) : dat18 4 (valI18 L a (itmF18 L f)) = if a.kind = 0 then [] else valT18 L a := by
 unfold valI18
 split
 ·exact dat_itm (by decide) f
 ·simp [dat18]
theorem dat2_val {L : Nat → List UInt8} (a : NdD) (f : NdF) : dat18 2 (valI18 L a (itmF18 L f)) = [] := by
 unfold valI18
 split
 ·exact dat_itm (by decide) f
 ·simp only [dat18]; rw [if_neg (by decide)]; exact dat_itm (by decide) f
theorem dat0_in {L : Nat → List UInt8} (a : NdD) (r : Fo) : dat18 0 (inI18 L a r) = a.name := by simp [inI18, dat18]
theorem dat2_in {L : Nat → List UInt8} (a : NdD) (f : NdF) : dat18 2 (inI18 L a (itmF18 L f)) = a.key := by
 unfold inI18 keyI18
 simp only [dat18]
 rw [if_neg (by decide)]
 split
 ·rename_i h; rw [dat2_val, h]
 ·simp [dat18]
theorem dat4_in {L : Nat → List UInt8} (a : NdD) (f : NdF) : dat18 4 (inI18 L a (itmF18 L f)) = if a.kind = 0 then [] else valT18 L a := by
 unfold inI18 keyI18
 simp only [dat18]
 rw [if_neg (by decide)]
 split
 ·exact dat4_val a f
 ·simp only [dat18]; rw [if_neg (by decide)]; exact dat4_val a f
theorem red_in {L : Nat → List UInt8} {V : List UInt8 → Nat} (a : NdD) (r : Fo) : red18 V (inI18 L a r) = red18 V r := by
 unfold inI18 keyI18 valI18
 simp only [red18]
 rw [if_neg (by decide)]
 split <;> split <;> simp [red18]
theorem kid_in {L : Nat → List UInt8} {V : List UInt8 → Nat} (hLV : ∀ n, n < 18446744073709551616 → V (L n) = n) {a : NdD} (f : NdF) (h : ndOk a = true) (hn : a.num < 18446744073709551616) : kid18 V (inI18 L a (itmF18 L f)) = a := by
 obtain ⟨nm, ky, kd, nu, tx⟩ := a
 simp only [ndOk, Bool.and_eq_true, decide_eq_true_eq] at h
 obtain ⟨⟨⟨h1, h2⟩, h3⟩, h4⟩ := h
 simp only at h1 h2 h3 h4 hn
 unfold kid18
 rw [dat4_in, dat0_in, dat2_in]
 simp only
 by_cases hk : kd = 0
 ·subst hk
  simp only [if_pos]
  have hnu : nu = 0 := by by_cases e : nu = 0; exact e; exact absurd ⟨rfl, .inl e⟩ h1
  have htx : tx = [] := by by_cases e : tx = []; exact e; exact absurd ⟨rfl, .inr e⟩ h1
  rw [hnu, htx]
 ·rw [if_neg hk]
  have hx : ((UInt8.ofNat kd.toNat).toNat : Int) = kd := by
   have : kd.toNat < 256 := by omega
   rw [UInt8.toNat_ofNat', Nat.mod_eq_of_lt this]
   omega
  unfold valT18
  simp only
  by_cases ht : tx = []
  ·subst ht
   simp only [if_pos]
   rw [hx, hLV nu hn]
  ·rw [if_neg ht]
   simp only
   have hnu : nu = 0 := by by_cases e : nu = 0; exact e; exact absurd ⟨ht, e⟩ h4
   rw [if_neg (by decide), hx, hnu]
def numF18 : NdF → Prop
 | .nil => True
 | .cons a k r => a.num < 18446744073709551616 ∧ numF18 k ∧ numF18 r
def numN18 (x : Nd) : Prop := x.1.num < 18446744073709551616 ∧ numF18 x.2
theorem red_itm {L : Nat → List UInt8} {V : List UInt8 → Nat} (hLV : ∀ n, n < 18446744073709551616 → V (L n) = n) : ∀ f : NdF, okF18 f = true → numF18 f → red18 V (itmF18 L f) = f := by
 intro f
 induction f with
 | nil => intro _ _; rfl
 | cons a k r ihk ihr =>
  intro h hn
  simp only [okF18, Bool.and_eq_true] at h
  obtain ⟨⟨⟨h1, h2⟩, h3⟩, h4⟩ := h
  obtain ⟨n1, n2, n3⟩ := hn
  simp only [itmF18, red18, if_pos]
  rw [kid_in hLV k h1 n1, red_in, ihk h3 n2, ihr h4 n3]
theorem read_itm {L : Nat → List UInt8} {V : List UInt8 → Nat} (hLV : ∀ n, n < 18446744073709551616 → V (L n) = n) {t : Nat} {x : Nd} {r : Fo} (h : okN18 x = true) (hn : numN18 x) : read18 V t (itm18 L t x r) = x := by
 obtain ⟨a, f⟩ := x
 simp only [okN18, Bool.and_eq_true] at h
 obtain ⟨⟨h1, h2⟩, h3⟩ := h
 unfold itm18
 simp only [read18, if_pos]
 rw [kid_in hLV f h1 hn.1, red_in, red_itm hLV f h3 hn.2]
theorem read_other {L : Nat → List UInt8} {V : List UInt8 → Nat} {t u : Nat} {x : Nd} {r : Fo} (h : u ≠ t) : read18 V t (itm18 L u x r) = read18 V t r := by
 unfold itm18
 simp only [read18]
 rw [if_neg h]
theorem edits_back {L : Nat → List UInt8} {V : List UInt8 → Nat} (hLV : ∀ n, n < 18446744073709551616 → V (L n) = n) : ∀ l : List EdD, (∀ e ∈ l, okE18 e = true ∧ numN18 e.node ∧ numN18 e.old) → redE18 V (itsE18 L l) = l := by
 intro l
 induction l with
 | nil => intro _; rfl
 | cons e l ih =>
  intro h
  obtain ⟨h1, n1, n2⟩ := h e (by simp)
  have ih2 := ih (fun x hx => h x (by simp [hx]))
  obtain ⟨k, w, p, o⟩ := e
  simp only [okE18, Bool.and_eq_true, Bool.or_eq_true, decide_eq_true_eq] at h1
  obtain ⟨⟨⟨⟨⟨⟨hk, hw⟩, hs⟩, hp⟩, ho⟩, kp⟩, ko⟩ := h1
  simp only at hk hw hs hp ho kp ko n1 n2
  simp only [itsE18, redE18]
  rw [ih2]
  have hd : ∀ r : Fo, dat18 2 (.cons 2 (showX w) .nil r) = showX w := fun r => by simp [dat18]
  have hr : ∀ (t : Nat) (r : Fo), t ≠ 2 → read18 V t (.cons 2 (showX w) .nil r) = read18 V t r := fun t r ht => by simp only [read18]; rw [if_neg (fun e => ht e.symm)]
  rw [hd, hr 3 _ (by decide), hr 5 _ (by decide), parse_show hs]
  rcases hk with (rfl | rfl) | rfl
  ·have ho2 : o = noN := by rcases ho with h | h; exact absurd rfl h; exact h
   subst ho2
   simp only [show ¬ (1 : Int) = 2 by decide, if_false, if_true]
   rw [read_itm hLV kp n1, read_other (by decide)]
   rfl
  ·have hp2 : p = noN := by rcases hp with h | h; exact absurd rfl h; exact h
   subst hp2
   simp only [show ¬ (2 : Int) = 1 by decide, if_false, if_true]
   rw [read_other (by decide), read_itm hLV ko n2]
   rfl
  ·simp only [show ¬ (3 : Int) = 1 by decide, show ¬ (3 : Int) = 2 by decide, if_false]
   rw [read_itm hLV kp n1, read_other (by decide), read_itm hLV ko n2]
   rfl
def putX18 (L : Nat → List UInt8) (l : List EdD) : List UInt8 × Nat := if l.all okE18 = true then (if Fo.right 1 (itsE18 L l) = true ∧ (itsE18 L l).all.length ≤ 8192 then ((itsE18 L l).all, 0) else ([], 14)) else ([], 1)
def got18 (s : List UInt8) : Fo × Int × Nat := if 8192 < s.length then (.nil, 14, 0) else gt s.length s 1 0
def getX18 (L : Nat → List UInt8) (V : List UInt8 → Nat) (b : List UInt8) : List EdD × Int :=
 if (got18 b).2.1 ≠ 0 then ([], (got18 b).2.1)
 else if (putX18 L (redE18 V (got18 b).1)).2 ≠ 0 ∨ (putX18 L (redE18 V (got18 b).1)).1 ≠ b then ([], 11)
 else (redE18 V (got18 b).1, 0)
theorem fit_val {L : Nat → List UInt8} {a : NdD} {r : Fo} (h : r.fit) : (valI18 L a r).fit := by
 unfold valI18
 split
 ·exact h
 ·exact ⟨by decide, trivial, h⟩
theorem fit_in {L : Nat → List UInt8} {a : NdD} {r : Fo} (h : r.fit) : (inI18 L a r).fit := by
 unfold inI18 keyI18
 refine ⟨by decide, trivial, ?_⟩
 split
 ·exact fit_val h
 ·exact ⟨by decide, trivial, fit_val h⟩
theorem fit_itm {L : Nat → List UInt8} : ∀ f : NdF, (itmF18 L f).fit := by
 intro f
 induction f with
 | nil => trivial
 | cons a k r ihk ihr => exact ⟨by decide, fit_in ihk, ihr⟩
theorem fit_itm1 {L : Nat → List UInt8} {t : Nat} (ht : t < 18446744073709551616) {x : Nd} {r : Fo} (h : r.fit) : (itm18 L t x r).fit := ⟨ht, fit_in (fit_itm x.2), h⟩
theorem fit_its {L : Nat → List UInt8} : ∀ l : List EdD, l.all okE18 = true → (itsE18 L l).fit := by
 intro l
 induction l with
 | nil => intro _; trivial
 | cons e l ih =>
  intro h
  rw [List.all_cons, Bool.and_eq_true] at h
  obtain ⟨h1, h2⟩ := h
  simp only [okE18, Bool.and_eq_true, Bool.or_eq_true, decide_eq_true_eq] at h1
  obtain ⟨⟨⟨⟨⟨⟨hk, _⟩, _⟩, _⟩, _⟩, _⟩, _⟩ := h1
  simp only [itsE18, Fo.fit]
  refine ⟨by rcases hk with (h | h) | h <;> rw [h] <;> decide, ⟨by decide, trivial, ?_⟩, ih h2⟩
  split
  ·split
   ·trivial
   ·exact fit_itm1 (by decide) trivial
  ·split
   ·exact fit_itm1 (by decide) trivial
   ·exact fit_itm1 (by decide) (fit_itm1 (by decide) trivial)
theorem put_ok {L : Nat → List UInt8} {l : List EdD} {b : List UInt8} : putX18 L l = (b, 0) ↔ l.all okE18 = true ∧ Fo.right 1 (itsE18 L l) = true ∧ (itsE18 L l).all.length ≤ 8192 ∧ b = (itsE18 L l).all := by
 unfold putX18
 split
 ·rename_i h
  split
  ·rename_i h2
   simp only [Prod.mk.injEq, and_true]
   exact ⟨fun e => ⟨h, h2.1, h2.2, e.symm⟩, fun e => e.2.2.2.symm⟩
  ·rename_i h2
   simp only [Prod.mk.injEq]
   exact ⟨fun e => absurd e.2 (by decide), fun e => absurd ⟨e.2.1, e.2.2.1⟩ h2⟩
 ·rename_i h
  simp only [Prod.mk.injEq]
  exact ⟨fun e => absurd e.2 (by decide), fun e => absurd e.1 h⟩
theorem put_get {L : Nat → List UInt8} {V : List UInt8 → Nat} (hLV : ∀ n, n < 18446744073709551616 → V (L n) = n) {l : List EdD} {b : List UInt8} (h : putX18 L l = (b, 0)) (hn : ∀ e ∈ l, numN18 e.node ∧ numN18 e.old) : getX18 L V b = (l, 0) := by
 obtain ⟨h1, h2, h3, h4⟩ := put_ok.1 h
 have hg : got18 b = (itsE18 L l, 0, 0) := by
  unfold got18
  rw [h4, if_neg (by omega)]
  exact gt_all _ _ _ _ (Nat.le_refl _) (by omega) (fit_its l h1) h2
 have hr : redE18 V (itsE18 L l) = l := edits_back hLV l (fun e he => ⟨List.all_eq_true.1 h1 e he, hn e he⟩)
 unfold getX18
 rw [hg]
 simp only [ne_eq, not_true_eq_false, if_false]
 rw [hr, h]
 simp
theorem txt_get (l : List UInt8) (k : Nat) (h : k < l.length) (h' : k < (txt l).size) : (txt l)[k]'h' = l[k]'h := by
 show (txt l).data[k]'h' = l[k]
 simp [txt]
 rfl
theorem valB_zero_cons {b : UInt8} (l : List UInt8) (h : b.toNat = 0) : valB (b :: l) = valB l := by rw [valB_cons, h]; omega
theorem gt_own (n : Nat) : ∀ (s : List UInt8) (deep at_ : Nat), s.length ≤ n → s.length < 18446744073709551616 → (gt n s deep at_).2.1 = 0 →
  (gt n s deep at_).1.all = s ∧ Fo.right deep (gt n s deep at_).1 = true ∧ (gt n s deep at_).1.fit ∧ (gt n s deep at_).2.2 = 0 := by
 induction n with
 | zero =>
  intro s deep at_ hn _ _
  have hs : s = [] := List.eq_nil_of_length_eq_zero (by omega)
  subst hs
  exact ⟨rfl, rfl, trivial, rfl⟩
 | succ n ih =>
  intro s deep at_ hn h64 h
  by_cases hs : s = []
  ·subst hs; rw [gt_nil]; exact ⟨rfl, rfl, trivial, rfl⟩
  ·obtain ⟨t, a, e, h1⟩ : ∃ t a e, getV s = (t, a, e) := ⟨_, _, _, rfl⟩
   obtain ⟨long, b, f, h2⟩ : ∃ t b e, getV (s.drop a) = (t, b, e) := ⟨_, _, _, rfl⟩
   rw [gt_step hs h1 h2] at h ⊢
   by_cases c1 : e ≠ 0
   ·rw [if_pos c1] at h; exact absurd h c1
   rw [if_neg c1] at h ⊢
   have o1 := getV_own s (by rw [h1]; exact Decidable.not_not.1 c1)
   rw [h1] at o1
   obtain ⟨a1, a2, -, t64, ht⟩ := o1
   dsimp only at a1 a2 t64 ht
   by_cases c2 : f ≠ 0
   ·rw [if_pos c2] at h; exact absurd h c2
   rw [if_neg c2] at h ⊢
   have o2 := getV_own (s.drop a) (by rw [h2]; exact Decidable.not_not.1 c2)
   rw [h2] at o2
   obtain ⟨b1, b2, -, l64, hl⟩ := o2
   dsimp only at b1 b2 l64 hl
   rw [List.length_drop] at b2
   by_cases c3 : s.length - a - b < long
   ·rw [if_pos c3] at h; exact absurd (show (10 : Int) = 0 from h) (by decide)
   rw [if_neg c3] at h ⊢
   by_cases c4 : 6 < deep
   ·rw [if_pos c4] at h; exact absurd (show (13 : Int) = 0 from h) (by decide)
   rw [if_neg c4] at h ⊢
   obtain ⟨hk0, hr0, hfin⟩ := fin_ok h
   rw [hfin]
   obtain ⟨r1, r2, r3, -⟩ := ih (s.drop (a + b + long)) deep (at_ + (a + b + long)) (by rw [List.length_drop]; omega) (by rw [List.length_drop]; omega) hr0
   have hcl : ((s.drop (a + b)).take long).length = long := by rw [List.length_take, List.length_drop]; omega
   have hsplit : encV 9 t ++ (encV 9 long ++ ((s.drop (a + b)).take long ++ s.drop (a + b + long))) = s := by
    have e3 : (s.drop (a + b)).take long ++ s.drop (a + b + long) = s.drop (a + b) := by
     have h := List.take_append_drop long (s.drop (a + b))
     rw [List.drop_drop] at h
     exact h
    have e4 : encV 9 long ++ s.drop (a + b) = s.drop a := by
     have h := List.take_append_drop b (s.drop a)
     rw [List.drop_drop] at h
     rw [hl]
     exact h
    rw [e3, e4, ht, List.take_append_drop]
   by_cases c5 : t % 2 = 0
   ·have hin : Fo.inn t ((s.drop (a + b)).take long) Fo.nil.all = (s.drop (a + b)).take long := by unfold Fo.inn; rw [if_neg (by omega)]
    simp only [if_pos c5]
    refine ⟨?_, ?_, ⟨t64, trivial, r3⟩, trivial⟩
    ·show encV 9 t ++ (encV 9 (Fo.inn t ((s.drop (a + b)).take long) Fo.nil.all).length ++ (Fo.inn t ((s.drop (a + b)).take long) Fo.nil.all ++ _)) = s
     rw [hin, r1, hcl]; exact hsplit
    ·simp only [Fo.right, Bool.and_eq_true, decide_eq_true_eq]
     refine ⟨⟨⟨by omega, ?_⟩, trivial⟩, r2⟩
     rw [if_neg (by omega)]; rfl
   ·rw [if_neg c5] at hk0
    obtain ⟨k1, k2, k3, -⟩ := ih ((s.drop (a + b)).take long) (deep + 1) (at_ + a + b) (by omega) (by omega) hk0
    simp only [if_neg c5]
    have hin : Fo.inn t [] ((gt n ((s.drop (a + b)).take long) (deep + 1) (at_ + a + b)).1).all = (s.drop (a + b)).take long := by unfold Fo.inn; rw [if_pos (by omega), k1]
    refine ⟨?_, ?_, ⟨t64, k3, r3⟩, trivial⟩
    ·show encV 9 t ++ (encV 9 (Fo.inn t [] _).length ++ (Fo.inn t [] _ ++ _)) = s
     rw [hin, r1, hcl]; exact hsplit
    ·simp only [Fo.right, Bool.and_eq_true, decide_eq_true_eq]
     refine ⟨⟨⟨by omega, ?_⟩, k2⟩, r2⟩
     rw [if_pos (by omega)]; rfl
namespace Fo
def drop : Nat → Fo → Fo
 | 0, f => f
 | _ + 1, nil => nil
 | n + 1, cons _ _ _ r => drop n r
def take : Nat → Fo → Fo
 | 0, _ => nil
 | _ + 1, nil => nil
 | n + 1, cons t d k r => cons t d k (take n r)
theorem take_app_drop (n : Nat) : ∀ f : Fo, (take n f).app (drop n f) = f := by
 induction n with
 | zero => intro f; rfl
 | succ n ih =>
  intro f
  cases f with
  | nil => rfl
  | cons t d k r => simp only [take, drop, app, ih]
theorem take_all (f : Fo) : take f.len f = f := by
 induction f with
 | nil => rfl
 | cons t d k r _ ih => simp only [len, take, ih]
theorem len_drop (n : Nat) : ∀ f : Fo, (drop n f).len = f.len - n := by
 induction n with
 | zero => intro f; rfl
 | succ n ih =>
  intro f
  cases f with
  | nil => simp [drop, len]
  | cons t d k r => simp only [drop, len, ih]; omega
theorem len_take (n : Nat) : ∀ f : Fo, n ≤ f.len → (take n f).len = n := by
 induction n with
 | zero => intro f _; rfl
 | succ n ih =>
  intro f h
  cases f with
  | nil => simp [len] at h
  | cons t d k r => simp only [take, len]; rw [ih r (by simp only [len] at h; omega)]
theorem drop_cons {n : Nat} : ∀ {f : Fo}, n < f.len → ∃ t d k, drop n f = cons t d k (drop (n + 1) f) ∧ take (n + 1) f = (take n f).app (cons t d k nil) := by
 induction n with
 | zero =>
  intro f h
  cases f with
  | nil => simp [len] at h
  | cons t d k r => exact ⟨t, d, k, rfl, rfl⟩
 | succ n ih =>
  intro f h
  cases f with
  | nil => simp [len] at h
  | cons t d k r =>
   obtain ⟨t', d', k', h1, h2⟩ := ih (f := r) (by simp only [len] at h; omega)
   refine ⟨t', d', k', h1, ?_⟩
   show cons t d k (take (n + 1) r) = cons t d k ((take n r).app _)
   rw [h2]
def kidsAll (P : Fo → Prop) : Fo → Prop
 | nil => True
 | cons _ _ k r => P k ∧ kidsAll P r
theorem kidsAll_drop {P : Fo → Prop} (n : Nat) : ∀ {f : Fo}, kidsAll P f → kidsAll P (drop n f) := by
 induction n with
 | zero => intro f h; exact h
 | succ n ih =>
  intro f h
  cases f with
  | nil => exact h
  | cons t d k r => exact ih h.2
theorem byKids {P : Fo → Prop} (h : ∀ f, kidsAll P f → P f) (f : Fo) : P f := by
 have both : ∀ f, P f ∧ kidsAll P f := by
  intro f
  induction f with
  | nil => exact ⟨h _ trivial, trivial⟩
  | cons t d k r ihk ihr => exact ⟨h _ ⟨ihk.1, ihr.2⟩, ⟨ihk.1, ihr.2⟩⟩
 exact (both f).1
end Fo
def FAt (D : World → (Nat → Prop) → Value → List UInt8 → Prop) (w : World) (S : Nat → Prop) : Fo → Nat → Nat → Prop
 | .nil, _, _ => True
 | .cons t d k r, b, o => w.cell? ⟨b, o, none⟩ = some (.int .u64 (t : Int)) ∧ t < 18446744073709551616 ∧ (∃ v, w.cell? ⟨b, o + 1, none⟩ = some v ∧ D w S v d) ∧
   (∃ A c, w.cell? ⟨b, o + 2, none⟩ = some (.slice A k.len c) ∧ k.len ≤ c ∧ (0 < k.len → ∃ b' o', A = some ⟨b', o', none⟩ ∧ S b' ∧ FAt D w S k b' o')) ∧ FAt D w S r b (o + 3)
def FV (D : World → (Nat → Prop) → Value → List UInt8 → Prop) (w : World) (S : Nat → Prop) (v : Value) (f : Fo) : Prop :=
 ∃ A c, v = .slice A f.len c ∧ f.len ≤ c ∧ (0 < f.len → ∃ b o, A = some ⟨b, o, none⟩ ∧ S b ∧ FAt D w S f b o)
def DataI (w : World) (S : Nat → Prop) (v : Value) (d : List UInt8) : Prop := ∃ db, Rd w db v d ∧ (0 < d.length → S db)
def DataR (_ : World) (_ : Nat → Prop) (v : Value) (d : List UInt8) : Prop := v = .string (txt d)
def Stays (D : World → (Nat → Prop) → Value → List UInt8 → Prop) : Prop :=
 ∀ (w w' : World) (S S' : Nat → Prop) v d, (∀ g, S g → w'.heap[g]? = w.heap[g]?) → (∀ g, S g → S' g) → D w S v d → D w' S' v d
theorem stays_I : Stays DataI := fun w w' S S' v d hk hS ⟨db, hr, hs⟩ => by
 by_cases h0 : 0 < d.length
 ·exact ⟨db, hr.heap (hk db (hs h0)), fun h => hS _ (hs h)⟩
 ·have hd : d = [] := List.eq_nil_of_length_eq_zero (by omega)
  subst hd
  obtain ⟨A, c, rfl, h1, h2, _⟩ := hr
  exact ⟨db, ⟨A, c, rfl, h1, h2, fun h => absurd h (by simp)⟩, fun h => absurd h (by simp)⟩
theorem stays_R : Stays DataR := fun _ _ _ _ _ _ _ _ h => h
section
variable {D : World → (Nat → Prop) → Value → List UInt8 → Prop} {w w' : World} {S S' : Nat → Prop}
theorem FAt.kept (hD : Stays D) (hk : ∀ g, S g → w'.heap[g]? = w.heap[g]?) (hS : ∀ g, S g → S' g) : ∀ {f : Fo} {b o : Nat}, S b → FAt D w S f b o → FAt D w' S' f b o := by
 intro f
 induction f with
 | nil => intro b o _ _; trivial
 | cons t d k r ihk ihr =>
  intro b o hb ⟨h1, ht, ⟨v, h2, h3⟩, ⟨A, c, h4, h5, h6⟩, h7⟩
  have hc : ∀ i, w'.cell? ⟨b, i, none⟩ = w.cell? ⟨b, i, none⟩ := fun i => World.cell?_of_block (w := w) (hk b hb)
  refine ⟨(hc _).trans h1, ht, ⟨v, (hc _).trans h2, hD _ _ _ _ _ _ hk hS h3⟩, ⟨A, c, (hc _).trans h4, h5, fun h0 => ?_⟩, ihr hb h7⟩
  obtain ⟨b', o', h8, h9, h10⟩ := h6 h0
  exact ⟨b', o', h8, hS _ h9, ihk h9 h10⟩
theorem FV.kept {v : Value} {f : Fo} (hD : Stays D) (h : FV D w S v f) (hk : ∀ g, S g → w'.heap[g]? = w.heap[g]?) (hS : ∀ g, S g → S' g) : FV D w' S' v f := by
 obtain ⟨A, c, rfl, h1, h2⟩ := h
 refine ⟨A, c, rfl, h1, fun h0 => ?_⟩
 obtain ⟨b, o, h3, h4, h5⟩ := h2 h0
 exact ⟨b, o, h3, hS _ h4, h5.kept hD hk hS h4⟩
theorem FV.nil (w : World) (S : Nat → Prop) : FV D w S (.slice none 0 0) .nil := ⟨none, 0, rfl, Nat.le_refl _, fun h => absurd h (by simp [Fo.len])⟩
theorem FAt.drop (n : Nat) : ∀ {f : Fo} {b o : Nat}, FAt D w S f b o → FAt D w S (Fo.drop n f) b (o + n * 3) := by
 induction n with
 | zero => intro f b o h; simpa [Fo.drop] using h
 | succ n ih =>
  intro f b o h
  cases f with
  | nil => trivial
  | cons t d k r =>
   have h7 := ih h.2.2.2.2
   have e : o + 3 + n * 3 = o + (n + 1) * 3 := by omega
   rw [e] at h7
   exact h7
theorem FV.at {v : Value} {f : Fo} (h : FV D w S v f) {n : Nat} (hn : n < f.len) :
  ∃ b o c t d k, v = .slice (some ⟨b, o, none⟩) f.len c ∧ f.len ≤ c ∧ S b ∧ Fo.drop n f = .cons t d k (Fo.drop (n + 1) f) ∧ Fo.take (n + 1) f = (Fo.take n f).app (.cons t d k .nil) ∧ t < 18446744073709551616 ∧
   w.cell? ⟨b, o + n * 3, none⟩ = some (.int .u64 (t : Int)) ∧ (∃ dv, w.cell? ⟨b, o + n * 3 + 1, none⟩ = some dv ∧ D w S dv d) ∧ (∃ kv, w.cell? ⟨b, o + n * 3 + 2, none⟩ = some kv ∧ FV D w S kv k) := by
 obtain ⟨A, c, rfl, h1, h2⟩ := h
 obtain ⟨b, o, rfl, h3, h4⟩ := h2 (by omega)
 obtain ⟨t, d, k, h5, h6⟩ := Fo.drop_cons hn
 have h7 := h4.drop n
 rw [h5] at h7
 obtain ⟨g1, gt, ⟨dv, g2, g3⟩, ⟨A', c', g4, g5, g6⟩, _⟩ := h7
 exact ⟨b, o, c, t, d, k, rfl, h1, h3, h5, h6, gt, g1, ⟨dv, g2, g3⟩, ⟨_, g4, A', c', rfl, g5, g6⟩⟩
theorem FV.shape {v : Value} {f : Fo} (h : FV D w S v f) : ∃ A c, v = .slice A f.len c := by
 obtain ⟨A, c, e, _⟩ := h
 exact ⟨A, c, e⟩
end
theorem held_more {P : Program} {md : Region.Mode} {ops : Array Oper} {Q : Exit → Act → World → Prop} {S S' : World → Prop} (h : ∀ w, S' w → S w) :
  ∀ (fuel : Nat) (listed : Array Bool) (a : Act) (w : World), wpAnyH P md ops Q S' fuel listed a w → wpAnyH P md ops Q S fuel listed a w
 | 0, _, _, _, hw => hw
 | fuel + 1, _, _, _, hw => ⟨hw.1, fun i hi => wpOp_mono (fun _ _ hq => ⟨h _ hq.1, held_more h fuel _ _ _ hq.2⟩) (hw.2 i hi)⟩
def PanicAt (R : List PanicEntry → World → Prop) (Q : Exit → Act → World → Prop) : Exit → Act → World → Prop
 | .panic c, a, w => a.defers = [] ∧ R c w
 | e, a, w => Q e a w
theorem panic_put {R : List PanicEntry → World → Prop} {Q : Exit → Act → World → Prop} {c : List PanicEntry} {a : Act} {d : Option Nat} {v : Value} {w : World} (h : PanicAt R Q (.panic c) (a.put d v) w) : PanicAt R Q (.panic c) a w := by
 cases d with
 | none => exact h
 | some n => exact h
theorem wp_region_panicAt {P : Program} {id : Nat} {ops : Array Oper} {b : Bool} {Q : Exit → Act → World → Prop} {a : Act} {w : World} (R : List PanicEntry → World → Prop) (hR : ∀ c a w, a.defers = [] → R c w → Q (.panic c) a w)
  (h : (Code.region id ops b).wp P (PanicAt R Q) a w) : (Code.region id ops b).wp P Q a w :=
 Code.wp_mono (fun e a w hq => by cases e <;> first | exact hq | exact hR _ _ _ hq.1 hq.2) h
theorem tkH {P : Program} {ops : Array Oper} {Q : Exit → Act → World → Prop} {md : Region.Mode} {S : World → Prop} (i : Nat) {oi : Oper} {v : Value} {fuel : Nat} {listed : Array Bool} {a a' : Act} {w : World} (hS : S w) (h : wpAnyH P md ops Q S fuel (listed.setIfInBounds i true) a' w)
 (hi : ops[i]? = some oi := by (simp only [layG]; rfl)) (h1 : Region.noSelect ops = true := by kernel_rfl) (h2 : Region.free md ops listed i = true := by kernel_rfl) (h3 : (Region.ready md ops listed).contains i = true := by kernel_rfl)
 (hw : Region.wanted oi (yielded ops a.tmps) = true := by rfl) (hy : ∀ w, S w → (execOp a.eval oi).run P w = .ok (.value v) w := by (intro w hSw; (go_simp <;> with_reducible rfl)))
 (ha : a.put oi.dst v = a' := by (first | (simp only [Act.put, layS]; rfl) | rfl)) (hQ : ∀ c a w, Q (.panic c) (a.put oi.dst v) w → Q (.panic c) a w := by exact fun _ _ _ h => h) : wpAnyH P md ops Q S (fuel + 1) listed a w := by
 subst ha; exact wpAnyH_take hi h1 h2 h3 hQ (Or.inl ⟨hw, hy⟩) hS h
theorem tkHo {P : Program} {ops : Array Oper} {Q : Exit → Act → World → Prop} {md : Region.Mode} {S : World → Prop} (i : Nat) {oi : Oper} {fuel : Nat} {listed : Array Bool} {a a' : Act} {w : World} (hS : S w) (h : wpAnyH P md ops Q S fuel (listed.setIfInBounds i true) a' w)
 (hi : ops[i]? = some oi := by (simp only [layG]; rfl)) (h1 : Region.noSelect ops = true := by kernel_rfl) (h2 : Region.free md ops listed i = true := by kernel_rfl) (h3 : (Region.ready md ops listed).contains i = true := by kernel_rfl)
 (hw : Region.wanted oi (yielded ops a.tmps) = false := by rfl) (ha : a.put oi.dst undef = a' := by (first | (simp only [Act.put, layS]; rfl) | rfl)) (hQ : ∀ c a w, Q (.panic c) (a.put oi.dst undef) w → Q (.panic c) a w := by exact fun _ _ _ h => h) : wpAnyH P md ops Q S (fuel + 1) listed a w := by
 subst ha; exact wpAnyH_take hi h1 h2 h3 hQ (Or.inr ⟨hw, rfl⟩) hS h
theorem rdC {P : Program} {ops : Array Oper} {Q : Exit → Act → World → Prop} {md : Region.Mode} {S : World → Prop} {fuel : Nat} {listed : Array Bool} {a : Act} {w : World} {i : Nat} {o : Oper} {rs : List Nat} (h : ∀ K' : Act → World → Prop, Shut (∀ a w, S w → (S w → wpAnyH P md ops Q S fuel (listed.setIfInBounds i true) a w) → K' a w) → Oper.wp P o a w K' Q) (hs : AllReadyH P md ops Q S fuel listed a w rs)
 (ho : ops[i]? = some o := by (simp only [layG]; rfl)) (hw : Region.wanted o (yielded ops a.tmps) = true := by rfl) : AllReadyH P md ops Q S fuel listed a w (i :: rs) := .cons ho (fun K hK => by rw [if_pos hw]; exact h K hK) hs
theorem rdy {P : Program} {ops : Array Oper} {Q : Exit → Act → World → Prop} {md : Region.Mode} {S : World → Prop} {fuel : Nat} {listed : Array Bool} {a : Act} {w : World} (rs : List Nat) (h : AllReadyH P md ops Q S fuel listed a w rs) (hr : Region.ready md ops listed = rs := by kernel_rfl) (hne : rs ≠ [] := by simp) : wpAnyH P md ops Q S (fuel + 1) listed a w := wpAnyH_ready hr hne h
theorem rdy1 {P : Program} {ops : Array Oper} {Q : Exit → Act → World → Prop} {md : Region.Mode} {S : World → Prop} {fuel : Nat} {listed : Array Bool} {a : Act} {w : World} (i : Nat) {o : Oper} (h : ∀ K' : Act → World → Prop, Shut (∀ a w, S w → (S w → wpAnyH P md ops Q S fuel (listed.setIfInBounds i true) a w) → K' a w) → Oper.wp P o a w K' Q)
 (hr : Region.ready md ops listed = [i] := by kernel_rfl) (ho : ops[i]? = some o := by (simp only [layG]; rfl)) (hw : Region.wanted o (yielded ops a.tmps) = true := by rfl) : wpAnyH P md ops Q S (fuel + 1) listed a w := wpAnyH_ready hr (by simp) (rdC h .nil ho hw)
section
attribute [local go_sem ↓] Go.wp_at_zero Go.wp_at_succ
def Lo (w : World) (g : Nat) : Prop := g < w.heap.size
theorem FV.below {D : World → (Nat → Prop) → Value → List UInt8 → Prop} {w w' : World} {v : Value} {f : Fo} (hD : Stays D) (h : FV D w (Lo w) v f) (hb : Below w.heap.size w w') : FV D w' (Lo w') v f :=
 h.kept hD (fun g hg => hb.block g hg) (fun _ hg => Nat.lt_of_lt_of_le hg hb.size)
namespace Fo
end Fo
theorem hundred (m : Nat) (n k : Nat) (hm : m ≤ 1099511627776) (hn : n ≤ 1099511627776) (hk : k ≤ 1099511627776) :
  IntKind.i64.wrap ((n : Int) + IntKind.i64.wrap ((k : Int) + IntKind.i64.wrap ((m : Int) / 100))) = ((n + (m / 100 + k) : Nat) : Int) := by
 have ht : (m : Int) / 100 = ((m / 100 : Nat) : Int) := by omega
 rw [ht, IntKind.wrap_i64, IntKind.wrap_i64, IntKind.wrap_i64]
 omega
end
def rowOf (D : World → (Nat → Prop) → Value → List UInt8 → Prop) (w : World) (S : Nat → Prop) : List Value → Fo → Prop
 | [], .nil => True
 | a :: b :: c :: xs, .cons t d k r => a = .int .u64 (t : Int) ∧ t < 18446744073709551616 ∧ D w S b d ∧ FV D w S c k ∧ rowOf D w S xs r
 | _, _ => False
section
variable {D : World → (Nat → Prop) → Value → List UInt8 → Prop} {w w' : World} {S S' : Nat → Prop}
theorem rowOf.nil_ {xs : List Value} (h : rowOf D w S xs .nil) : xs = [] := by
 match xs, h with
 | [], _ => rfl
 | [_], h => exact h.elim
 | [_, _], h => exact h.elim
 | _ :: _ :: _ :: _, h => exact h.elim
theorem rowOf.cons_ {xs : List Value} {t : Nat} {d : List UInt8} {k r : Fo} (h : rowOf D w S xs (.cons t d k r)) :
  ∃ a b c ys, xs = a :: b :: c :: ys ∧ a = .int .u64 (t : Int) ∧ t < 18446744073709551616 ∧ D w S b d ∧ FV D w S c k ∧ rowOf D w S ys r := by
 match xs, h with
 | [], h => exact h.elim
 | [_], h => exact h.elim
 | [_, _], h => exact h.elim
 | a :: b :: c :: ys, h => exact ⟨a, b, c, ys, rfl, h⟩
theorem rowOf.kept (hD : Stays D) (hk : ∀ g, S g → w'.heap[g]? = w.heap[g]?) (hS : ∀ g, S g → S' g) : ∀ {f : Fo} {xs : List Value}, rowOf D w S xs f → rowOf D w' S' xs f := by
 intro f
 induction f with
 | nil =>
  intro xs h
  obtain rfl := h.nil_
  trivial
 | cons t d k r _ ih =>
  intro xs h
  obtain ⟨a, b, c, ys, rfl, h1, h2, h3, h4, h5⟩ := h.cons_
  exact ⟨h1, h2, hD _ _ _ _ _ _ hk hS h3, h4.kept hD hk hS, ih h5⟩
theorem rowOf.snoc {t : Nat} {d : List UInt8} {k : Fo} {a b c : Value} (h1 : a = .int .u64 (t : Int)) (h2 : t < 18446744073709551616) (h3 : D w S b d) (h4 : FV D w S c k) :
  ∀ {f : Fo} {xs : List Value}, rowOf D w S xs f → rowOf D w S (xs ++ [a, b, c]) (f.app (.cons t d k .nil)) := by
 intro f
 induction f with
 | nil =>
  intro xs h
  obtain rfl := h.nil_
  exact ⟨h1, h2, h3, h4, trivial⟩
 | cons t' d' k' r _ ih =>
  intro xs h
  obtain ⟨a', b', c', ys, rfl, g1, g2, g3, g4, g5⟩ := h.cons_
  exact ⟨g1, g2, g3, g4, ih g5⟩
theorem rowOf.at {b : Nat} : ∀ {f : Fo} {xs : List Value} {o : Nat}, rowOf D w S xs f → (∀ j u, xs[j]? = some u → w.cell? ⟨b, o + j, none⟩ = some u) → FAt D w S f b o := by
 intro f
 induction f with
 | nil => intro xs o _ _; trivial
 | cons t d k r _ ih =>
  intro xs o h hc
  obtain ⟨x0, x1, x2, ys, rfl, g1, g2, g3, ⟨A, c, hx2, g4, g5⟩, g6⟩ := h.cons_
  refine ⟨by rw [← g1]; exact hc 0 _ rfl, g2, ⟨x1, hc 1 _ rfl, g3⟩, ⟨A, c, by rw [← hx2]; exact hc 2 _ rfl, g4, g5⟩, ih g6 (fun j u hj => ?_)⟩
  have h := hc (j + 3) u (by simpa using hj)
  rwa [show o + (j + 3) = o + 3 + j by omega] at h
end
def ItsI (base : Nat) (w : World) (v : Value) (g : Nat) : Prop := base ≤ g ∧ g < w.heap.size ∧ some g ≠ v.ownBlock
def MineI (base : Nat) (w : World) (g : Nat) : Prop := base ≤ g ∧ g < w.heap.size
def OwnF (D : World → (Nat → Prop) → Value → List UInt8 → Prop) (e : TypeId) (w : World) (base : Nat) (v : Value) (f : Fo) : Prop :=
 ∃ xs, w.ownsRow base e 3 v f.len xs ∧ rowOf D w (ItsI base w v) xs f
section
variable {D : World → (Nat → Prop) → Value → List UInt8 → Prop} {e : TypeId} {w w' : World} {base : Nat} {v : Value} {f : Fo}
theorem OwnF.nil (w : World) (base : Nat) : OwnF D e w base (.slice none 0 0) .nil := ⟨[], World.ownsRow_nil w base e 3, trivial⟩
theorem OwnF.below (hD : Stays D) (h : OwnF D e w base v f) (hb : Below w.heap.size w w') : OwnF D e w' base v f := by
 obtain ⟨xs, h1, h2⟩ := h
 exact ⟨xs, World.ownsRow.kept h1 ⟨hb.os, hb.tape, hb.output, hb.size, fun k hk _ => hb.block k hk⟩ (row := none) (by cases hv : v.ownBlock <;> simp),
  h2.kept hD (fun g hg => hb.block g hg.2.1) (fun g hg => ⟨hg.1, Nat.lt_of_lt_of_le hg.2.1 hb.size, hg.2.2⟩)⟩
theorem OwnF.lt (h : OwnF D e w base v f) : ∀ k, v.ownBlock = some k → base ≤ k ∧ k < w.heap.size := by
 obtain ⟨xs, h1, _⟩ := h
 exact fun k hk => World.ownsRow.lt h1 k hk
theorem OwnF.fv (hD : Stays D) (h : OwnF D e w base v f) : FV D w (MineI base w) v f := by
 obtain ⟨xs, h1, h2⟩ := h
 have h2' : rowOf D w (MineI base w) xs f := h2.kept hD (fun _ _ => rfl) (fun g hg => ⟨hg.1, hg.2.1⟩)
 have hlt := fun k hk => World.ownsRow.lt h1 k hk
 have hh := h1
 rcases h1.2 with ⟨rfl, h0⟩ | ⟨g, cap, cur, rfl, hb, hg, hnc, hcm, hcs, ht⟩
 ·exact ⟨none, 0, by rw [h0], by omega, fun h => absurd h (by omega)⟩
 ·refine ⟨_, cap, rfl, hnc, fun h0 => ⟨g, 0, rfl, hlt g rfl, h2'.at (fun j u hj => ?_)⟩⟩
  have hjl : j < xs.length := (List.getElem?_eq_some_iff.1 hj).1
  have hxl : xs.length = f.len * 3 := h1.1
  rw [World.ownsRow.cellAt hh (0 + j) (by omega), Nat.zero_add, hj]
end
def AppF (D : World → (Nat → Prop) → Value → List UInt8 → Prop) (e : TypeId) (w : World) (base : Nat) (v : Value) (f : Fo) (v' : Value) (w' : World) : Prop :=
 OwnF D e w' base v' f ∧ w.grownBy w' v.ownBlock ∧ (v'.ownBlock = v.ownBlock ∨ v'.ownBlock = some w.heap.size) ∧ ∃ g c, v' = .slice (some ⟨g, 0, none⟩) f.len c
theorem AppF.below {D : World → (Nat → Prop) → Value → List UInt8 → Prop} {e : TypeId} {w w' : World} {base : Nat} {v v' : Value} {f f0 : Fo} (h : AppF D e w base v f v' w') (hown : OwnF D e w base v f0) (hb : base ≤ w.heap.size) : Below base w w' :=
 (Below.refl _ _).grown h.2.1 hb fun k e => (hown.lt k e).1
theorem run_append_it {P : Program} {D : World → (Nat → Prop) → Value → List UInt8 → Prop} (hD : Stays D) (hone : ∀ w S v d, D w S v d → v.oneCell' = true) {ts e : TypeId} {z : Value} {bytes : Nat} (hu : P.underlying ts = some (.slice e))
  (hinfo : (P.info? e).map (fun i => (i.zero, i.size, i.bytes)) = some (some z, 3, bytes)) (hz : z.cells.size = 3) (w : World) (base : Nat) (v : Value) (f : Fo) (hown : OwnF D e w base v f)
  (g : Nat) (t : Nat) (d : List UInt8) (k : Fo) (bv cv : Value) (hblk : Blk w g e #[.int .u64 (t : Int), bv, cv]) (ht : t < 18446744073709551616) (hd : D w (ItsI base w v) bv d) (hk : FV D w (ItsI base w v) cv k)
  (hb : (f.len + 1) * bytes ≤ 140737488355328) (hlen : f.len + 1 ≤ 140737488355328) (hbase : base ≤ w.heap.size) :
  ∃ v' w', (Builtin.append_ #[ts, ts] ts #[v, .slice (some ⟨g, 0, none⟩) 1 1]).run P w = .ok v' w' ∧ AppF D e w base v (f.app (.cons t d k .nil)) v' w' := by
 obtain ⟨i, hi, hz0, hz1, hz2⟩ := info_parts hinfo
 obtain ⟨xs, h1, h2⟩ := hown
 have hlt := fun k hk => World.ownsRow.lt h1 k hk
 have hcv : cv.oneCell' = true := by obtain ⟨A, c, rfl, _⟩ := hk; rfl
 obtain ⟨v', w', hrun, k1, k2, _, k3⟩ := run_append_own_at (P := P) (w := w) base ts ts e i z 3 bytes hu hi hz0 hz1 hz2 hz (by decide) v f.len xs h1
  ⟨g, 0, none⟩ 1 1 [.int .u64 (t : Int), bv, cv] rfl (fun j u hj => by
   have e1 : (⟨g, 0, none⟩ : Addr).add j = ⟨g, j, none⟩ := by unfold Addr.add; split <;> simp_all
   rw [e1, hblk.cell]
   simpa using hj) (by
   intro u hu
   simp only [List.mem_cons, List.not_mem_nil, or_false] at hu
   rcases hu with rfl | rfl | rfl
   ·rfl
   ·exact hone _ _ _ _ hd
   ·exact hcv) (by unfold maxLen; omega) hb hbase
 have hlen' : (f.app (.cons t d k .nil)).len = f.len + 1 := by rw [Fo.len_app]; rfl
 refine ⟨v', w', hrun, ⟨xs ++ [.int .u64 (t : Int), bv, cv], by rw [hlen']; exact k1, ?_⟩, k2, k3, ?_⟩
 ·have h3 := rowOf.snoc (D := D) (w := w) rfl ht hd hk h2
  refine h3.kept hD (fun g' hg' => k2.block g' hg'.2.1 hg'.2.2) (fun g' hg' => ⟨hg'.1, Nat.lt_of_lt_of_le hg'.2.1 k2.size, ?_⟩)
  rcases k3 with h | h
  ·rw [h]; exact hg'.2.2
  ·rw [h]; intro h'; injection h' with h'; have := hg'.2.1; omega
 ·rw [hlen']
  rcases k1.2 with ⟨_, h0⟩ | ⟨g', cap, _, rfl, _⟩
  ·omega
  ·exact ⟨g', cap, rfl⟩
theorem wp_append_it {P : Program} {D : World → (Nat → Prop) → Value → List UInt8 → Prop} (hD : Stays D) (hone : ∀ w S v d, D w S v d → v.oneCell' = true) {ts e : TypeId} {z : Value} {bytes : Nat} (hu : P.underlying ts = some (.slice e))
  (hinfo : (P.info? e).map (fun i => (i.zero, i.size, i.bytes)) = some (some z, 3, bytes)) (hz : z.cells.size = 3) {w : World} {o : Oper} {a : Act} {K : Act → World → Prop} {Q : Exit → Act → World → Prop} (s x : Operand)
  (ho : o.op = .call { callee := .builtin .append, args := #[s, x], argTypes := #[ts, ts] }) (hty : o.type = ts)
  (base : Nat) (v : Value) (f : Fo) (hs : a.eval s = v) (hown : OwnF D e w base v f) (g : Nat) (hx : a.eval x = .slice (some ⟨g, 0, none⟩) 1 1)
  (t : Nat) (d : List UInt8) (k : Fo) (bv cv : Value) (hblk : Blk w g e #[.int .u64 (t : Int), bv, cv]) (ht : t < 18446744073709551616) (hd : D w (ItsI base w v) bv d) (hk : FV D w (ItsI base w v) cv k)
  (hb : (f.len + 1) * bytes ≤ 140737488355328) (hlen : f.len + 1 ≤ 140737488355328) (hbase : base ≤ w.heap.size)
  (hK : ∀ v' w', AppF D e w base v (f.app (.cons t d k .nil)) v' w' → K (a.put o.dst v') w') : o.wp P a w K Q := by
 obtain ⟨v', w', hrun, h2⟩ := run_append_it hD hone hu hinfo hz w base v f hown g t d k bv cv hblk ht hd hk hb hlen hbase
 unfold Oper.wp execOp
 simp only [ho, hty, resolve, invoke, builtin, Sem.run_bind, Sem.run_pure, Result.andThen_ok, List.map_toArray, List.map_cons, List.map_nil, hs, hx, hrun]
 exact hK v' w' h2
theorem wpList_append_it {P : Program} {D : World → (Nat → Prop) → Value → List UInt8 → Prop} (hD : Stays D) (hone : ∀ w S v d, D w S v d → v.oneCell' = true) {ts e : TypeId} {z : Value} {bytes : Nat} (hu : P.underlying ts = some (.slice e))
  (hinfo : (P.info? e).map (fun i => (i.zero, i.size, i.bytes)) = some (some z, 3, bytes)) (hz : z.cells.size = 3) {w : World} {ops : Array Oper} {rest : List Oper} {o : Oper} {a : Act} {Q : Exit → Act → World → Prop} (hgd : o.guard = none) (s x : Operand)
  (ho : o.op = .call { callee := .builtin .append, args := #[s, x], argTypes := #[ts, ts] }) (hty : o.type = ts)
  (base : Nat) (v : Value) (f : Fo) (hs : a.eval s = v) (hown : OwnF D e w base v f) (g : Nat) (hx : a.eval x = .slice (some ⟨g, 0, none⟩) 1 1)
  (t : Nat) (d : List UInt8) (k : Fo) (bv cv : Value) (hblk : Blk w g e #[.int .u64 (t : Int), bv, cv]) (ht : t < 18446744073709551616) (hd : D w (ItsI base w v) bv d) (hk : FV D w (ItsI base w v) cv k)
  (hb : (f.len + 1) * bytes ≤ 140737488355328) (hlen : f.len + 1 ≤ 140737488355328) (hbase : base ≤ w.heap.size)
  (hK : ∀ v' w', AppF D e w base v (f.app (.cons t d k .nil)) v' w' → wpList P ops Q rest (a.put o.dst v') w') : wpList P ops Q (o :: rest) a w :=
 wpList_plain hgd fun _ hK' => wp_append_it hD hone hu hinfo hz s x ho hty base v f hs hown g hx t d k bv cv hblk ht hd hk hb hlen hbase fun v' w' hp => hK' _ _ (hK v' w' hp)
theorem one_R (w : World) (S : Nat → Prop) (v : Value) (d : List UInt8) (h : DataR w S v d) : v.oneCell' = true := by unfold DataR at h; subst h; rfl
theorem one_I (w : World) (S : Nat → Prop) (v : Value) (d : List UInt8) (h : DataI w S v d) : v.oneCell' = true := by obtain ⟨_, ⟨A, c, rfl, _⟩, _⟩ := h; rfl
section
attribute [local go_sem ↓] Go.wp_at_zero Go.wp_at_succ
theorem Tryz.infoJ : (Tryz.prog.info? 79).map (fun i => (i.zero, i.size, i.bytes)) = some (some (.agg #[.int .u64 0, .string ⟨#[]⟩, .slice none 0 0]), 3, 48) := by kernel_rfl
theorem zeroI : (Value.agg #[.int .u64 0, .string ⟨#[]⟩, .slice none 0 0]).cells.size = 3 := by kernel_rfl
theorem Rd.keepS {w w' : World} {db B : Nat} {v : Value} {d : List UInt8} (h : Rd w db v d) (hs : 0 < d.length → db < B) (hb : Below B w w') : Rd w' db v d := by
 by_cases h0 : 0 < d.length
 ·exact h.heap (hb.block db (hs h0))
 ·have hd : d = [] := List.eq_nil_of_length_eq_zero (by omega)
  subst hd
  obtain ⟨A, c, rfl, h1, h2, _⟩ := h
  exact ⟨A, c, rfl, h1, h2, fun h => absurd h (by simp)⟩
end
end Go.Proofs.YtleidkpdpabkpaaGreatDoor
