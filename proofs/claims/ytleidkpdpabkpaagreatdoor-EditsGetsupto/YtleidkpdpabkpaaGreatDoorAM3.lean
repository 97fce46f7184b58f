/- TreNum PthNum TreWay DifNum EdtNum EdtRow OctRefB TlvMath -/
import Derived.Test.YtleidkpdpabkpaaGreatDoorAM2
set_option linter.unusedSimpArgs false
set_option linter.unusedVariables false
set_option maxRecDepth 100000
set_option maxHeartbeats 8000000
namespace Go.Proofs.YtleidkpdpabkpaaGreatDoor
open Go.RowKit
abbrev ltY (a b : List UInt8) : Bool := Go.Op.bytesLess a b
theorem ltB_nil (a : List UInt8) : ltY a [] = false := by cases a <;> rfl
theorem ltB_cons (x y : UInt8) (a b : List UInt8) : ltY (x :: a) (y :: b) = true ↔ x.toNat < y.toNat ∨ (x = y ∧ ltY a b = true) := by
 have h : ltY (x :: a) (y :: b) = (decide (x < y) || (x == y && ltY a b)) := rfl
 rw [h]
 simp [UInt8.lt_iff_toNat_lt]
theorem ltB_trans : ∀ a b c : List UInt8, ltY a b = true → ltY b c = true → ltY a c = true := by
 intro a
 induction a with
 | nil =>
  intro b c h1 h2
  cases c with
  | nil => rw [ltB_nil] at h2; cases h2
  | cons => rfl
 | cons x a ih =>
  intro b c h1 h2
  cases b with
  | nil => rw [ltB_nil] at h1; cases h1
  | cons y b =>
   cases c with
   | nil => rw [ltB_nil] at h2; cases h2
   | cons z c =>
    rw [ltB_cons] at h1 h2 ⊢
    rcases h1 with h1 | ⟨rfl, h1⟩
    ·rcases h2 with h2 | ⟨rfl, h2⟩
     ·exact .inl (by omega)
     ·exact .inl h1
    ·rcases h2 with h2 | ⟨rfl, h2⟩
     ·exact .inl h2
     ·exact .inr ⟨rfl, ih b c h1 h2⟩
structure NdD where
 name : List UInt8
 key : List UInt8
 kind : Int
 num : Nat
 text : List UInt8
theorem NdD.ext_ {a b : NdD} (h1 : a.name = b.name) (h2 : a.key = b.key) (h3 : a.kind = b.kind) (h4 : a.num = b.num) (h5 : a.text = b.text) : a = b := by
 cases a; cases b; simp_all
instance : DecidableEq NdD := fun a b => decidable_of_iff (a.name = b.name ∧ a.key = b.key ∧ a.kind = b.kind ∧ a.num = b.num ∧ a.text = b.text)
 ⟨fun ⟨h1, h2, h3, h4, h5⟩ => NdD.ext_ h1 h2 h3 h4 h5, fun h => by subst h; exact ⟨rfl, rfl, rfl, rfl, rfl⟩⟩
abbrev NdF := Fr NdD
abbrev Nd := NdD × NdF
abbrev Stp := List UInt8 × List UInt8
abbrev zeroT : NdD := ⟨[], [], 0, 0, []⟩
abbrev noN : Nd := (zeroT, .nil)
def stp (a : NdD) : Stp := (a.name, a.key)
def lessS (s t : Stp) : Bool := ltY s.1 t.1 || (decide (s.1 = t.1) && ltY s.2 t.2)
def lessX (a b : NdD) : Bool := lessS (stp a) (stp b)
theorem lessS_iff (s t : Stp) : lessS s t = true ↔ ltY s.1 t.1 = true ∨ (s.1 = t.1 ∧ ltY s.2 t.2 = true) := by simp [lessS]
theorem lessS_trans {s t u : Stp} (h1 : lessS s t = true) (h2 : lessS t u = true) : lessS s u = true := by
 rw [lessS_iff] at h1 h2 ⊢
 rcases h1 with h1 | ⟨e, h1⟩
 ·rcases h2 with h2 | ⟨e2, h2⟩
  ·exact .inl (ltB_trans _ _ _ h1 h2)
  ·exact .inl (e2 ▸ h1)
 ·rcases h2 with h2 | ⟨e2, h2⟩
  ·exact .inl (e ▸ h2)
  ·exact .inr ⟨e.trans e2, ltB_trans _ _ _ h1 h2⟩
def hdLess (a : NdD) : NdF → Bool
 | .nil => true
 | .cons b _ _ => lessX a b
def rgtF : NdF → Bool
 | .nil => true
 | .cons a k r => ((if a.kind ≠ 0 then decide (k.len = 0) else (decide (a.num = 0) && decide (a.text = []) && rgtF k)) && hdLess a r) && rgtF r
def rgtX (x : Nd) : Bool := if x.1.kind ≠ 0 then decide (x.2.len = 0) else (decide (x.1.num = 0) && decide (x.1.text = []) && rgtF x.2)
theorem rightF_cons (a : NdD) (k r : NdF) : rgtF (.cons a k r) = (rgtX (a, k) && hdLess a r && rgtF r) := rfl
def sizeX (x : Nd) : Nat := x.2.size + 1
def allGt (s : Stp) : NdF → Prop
 | .nil => True
 | .cons a _ r => lessS s (stp a) = true ∧ allGt s r
theorem allGt.mono {s t : Stp} (h : lessS s t = true) : ∀ {f : NdF}, allGt t f → allGt s f := by
 intro f
 induction f with
 | nil => intro _; trivial
 | cons a k r _ ih => intro ⟨h1, h2⟩; exact ⟨lessS_trans h h1, ih h2⟩
def okAt (f : NdF) (i : Nat) : Bool := match f.get? i with
 | none => true
 | some y => rgtX y && (match i with | 0 => true | j + 1 => match f.get? j with | none => true | some z => lessX z.1 y.1)
theorem right_at : ∀ {f : NdF}, rgtF f = true ↔ ∀ i, i < f.len → okAt f i = true := by
 intro f
 induction f with
 | nil => exact ⟨fun _ i h => by simp [Fr.len] at h, fun _ => rfl⟩
 | cons a k r _ ih =>
  rw [rightF_cons]
  simp only [Bool.and_eq_true]
  constructor
  ·intro ⟨⟨h1, h2⟩, h3⟩ i hi
   cases i with
   | zero => simp [okAt, Fr.get?, h1]
   | succ i =>
    have h4 := ih.1 h3 i (by simp only [Fr.len] at hi; omega)
    cases i with
    | zero =>
     cases r with
     | nil => simp [Fr.len] at hi
     | cons b q s => simp only [okAt, Fr.get?, Bool.and_true] at h4 ⊢; simp only [hdLess] at h2; rw [h4, h2]; rfl
    | succ j => simpa [okAt, Fr.get?] using h4
  ·intro h
   refine ⟨⟨?_, ?_⟩, ih.2 fun i hi => ?_⟩
   ·have := h 0 (by simp [Fr.len])
    simpa [okAt, Fr.get?] using this
   ·cases r with
    | nil => rfl
    | cons b q s =>
     have := h 1 (by simp [Fr.len])
     simp only [okAt, Fr.get?, Bool.and_eq_true] at this
     exact this.2
   ·have h4 := h (i + 1) (by simp only [Fr.len]; omega)
    cases i with
    | zero =>
     cases r with
     | nil => simp [Fr.len] at hi
     | cons b q s => simp only [okAt, Fr.get?, Bool.and_eq_true] at h4 ⊢; simp [h4.1]
    | succ j => simpa [okAt, Fr.get?] using h4
def okS (s : Stp) : Bool := identX s.1 && (identX s.2 || s.2.isEmpty)
def stepT (s : Stp) : List UInt8 := 47 :: (s.1 ++ (if identX s.2 = true then 91 :: (s.2 ++ [93]) else []))
def catT : List Stp → List UInt8
 | [] => []
 | s :: l => stepT s ++ catT l
theorem catT_app (l m : List Stp) : catT (l ++ m) = catT l ++ catT m := by
 induction l with
 | nil => rfl
 | cons s l ih => simp only [List.cons_append, catT, ih, List.append_assoc]
theorem catT_nil {l : List Stp} (h : catT l = []) : l = [] := by
 cases l with
 | nil => rfl
 | cons s l => simp [catT, stepT] at h
def showX (l : List Stp) : List UInt8 := if l.all okS = true then (if l = [] then [47] else if 6 < l.length then [] else catT l) else []
def stepX : List UInt8 → (Stp × Nat) ⊕ (Nat × Nat)
 | [] => .inr (21, 0)
 | c :: t =>
  let n := t.takeWhile nmB
  if identX n = false then .inr (22, 1)
  else match t.drop n.length with
   | [] => .inl ((n, []), 1 + n.length)
   | d :: v => if d = 91 then
      let k := v.takeWhile nmB
      if identX k = false then .inr (22, 1 + n.length + 1)
      else match v.drop k.length with
       | [] => .inr (21, 1 + n.length + 1 + k.length)
       | e :: _ => if e = 93 then .inl ((n, k), 1 + n.length + 1 + k.length + 1) else .inr (21, 1 + n.length + 1 + k.length)
     else .inl ((n, []), 1 + n.length)
def runX : Nat → List Stp → Nat → List UInt8 → List Stp × Nat × Nat
 | 0, out, _, _ => (out, 0, 0)
 | f + 1, out, at_, r => if r = [] then (out, 0, 0) else if r.head? ≠ some 47 then ([], 21, at_) else if out.length = 6 then ([], 13, at_) else
   match stepX r with
   | .inr (e, o) => ([], e, at_ + o)
   | .inl (s, n) => runX f (out ++ [s]) (at_ + n) (r.drop n)
def parseX15 (s : List UInt8) : List Stp × Nat × Nat := if s = [47] then ([], 0, 0) else if s = [] then ([], 21, 0) else runX s.length [] 0 s
theorem take_all_ {p : UInt8 → Bool} {a : List UInt8} (h : a.all p = true) {b : List UInt8} (hb : ∀ c, b.head? = some c → p c = false) : (a ++ b).takeWhile p = a := by
 induction a with
 | nil =>
  cases b with
  | nil => rfl
  | cons c b => rw [List.nil_append, List.takeWhile_cons, hb c rfl]; rfl
 | cons x a ih =>
  simp only [List.all_cons, Bool.and_eq_true] at h
  rw [List.cons_append, List.takeWhile_cons, h.1]
  simp only [if_true]
  rw [ih h.2]
theorem drop_len_ (a b : List UInt8) : (a ++ b).drop a.length = b := by rw [List.drop_left]
theorem ident_all {s : List UInt8} (h : identX s = true) : s.all nmB = true := by
 cases s with
 | nil => rfl
 | cons c r =>
  simp only [identX, Bool.and_eq_true, decide_eq_true_eq] at h
  simp only [List.all_cons, h.1.2, sm_nm h.1.1, Bool.and_self]
theorem ident_ne15 {s : List UInt8} (h : identX s = true) : s ≠ [] := fun e => by subst e; simp [identX] at h
theorem nm47 : nmB 47 = false := by decide
theorem nm91 : nmB 91 = false := by decide
theorem nm93 : nmB 93 = false := by decide
def nextX (r : List UInt8) : Prop := r = [] ∨ r.head? = some 47
theorem nextX.nm {r : List UInt8} (h : nextX r) : ∀ c, r.head? = some c → nmB c = false := by
 intro c hc
 rcases h with rfl | h
 ·cases hc
 ·rw [h] at hc; injection hc with hc; subst hc; exact nm47
theorem stepX_text {s : Stp} (h : okS s = true) {r : List UInt8} (hr : nextX r) : stepX (stepT s ++ r) = .inl (s, (stepT s).length) := by
 obtain ⟨n, k⟩ := s
 unfold okS at h
 simp only [Bool.and_eq_true, Bool.or_eq_true] at h
 obtain ⟨hn, hk⟩ := h
 by_cases hik : identX k = true
 ·unfold stepT
  simp only [if_pos hik]
  rw [List.cons_append, List.append_assoc, List.cons_append, List.append_assoc]
  have e1 : (n ++ 91 :: (k ++ ([93] ++ r))).takeWhile nmB = n := take_all_ (ident_all hn) (fun c hc => by injection hc with hc; subst hc; exact nm91)
  have e2 : (k ++ ([93] ++ r)).takeWhile nmB = k := take_all_ (ident_all hik) (fun c hc => by injection hc with hc; subst hc; exact nm93)
  unfold stepX
  simp only [e1, hn, drop_len_]
  simp only [e2, hik, drop_len_]
  simp only [List.cons_append, List.nil_append, if_true, Bool.true_eq_false, if_false, List.length_cons, List.length_append, List.length_nil]
  congr 2
  omega
 ·have hik' : identX k = false := by simpa using hik
  have hke : k = [] := by
   rcases hk with hk | hk
   ·exact absurd hk hik
   ·simpa using hk
  subst hke
  unfold stepT
  simp only [if_neg hik, List.append_nil]
  rw [List.cons_append]
  have e1 : (n ++ r).takeWhile nmB = n := take_all_ (ident_all hn) hr.nm
  unfold stepX
  simp only [e1, hn, drop_len_]
  rcases hr with rfl | hr
  ·simp only [Bool.true_eq_false, if_false, List.length_cons]
   congr 2
   omega
  ·cases r with
   | nil => cases hr
   | cons c r =>
    injection hr with hr
    subst hr
    have : ¬ (47 : UInt8) = 91 := by decide
    simp only [Bool.true_eq_false, if_false, this, List.length_cons]
    congr 2
    omega
theorem cat_next (l : List Stp) {r : List UInt8} (hr : nextX r) : nextX (catT l ++ r) := by
 cases l with
 | nil => exact hr
 | cons s l => exact .inr (by simp [catT, stepT])
theorem runX_cat : ∀ (l : List Stp) (f : Nat) (out : List Stp) (at_ : Nat) (r : List UInt8), l.all okS = true → nextX r → out.length + l.length ≤ 6 → l.length ≤ f →
  runX f out at_ (catT l ++ r) = runX (f - l.length) (out ++ l) (at_ + (catT l).length) r := by
 intro l
 induction l with
 | nil => intro f out at_ r _ _ _ _; simp [catT]
 | cons s l ih =>
  intro f out at_ r hl hr h6 hf
  simp only [List.all_cons, Bool.and_eq_true] at hl
  obtain ⟨g, rfl⟩ : ∃ g, f = g + 1 := ⟨f - 1, by simp at hf; omega⟩
  have h1 : catT (s :: l) ++ r = stepT s ++ (catT l ++ r) := by simp only [catT, List.append_assoc]
  rw [h1]
  have hx := stepX_text hl.1 (cat_next l hr)
  have hne : stepT s ++ (catT l ++ r) ≠ [] := by simp [stepT]
  have hhd : (stepT s ++ (catT l ++ r)).head? = some 47 := by simp [stepT]
  conv => lhs; unfold runX
  rw [if_neg hne, if_neg (by rw [hhd]; simp), if_neg (by simp at h6; omega), hx]
  simp only [drop_len_]
  rw [ih g (out ++ [s]) _ r hl.2 hr (by simp at h6 ⊢; omega) (by simp at hf; omega)]
  simp only [catT, List.length_append, List.append_assoc, List.cons_append, List.nil_append, List.length_cons]
  rw [show g + 1 - (l.length + 1) = g - l.length by omega, Nat.add_assoc]
theorem cat_len (l : List Stp) : l.length ≤ (catT l).length := by
 induction l with
 | nil => exact Nat.le_refl _
 | cons s l ih => simp only [catT, stepT, List.length_cons, List.length_append]; omega
theorem runX_nil (f : Nat) (out : List Stp) (at_ : Nat) : runX f out at_ [] = (out, 0, 0) := by
 cases f with
 | zero => rfl
 | succ f => unfold runX; rw [if_pos rfl]
theorem parse_show {l : List Stp} (h : showX l ≠ []) : parseX15 (showX l) = (l, 0, 0) := by
 unfold showX at h ⊢
 by_cases ha : l.all okS = true
 ·rw [if_pos ha] at h ⊢
  by_cases h0 : l = []
  ·subst h0; rfl
  rw [if_neg h0] at h ⊢
  by_cases h6 : 6 < l.length
  ·rw [if_pos h6] at h; exact absurd rfl h
  rw [if_neg h6] at h ⊢
  have h1 : catT l ≠ [47] := by
   cases l with
   | nil => exact absurd rfl h0
   | cons s l =>
    intro e
    simp only [List.all_cons, Bool.and_eq_true] at ha
    have := ha.1
    unfold okS at this
    simp only [Bool.and_eq_true] at this
    have hn := ident_len this.1
    have hlen := congrArg List.length e
    simp only [catT, stepT, List.length_cons, List.length_append, List.length_nil] at hlen
    omega
  unfold parseX15
  rw [if_neg h1, if_neg h]
  have hr := runX_cat l (catT l).length [] 0 [] ha (.inl rfl) (by simp; omega) (cat_len l)
  rw [List.append_nil] at hr
  rw [hr, runX_nil, List.nil_append]
 ·rw [if_neg ha] at h; exact absurd rfl h
theorem take_split (r : List UInt8) : r = r.takeWhile nmB ++ r.drop (r.takeWhile nmB).length := by
 induction r with
 | nil => rfl
 | cons c r ih =>
  rw [List.takeWhile_cons]
  by_cases h : nmB c = true
  ·rw [if_pos h]
   simp only [List.cons_append, List.length_cons, List.drop_succ_cons]
   rw [← ih]
  ·rw [if_neg h]; rfl
theorem stepX_ok {r : List UInt8} {s : Stp} {n : Nat} (hr : r.head? = some 47) (h : stepX r = .inl (s, n)) : okS s = true ∧ r = stepT s ++ r.drop n ∧ n = (stepT s).length ∧ n ≤ r.length := by
 cases r with
 | nil => cases hr
 | cons c t =>
  injection hr with hr
  subst hr
  unfold stepX at h
  simp only at h
  have ht := take_split t
  generalize t.takeWhile nmB = a at h ht
  by_cases hi : identX a = false
  ·rw [if_pos hi] at h; cases h
  rw [if_neg hi] at h
  have hi' : identX a = true := by simpa using hi
  generalize t.drop a.length = u at h ht
  subst ht
  cases u with
  | nil =>
   simp only at h
   injection h with h
   injection h with h1 h2
   subst h1 h2
   have e : stepT (a, []) = 47 :: a := by simp [stepT, identX]
   refine ⟨by simp [okS, hi'], ?_, by rw [e]; simp; omega, by simp; omega⟩
   rw [e, List.append_nil, Nat.add_comm, List.drop_succ_cons, List.drop_length, List.append_nil]
  | cons d v =>
   simp only at h
   by_cases hd : d = 91
   ·subst hd
    rw [if_pos rfl] at h
    have hv := take_split v
    generalize v.takeWhile nmB = k at h hv
    by_cases hk : identX k = false
    ·rw [if_pos hk] at h; cases h
    rw [if_neg hk] at h
    have hk' : identX k = true := by simpa using hk
    generalize v.drop k.length = x at h hv
    subst hv
    cases x with
    | nil => cases h
    | cons e y =>
     simp only at h
     by_cases he : e = 93
     ·subst he
      rw [if_pos rfl] at h
      injection h with h
      injection h with h1 h2
      subst h1 h2
      have e : stepT (a, k) = 47 :: (a ++ 91 :: (k ++ [93])) := by simp [stepT, hk']
      have e2 : (47 :: (a ++ 91 :: (k ++ 93 :: y))) = stepT (a, k) ++ y := by rw [e]; simp
      have e3 : (stepT (a, k)).length = 1 + a.length + 1 + k.length + 1 := by rw [e]; simp; omega
      refine ⟨by simp [okS, hi', hk'], ?_, e3.symm, by rw [e2, List.length_append]; omega⟩
      rw [e2, ← e3, List.drop_left]
     ·rw [if_neg he] at h; cases h
   ·rw [if_neg hd] at h
    injection h with h
    injection h with h1 h2
    subst h1 h2
    have e : stepT (a, []) = 47 :: a := by simp [stepT, identX]
    have e2 : (47 :: (a ++ d :: v)) = stepT (a, []) ++ (d :: v) := by rw [e]; simp
    have e3 : (stepT (a, [])).length = 1 + a.length := by rw [e]; simp; omega
    refine ⟨by simp [okS, hi'], ?_, e3.symm, by rw [e2, List.length_append]; omega⟩
    rw [e2, ← e3, List.drop_left]
theorem stepX_bad {r : List UInt8} {e o : Nat} (hr : r ≠ []) (h : stepX r = .inr (e, o)) : (e = 21 ∨ e = 22) ∧ o ≤ r.length := by
 cases r with
 | nil => exact absurd rfl hr
 | cons c t =>
  unfold stepX at h
  simp only at h
  have ht := take_split t
  generalize t.takeWhile nmB = a at h ht
  by_cases hi : identX a = false
  ·rw [if_pos hi] at h
   injection h with h
   injection h with h1 h2
   subst h1 h2
   exact ⟨.inr rfl, by simp⟩
  rw [if_neg hi] at h
  generalize t.drop a.length = u at h ht
  subst ht
  cases u with
  | nil => cases h
  | cons d v =>
   simp only at h
   by_cases hd : d = 91
   ·rw [if_pos hd] at h
    have hv := take_split v
    generalize v.takeWhile nmB = k at h hv
    by_cases hk : identX k = false
    ·rw [if_pos hk] at h
     injection h with h
     injection h with h1 h2
     subst h1 h2
     exact ⟨.inr rfl, by simp; omega⟩
    rw [if_neg hk] at h
    generalize v.drop k.length = x at h hv
    subst hv
    cases x with
    | nil =>
     injection h with h
     injection h with h1 h2
     subst h1 h2
     exact ⟨.inl rfl, by simp; omega⟩
    | cons e y =>
     simp only at h
     by_cases he : e = 93
     ·rw [if_pos he] at h; cases h
     ·rw [if_neg he] at h
      injection h with h
      injection h with h1 h2
      subst h1 h2
      exact ⟨.inl rfl, by simp; omega⟩
   ·rw [if_neg hd] at h; cases h
theorem runX_sound : ∀ (f : Nat) (out : List Stp) (at_ : Nat) (r : List UInt8) (w : List Stp) (e a : Nat), out.length ≤ 6 → r.length ≤ f → runX f out at_ r = (w, e, a) →
  (e = 0 ∧ a = 0 ∧ w.length ≤ 6 ∧ ∃ l, w = out ++ l ∧ l.all okS = true ∧ r = catT l) ∨ (e ≠ 0 ∧ w = [] ∧ at_ ≤ a ∧ a ≤ at_ + r.length) := by
 intro f
 induction f with
 | zero =>
  intro out at_ r w e a h6 hr h
  have hr0 : r = [] := List.eq_nil_of_length_eq_zero (by omega)
  subst hr0
  unfold runX at h
  injection h with h1 h
  injection h with h2 h3
  subst h1 h2 h3
  exact .inl ⟨rfl, rfl, h6, [], by simp, rfl, rfl⟩
 | succ f ih =>
  intro out at_ r w e a h6 hr h
  unfold runX at h
  by_cases h0 : r = []
  ·rw [if_pos h0] at h
   injection h with h1 h
   injection h with h2 h3
   subst h1 h2 h3 h0
   exact .inl ⟨rfl, rfl, h6, [], by simp, rfl, rfl⟩
  rw [if_neg h0] at h
  by_cases h1 : r.head? ≠ some 47
  ·rw [if_pos h1] at h
   injection h with h1 h
   injection h with h2 h3
   subst h1 h2 h3
   exact .inr ⟨by decide, rfl, Nat.le_refl _, by omega⟩
  rw [if_neg h1] at h
  have h1' : r.head? = some 47 := Decidable.not_not.1 h1
  by_cases h2 : out.length = 6
  ·rw [if_pos h2] at h
   injection h with h1 h
   injection h with h2 h3
   subst h1 h2 h3
   exact .inr ⟨by decide, rfl, Nat.le_refl _, by omega⟩
  rw [if_neg h2] at h
  cases hx : stepX r with
  | inr p =>
   obtain ⟨e', o⟩ := p
   rw [hx] at h
   simp only at h
   injection h with g1 h
   injection h with g2 g3
   subst g1 g2 g3
   obtain ⟨k1, k2⟩ := stepX_bad h0 hx
   exact .inr ⟨by rcases k1 with rfl | rfl <;> decide, rfl, by omega, by omega⟩
  | inl p =>
   obtain ⟨s, n⟩ := p
   rw [hx] at h
   simp only at h
   obtain ⟨k1, k2, k3, k4⟩ := stepX_ok h1' hx
   have hn1 : 1 ≤ n := by rw [k3]; simp [stepT]
   rcases ih (out ++ [s]) (at_ + n) (r.drop n) w e a (by simp; omega) (by rw [List.length_drop]; omega) h with ⟨e0, a0, w6, l, hw, hl, hc⟩ | ⟨e0, w0, a1, a2⟩
   ·refine .inl ⟨e0, a0, w6, s :: l, by rw [hw]; simp, by simp [k1, hl], ?_⟩
    rw [catT, ← hc]
    exact k2
   ·rw [List.length_drop] at a2
    exact .inr ⟨e0, w0, by omega, by omega⟩
theorem parse_ways (s : List UInt8) : (∃ w, parseX15 s = (w, 0, 0) ∧ w.all okS = true ∧ w.length ≤ 6 ∧ showX w = s) ∨ (∃ e a, parseX15 s = ([], e, a) ∧ e ≠ 0 ∧ a ≤ s.length) := by
 by_cases h1 : s = [47]
 ·subst h1; exact .inl ⟨[], rfl, rfl, by simp, rfl⟩
 by_cases h2 : s = []
 ·subst h2; exact .inr ⟨21, 0, rfl, by decide, by simp⟩
 unfold parseX15
 rw [if_neg h1, if_neg h2]
 obtain ⟨w, e, a, h⟩ : ∃ w e a, runX s.length [] 0 s = (w, e, a) := ⟨_, _, _, rfl⟩
 rcases runX_sound s.length [] 0 s w e a (by simp) (Nat.le_refl _) h with ⟨rfl, rfl, w6, l, hw, hl, hc⟩ | ⟨e0, rfl, _, a2⟩
 ·rw [List.nil_append] at hw
  subst hw
  refine .inl ⟨w, h, hl, w6, ?_⟩
  unfold showX
  rw [if_pos hl, if_neg (fun e => by subst e; exact h2 hc), if_neg (by omega), hc]
 ·exact .inr ⟨e, a, h, e0, by omega⟩
theorem show_bad {l : List Stp} {s : Stp} (hs : s ∈ l) (h : okS s = false) : showX l = [] := by
 unfold showX
 rw [if_neg]
 intro e
 rw [List.all_eq_true] at e
 rw [e s hs] at h
 cases h
def parts : List Stp → List Stp → Prop
 | s :: a, t :: b => s ≠ t ∨ parts a b
 | _, _ => False
structure EdD where
 kind : Int
 way : List Stp
 node : Nd
 old : Nd
theorem EdD.ext_ {a b : EdD} (h1 : a.kind = b.kind) (h2 : a.way = b.way) (h3 : a.node = b.node) (h4 : a.old = b.old) : a = b := by
 cases a; cases b; simp_all
instance : DecidableEq EdD := fun a b => decidable_of_iff (a.kind = b.kind ∧ a.way = b.way ∧ a.node = b.node ∧ a.old = b.old)
 ⟨fun ⟨h1, h2, h3, h4⟩ => EdD.ext_ h1 h2 h3 h4, fun h => by subst h; exact ⟨rfl, rfl, rfl, rfl⟩⟩
def ndOk (a : NdD) : Bool := decide (¬ (a.kind = 0 ∧ (a.num ≠ 0 ∨ a.text ≠ []))) && decide (0 ≤ a.kind) && decide (a.kind ≤ 255) && decide (¬ (a.text ≠ [] ∧ a.num ≠ 0))
def okF18 : NdF → Bool
 | .nil => true
 | .cons a k r => ndOk a && (decide (a.kind = 0) || decide (k = .nil)) && okF18 k && okF18 r
def okN18 (x : Nd) : Bool := ndOk x.1 && (decide (x.1.kind = 0) || decide (x.2 = .nil)) && okF18 x.2
def okE18 (e : EdD) : Bool := (decide (e.kind = 1) || decide (e.kind = 2) || decide (e.kind = 3)) && decide (e.way ≠ []) && decide (showX e.way ≠ []) && (decide (e.kind ≠ 2) || decide (e.node = noN)) && (decide (e.kind ≠ 1) || decide (e.old = noN)) && okN18 e.node && okN18 e.old
def valT18 (L : Nat → List UInt8) (a : NdD) : List UInt8 := if a.text = [] then UInt8.ofNat a.kind.toNat :: 0 :: L a.num else UInt8.ofNat a.kind.toNat :: 1 :: a.text
def keyI18 (a : NdD) (r : Fo) : Fo := if a.key = [] then r else .cons 2 a.key .nil r
def valI18 (L : Nat → List UInt8) (a : NdD) (r : Fo) : Fo := if a.kind = 0 then r else .cons 4 (valT18 L a) .nil r
def inI18 (L : Nat → List UInt8) (a : NdD) (r : Fo) : Fo := .cons 0 a.name .nil (keyI18 a (valI18 L a r))
def itmF18 (L : Nat → List UInt8) : NdF → Fo
 | .nil => .nil
 | .cons a k r => .cons 7 [] (inI18 L a (itmF18 L k)) (itmF18 L r)
def itm18 (L : Nat → List UInt8) (t : Nat) (x : Nd) (r : Fo) : Fo := .cons t [] (inI18 L x.1 (itmF18 L x.2)) r
def itsE18 (L : Nat → List UInt8) : List EdD → Fo
 | [] => .nil
 | e :: l => .cons (2 * e.kind + 1).toNat [] (.cons 2 (showX e.way) .nil (if e.kind = 2 then (if e.kind = 1 then .nil else itm18 L 5 e.old .nil) else itm18 L 3 e.node (if e.kind = 1 then .nil else itm18 L 5 e.old .nil))) (itsE18 L l)
theorem its_app18 (L : Nat → List UInt8) (l m : List EdD) : itsE18 L (l ++ m) = (itsE18 L l).app (itsE18 L m) := by
 induction l with
 | nil => rfl
 | cons e l ih => simp only [List.cons_append, itsE18, Fo.app, ih]
def dat18 (t : Nat) : Fo → List UInt8
 | .nil => []
 | .cons u d _ r => if u = t then d else dat18 t r
def kid18 (V : List UInt8 → Nat) (k : Fo) : NdD :=
 match dat18 4 k with
 | x :: y :: s => if y = 0 then ⟨dat18 0 k, dat18 2 k, (x.toNat : Int), V s, []⟩ else ⟨dat18 0 k, dat18 2 k, (x.toNat : Int), 0, s⟩
 | _ => ⟨dat18 0 k, dat18 2 k, 0, 0, []⟩
def red18 (V : List UInt8 → Nat) : Fo → NdF
 | .nil => .nil
 | .cons t _ k r => if t = 7 then .cons (kid18 V k) (red18 V k) (red18 V r) else red18 V r
def read18 (V : List UInt8 → Nat) (t : Nat) : Fo → Nd
 | .nil => noN
 | .cons u _ k r => if u = t then (kid18 V k, red18 V k) else read18 V t r
def redE18 (V : List UInt8 → Nat) : Fo → List EdD
 | .nil => []
 | .cons t _ k r => ⟨((t % 256 / 2 : Nat) : Int), (parseX15 (dat18 2 k)).1, read18 V 3 k, read18 V 5 k⟩ :: redE18 V r
theorem dat_itm {L : Nat → List UInt8} {t : Nat} (h : t ≠ 7) : ∀ f : NdF, dat18 t (itmF18 L f) = [] := by
 intro f
 induction f with
 | nil => rfl
 | cons a k r _ ih => simp only [itmF18, dat18]; rw [if_neg (fun e => h e.symm)]; exact ih
theorem dat4_val {L : Nat → List UInt8} (a : NdD) (f : NdF) : dat18 4 (valI18 L a (itmF18 L f)) = if a.kind = 0 then [] else valT18 L a := by
 unfold valI18
 split
 ·exact dat_itm (by decide) f
 ·simp [dat18]
theorem dat2_val {L : Nat → List UInt8} (a : NdD) (f : NdF) : dat18 2 (valI18 L a (itmF18 L f)) = [] := by
 unfold valI18
 split
 ·exact dat_itm (by decide) f
 ·simp only [dat18]; rw [if_neg (by decide)]; exact dat_itm (by decide) f
theorem dat0_in {L : Nat → List UInt8} (a : NdD) (r : Fo) : dat18 0 (inI18 L a r) = a.name := by simp [inI18, dat18]
theorem dat2_in {L : Nat → List UInt8} (a : NdD) (f : NdF) : dat18 2 (inI18 L a (itmF18 L f)) = a.key := by
 unfold inI18 keyI18
 simp only [dat18]
 rw [if_neg (by decide)]
 split
 ·rename_i h; rw [dat2_val, h]
 ·simp [dat18]
theorem dat4_in {L : Nat → List UInt8} (a : NdD) (f : NdF) : dat18 4 (inI18 L a (itmF18 L f)) = if a.kind = 0 then [] else valT18 L a := by
 unfold inI18 keyI18
 simp only [dat18]
 rw [if_neg (by decide)]
 split
 ·exact dat4_val a f
 ·simp only [dat18]; rw [if_neg (by decide)]; exact dat4_val a f
theorem red_in {L : Nat → List UInt8} {V : List UInt8 → Nat} (a : NdD) (r : Fo) : red18 V (inI18 L a r) = red18 V r := by
 unfold inI18 keyI18 valI18
 simp only [red18]
 rw [if_neg (by decide)]
 split <;> split <;> simp [red18]
theorem kid_in {L : Nat → List UInt8} {V : List UInt8 → Nat} (hLV : ∀ n, n < 18446744073709551616 → V (L n) = n) {a : NdD} (f : NdF) (h : ndOk a = true) (hn : a.num < 18446744073709551616) : kid18 V (inI18 L a (itmF18 L f)) = a := by
 obtain ⟨nm, ky, kd, nu, tx⟩ := a
 simp only [ndOk, Bool.and_eq_true, decide_eq_true_eq] at h
 obtain ⟨⟨⟨h1, h2⟩, h3⟩, h4⟩ := h
 simp only at h1 h2 h3 h4 hn
 unfold kid18
 rw [dat4_in, dat0_in, dat2_in]
 simp only
 by_cases hk : kd = 0
 ·subst hk
  simp only [if_pos]
  have hnu : nu = 0 := by by_cases e : nu = 0; exact e; exact absurd ⟨rfl, .inl e⟩ h1
  have htx : tx = [] := by by_cases e : tx = []; exact e; exact absurd ⟨rfl, .inr e⟩ h1
  rw [hnu, htx]
 ·rw [if_neg hk]
  have hx : ((UInt8.ofNat kd.toNat).toNat : Int) = kd := by
   have : kd.toNat < 256 := by omega
   rw [UInt8.toNat_ofNat', Nat.mod_eq_of_lt this]
   omega
  unfold valT18
  simp only
  by_cases ht : tx = []
  ·subst ht
   simp only [if_pos]
   rw [hx, hLV nu hn]
  ·rw [if_neg ht]
   simp only
   have hnu : nu = 0 := by by_cases e : nu = 0; exact e; exact absurd ⟨ht, e⟩ h4
   rw [if_neg (by decide), hx, hnu]
def numF18 : NdF → Prop
 | .nil => True
 | .cons a k r => a.num < 18446744073709551616 ∧ numF18 k ∧ numF18 r
def numN18 (x : Nd) : Prop := x.1.num < 18446744073709551616 ∧ numF18 x.2
theorem red_itm {L : Nat → List UInt8} {V : List UInt8 → Nat} (hLV : ∀ n, n < 18446744073709551616 → V (L n) = n) : ∀ f : NdF, okF18 f = true → numF18 f → red18 V (itmF18 L f) = f := by
 intro f
 induction f with
 | nil => intro _ _; rfl
 | cons a k r ihk ihr =>
  intro h hn
  simp only [okF18, Bool.and_eq_true] at h
  obtain ⟨⟨⟨h1, h2⟩, h3⟩, h4⟩ := h
  obtain ⟨n1, n2, n3⟩ := hn
  simp only [itmF18, red18, if_pos]
  rw [kid_in hLV k h1 n1, red_in, ihk h3 n2, ihr h4 n3]
theorem read_itm {L : Nat → List UInt8} {V : List UInt8 → Nat} (hLV : ∀ n, n < 18446744073709551616 → V (L n) = n) {t : Nat} {x : Nd} {r : Fo} (h : okN18 x = true) (hn : numN18 x) : read18 V t (itm18 L t x r) = x := by
 obtain ⟨a, f⟩ := x
 simp only [okN18, Bool.and_eq_true] at h
 obtain ⟨⟨h1, h2⟩, h3⟩ := h
 unfold itm18
 simp only [read18, if_pos]
 rw [kid_in hLV f h1 hn.1, red_in, red_itm hLV f h3 hn.2]
theorem read_other {L : Nat → List UInt8} {V : List UInt8 → Nat} {t u : Nat} {x : Nd} {r : Fo} (h : u ≠ t) : read18 V t (itm18 L u x r) = read18 V t r := by
 unfold itm18
 simp only [read18]
 rw [if_neg h]
theorem edits_back {L : Nat → List UInt8} {V : List UInt8 → Nat} (hLV : ∀ n, n < 18446744073709551616 → V (L n) = n) : ∀ l : List EdD, (∀ e ∈ l, okE18 e = true ∧ numN18 e.node ∧ numN18 e.old) → redE18 V (itsE18 L l) = l := by
 intro l
 induction l with
 | nil => intro _; rfl
 | cons e l ih =>
  intro h
  obtain ⟨h1, n1, n2⟩ := h e (by simp)
  have ih2 := ih (fun x hx => h x (by simp [hx]))
  obtain ⟨k, w, p, o⟩ := e
  simp only [okE18, Bool.and_eq_true, Bool.or_eq_true, decide_eq_true_eq] at h1
  obtain ⟨⟨⟨⟨⟨⟨hk, hw⟩, hs⟩, hp⟩, ho⟩, kp⟩, ko⟩ := h1
  simp only at hk hw hs hp ho kp ko n1 n2
  simp only [itsE18, redE18]
  rw [ih2]
  have hd : ∀ r : Fo, dat18 2 (.cons 2 (showX w) .nil r) = showX w := fun r => by simp [dat18]
  have hr : ∀ (t : Nat) (r : Fo), t ≠ 2 → read18 V t (.cons 2 (showX w) .nil r) = read18 V t r := fun t r ht => by simp only [read18]; rw [if_neg (fun e => ht e.symm)]
  rw [hd, hr 3 _ (by decide), hr 5 _ (by decide), parse_show hs]
  rcases hk with (rfl | rfl) | rfl
  ·have ho2 : o = noN := by rcases ho with h | h; exact absurd rfl h; exact h
   subst ho2
   simp only [show ¬ (1 : Int) = 2 by decide, if_false, if_true]
   rw [read_itm hLV kp n1, read_other (by decide)]
   rfl
  ·have hp2 : p = noN := by rcases hp with h | h; exact absurd rfl h; exact h
   subst hp2
   simp only [show ¬ (2 : Int) = 1 by decide, if_false, if_true]
   rw [read_other (by decide), read_itm hLV ko n2]
   rfl
  ·simp only [show ¬ (3 : Int) = 1 by decide, show ¬ (3 : Int) = 2 by decide, if_false]
   rw [read_itm hLV kp n1, read_other (by decide), read_itm hLV ko n2]
   rfl
def putX18 (L : Nat → List UInt8) (l : List EdD) : List UInt8 × Nat := if l.all okE18 = true then (if Fo.right 1 (itsE18 L l) = true ∧ (itsE18 L l).all.length ≤ 8192 then ((itsE18 L l).all, 0) else ([], 14)) else ([], 1)
def got18 (s : List UInt8) : Fo × Int × Nat := if 8192 < s.length then (.nil, 14, 0) else gt s.length s 1 0
def getX18 (L : Nat → List UInt8) (V : List UInt8 → Nat) (b : List UInt8) : List EdD × Int :=
 if (got18 b).2.1 ≠ 0 then ([], (got18 b).2.1)
 else if (putX18 L (redE18 V (got18 b).1)).2 ≠ 0 ∨ (putX18 L (redE18 V (got18 b).1)).1 ≠ b then ([], 11)
 else (redE18 V (got18 b).1, 0)
theorem fit_val {L : Nat → List UInt8} {a : NdD} {r : Fo} (h : r.fit) : (valI18 L a r).fit := by
 unfold valI18
 split
 ·exact h
 ·exact ⟨by decide, trivial, h⟩
theorem fit_in {L : Nat → List UInt8} {a : NdD} {r : Fo} (h : r.fit) : (inI18 L a r).fit := by
 unfold inI18 keyI18
 refine ⟨by decide, trivial, ?_⟩
 split
 ·exact fit_val h
 ·exact ⟨by decide, trivial, fit_val h⟩
theorem fit_itm {L : Nat → List UInt8} : ∀ f : NdF, (itmF18 L f).fit := by
 intro f
 induction f with
 | nil => trivial
 | cons a k r ihk ihr => exact ⟨by decide, fit_in ihk, ihr⟩
theorem fit_itm1 {L : Nat → List UInt8} {t : Nat} (ht : t < 18446744073709551616) {x : Nd} {r : Fo} (h : r.fit) : (itm18 L t x r).fit := ⟨ht, fit_in (fit_itm x.2), h⟩
theorem fit_its {L : Nat → List UInt8} : ∀ l : List EdD, l.all okE18 = true → (itsE18 L l).fit := by
 intro l
 induction l with
 | nil => intro _; trivial
 | cons e l ih =>
  intro h
  rw [List.all_cons, Bool.and_eq_true] at h
  obtain ⟨h1, h2⟩ := h
  simp only [okE18, Bool.and_eq_true, Bool.or_eq_true, decide_eq_true_eq] at h1
  obtain ⟨⟨⟨⟨⟨⟨hk, _⟩, _⟩, _⟩, _⟩, _⟩, _⟩ := h1
  simp only [itsE18, Fo.fit]
  refine ⟨by rcases hk with (h | h) | h <;> rw [h] <;> decide, ⟨by decide, trivial, ?_⟩, ih h2⟩
  split
  ·split
   ·trivial
   ·exact fit_itm1 (by decide) trivial
  ·split
   ·exact fit_itm1 (by decide) trivial
   ·exact fit_itm1 (by decide) (fit_itm1 (by decide) trivial)
theorem put_ok {L : Nat → List UInt8} {l : List EdD} {b : List UInt8} : putX18 L l = (b, 0) ↔ l.all okE18 = true ∧ Fo.right 1 (itsE18 L l) = true ∧ (itsE18 L l).all.length ≤ 8192 ∧ b = (itsE18 L l).all := by
 unfold putX18
 split
 ·rename_i h
  split
  ·rename_i h2
   simp only [Prod.mk.injEq, and_true]
   exact ⟨fun e => ⟨h, h2.1, h2.2, e.symm⟩, fun e => e.2.2.2.symm⟩
  ·rename_i h2
   simp only [Prod.mk.injEq]
   exact ⟨fun e => absurd e.2 (by decide), fun e => absurd ⟨e.2.1, e.2.2.1⟩ h2⟩
 ·rename_i h
  simp only [Prod.mk.injEq]
  exact ⟨fun e => absurd e.2 (by decide), fun e => absurd e.1 h⟩
theorem put_none {L : Nat → List UInt8} {l : List EdD} (h : (putX18 L l).2 ≠ 0) : (putX18 L l).1 = [] := by
 unfold putX18 at h ⊢
 split
 ·split
  ·rename_i h1 h2; rw [if_pos h1, if_pos h2] at h; exact absurd rfl h
  ·rfl
 ·rfl
theorem put_get {L : Nat → List UInt8} {V : List UInt8 → Nat} (hLV : ∀ n, n < 18446744073709551616 → V (L n) = n) {l : List EdD} {b : List UInt8} (h : putX18 L l = (b, 0)) (hn : ∀ e ∈ l, numN18 e.node ∧ numN18 e.old) : getX18 L V b = (l, 0) := by
 obtain ⟨h1, h2, h3, h4⟩ := put_ok.1 h
 have hg : got18 b = (itsE18 L l, 0, 0) := by
  unfold got18
  rw [h4, if_neg (by omega)]
  exact gt_all _ _ _ _ (Nat.le_refl _) (by omega) (fit_its l h1) h2
 have hr : redE18 V (itsE18 L l) = l := edits_back hLV l (fun e he => ⟨List.all_eq_true.1 h1 e he, hn e he⟩)
 unfold getX18
 rw [hg]
 simp only [ne_eq, not_true_eq_false, if_false]
 rw [hr, h]
 simp
theorem get_put {L : Nat → List UInt8} {V : List UInt8 → Nat} {l : List EdD} {b : List UInt8} (h : getX18 L V b = (l, 0)) : putX18 L l = (b, 0) := by
 unfold getX18 at h
 split at h
 ·rename_i h1; injection h with h2 h3; exact absurd h3 h1
 ·split at h
  ·injection h with h2 h3; exact absurd h3 (by decide)
  ·rename_i h1 h2
   injection h with h3 h4
   rw [← h3]
   rw [not_or, Decidable.not_not, Decidable.not_not] at h2
   exact Prod.ext h2.2 h2.1
theorem get_none {L : Nat → List UInt8} {V : List UInt8 → Nat} {b : List UInt8} (h : (getX18 L V b).2 ≠ 0) : (getX18 L V b).1 = [] := by
 unfold getX18 at h ⊢
 split
 ·rfl
 ·split
  ·rfl
  ·rename_i h1 h2; rw [if_neg h1, if_neg h2] at h; exact absurd rfl h
theorem put_rows {L : Nat → List UInt8} {l m : List EdD} {b : List UInt8} (h : putX18 L (l ++ m) = (b, 0)) : ∃ c d, putX18 L l = (c, 0) ∧ putX18 L m = (d, 0) ∧ c ++ d = b := by
 obtain ⟨h1, h2, h3, h4⟩ := put_ok.1 h
 rw [List.all_append, Bool.and_eq_true] at h1
 rw [its_app18] at h2 h3 h4
 rw [Fo.right_app, Bool.and_eq_true] at h2
 rw [Fo.all_app] at h3 h4
 rw [List.length_append] at h3
 exact ⟨_, _, put_ok.2 ⟨h1.1, h2.1, by omega, rfl⟩, put_ok.2 ⟨h1.2, h2.2, by omega, rfl⟩, h4.symm⟩
def lenOf' : Value → Nat | .string b => b.size | _ => 0
theorem txt_get (l : List UInt8) (k : Nat) (h : k < l.length) (h' : k < (txt l).size) : (txt l)[k]'h' = l[k]'h := by
 show (txt l).data[k]'h' = l[k]
 simp [txt]
 rfl
theorem valB_zero_cons {b : UInt8} (l : List UInt8) (h : b.toNat = 0) : valB (b :: l) = valB l := by rw [valB_cons, h]; omega
theorem gt_own (n : Nat) : ∀ (s : List UInt8) (deep at_ : Nat), s.length ≤ n → s.length < 18446744073709551616 → (gt n s deep at_).2.1 = 0 →
  (gt n s deep at_).1.all = s ∧ Fo.right deep (gt n s deep at_).1 = true ∧ (gt n s deep at_).1.fit ∧ (gt n s deep at_).2.2 = 0 := by
 induction n with
 | zero =>
  intro s deep at_ hn _ _
  have hs : s = [] := List.eq_nil_of_length_eq_zero (by omega)
  subst hs
  exact ⟨rfl, rfl, trivial, rfl⟩
 | succ n ih =>
  intro s deep at_ hn h64 h
  by_cases hs : s = []
  ·subst hs; rw [gt_nil]; exact ⟨rfl, rfl, trivial, rfl⟩
  ·obtain ⟨t, a, e, h1⟩ : ∃ t a e, getV s = (t, a, e) := ⟨_, _, _, rfl⟩
   obtain ⟨long, b, f, h2⟩ : ∃ t b e, getV (s.drop a) = (t, b, e) := ⟨_, _, _, rfl⟩
   rw [gt_step hs h1 h2] at h ⊢
   by_cases c1 : e ≠ 0
   ·rw [if_pos c1] at h; exact absurd h c1
   rw [if_neg c1] at h ⊢
   have o1 := getV_own s (by rw [h1]; exact Decidable.not_not.1 c1)
   rw [h1] at o1
   obtain ⟨a1, a2, -, t64, ht⟩ := o1
   dsimp only at a1 a2 t64 ht
   by_cases c2 : f ≠ 0
   ·rw [if_pos c2] at h; exact absurd h c2
   rw [if_neg c2] at h ⊢
   have o2 := getV_own (s.drop a) (by rw [h2]; exact Decidable.not_not.1 c2)
   rw [h2] at o2
   obtain ⟨b1, b2, -, l64, hl⟩ := o2
   dsimp only at b1 b2 l64 hl
   rw [List.length_drop] at b2
   by_cases c3 : s.length - a - b < long
   ·rw [if_pos c3] at h; exact absurd (show (10 : Int) = 0 from h) (by decide)
   rw [if_neg c3] at h ⊢
   by_cases c4 : 6 < deep
   ·rw [if_pos c4] at h; exact absurd (show (13 : Int) = 0 from h) (by decide)
   rw [if_neg c4] at h ⊢
   obtain ⟨hk0, hr0, hfin⟩ := fin_ok h
   rw [hfin]
   obtain ⟨r1, r2, r3, -⟩ := ih (s.drop (a + b + long)) deep (at_ + (a + b + long)) (by rw [List.length_drop]; omega) (by rw [List.length_drop]; omega) hr0
   have hcl : ((s.drop (a + b)).take long).length = long := by rw [List.length_take, List.length_drop]; omega
   have hsplit : encV 9 t ++ (encV 9 long ++ ((s.drop (a + b)).take long ++ s.drop (a + b + long))) = s := by
    have e3 : (s.drop (a + b)).take long ++ s.drop (a + b + long) = s.drop (a + b) := by
     have h := List.take_append_drop long (s.drop (a + b))
     rw [List.drop_drop] at h
     exact h
    have e4 : encV 9 long ++ s.drop (a + b) = s.drop a := by
     have h := List.take_append_drop b (s.drop a)
     rw [List.drop_drop] at h
     rw [hl]
     exact h
    rw [e3, e4, ht, List.take_append_drop]
   by_cases c5 : t % 2 = 0
   ·have hin : Fo.inn t ((s.drop (a + b)).take long) Fo.nil.all = (s.drop (a + b)).take long := by unfold Fo.inn; rw [if_neg (by omega)]
    simp only [if_pos c5]
    refine ⟨?_, ?_, ⟨t64, trivial, r3⟩, trivial⟩
    ·show encV 9 t ++ (encV 9 (Fo.inn t ((s.drop (a + b)).take long) Fo.nil.all).length ++ (Fo.inn t ((s.drop (a + b)).take long) Fo.nil.all ++ _)) = s
     rw [hin, r1, hcl]; exact hsplit
    ·simp only [Fo.right, Bool.and_eq_true, decide_eq_true_eq]
     refine ⟨⟨⟨by omega, ?_⟩, trivial⟩, r2⟩
     rw [if_neg (by omega)]; rfl
   ·rw [if_neg c5] at hk0
    obtain ⟨k1, k2, k3, -⟩ := ih ((s.drop (a + b)).take long) (deep + 1) (at_ + a + b) (by omega) (by omega) hk0
    simp only [if_neg c5]
    have hin : Fo.inn t [] ((gt n ((s.drop (a + b)).take long) (deep + 1) (at_ + a + b)).1).all = (s.drop (a + b)).take long := by unfold Fo.inn; rw [if_pos (by omega), k1]
    refine ⟨?_, ?_, ⟨t64, k3, r3⟩, trivial⟩
    ·show encV 9 t ++ (encV 9 (Fo.inn t [] _).length ++ (Fo.inn t [] _ ++ _)) = s
     rw [hin, r1, hcl]; exact hsplit
    ·simp only [Fo.right, Bool.and_eq_true, decide_eq_true_eq]
     refine ⟨⟨⟨by omega, ?_⟩, k2⟩, r2⟩
     rw [if_pos (by omega)]; rfl
end Go.Proofs.YtleidkpdpabkpaaGreatDoor
