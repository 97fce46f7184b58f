/- What ValidClasses stands on: VadCls. -/
import Derived.Test.YtljjaikejfoanaaGreatXM0
import Derived.Test.YtljjaikejfoanaaGreatXM32
set_option linter.unusedSimpArgs false
set_option linter.unusedVariables false
namespace Go.Proofs.YtljjaikejfoanaaGreat
open Go.RowKit
def clsB (key : List UInt8) (k : NdF) : Bool := match gtF clsS k with
 | none => false
 | some y => decide (y.1.text = key)
def anyC (key : List UInt8) : NdF → Bool
 | .nil => false
 | .cons _ k r => clsB key k || anyC key r
def usedX (pk : NdF) (key : List UInt8) : Bool := (match gtF defS pk with | none => decide (([] : List UInt8) = key) | some y => decide (y.1.text = key)) || anyC key pk
theorem anyC_app {key : List UInt8} {g : NdF} : ∀ {f : NdF}, anyC key (f.app g) = (anyC key f || anyC key g) := by
 intro f
 induction f with
 | nil => rfl
 | cons a k r _ ih => simp only [Fr.app, anyC, ih, Bool.or_assoc]
theorem anyC_next {key : List UInt8} {f : NdF} {i : Nat} {a : NdD} {k : NdF} (h : f.get? i = some (a, k)) : anyC key (Fr.take (i + 1) f) = (anyC key (Fr.take i f) || clsB key k) := by
 rw [(Fr.get_drop h).2, anyC_app]; simp [anyC]
theorem anyC_iff {key : List UInt8} : ∀ {f : NdF}, anyC key f = true ↔ ∃ m a k, f.get? m = some (a, k) ∧ clsB key k = true := by
 intro f
 induction f with
 | nil => exact ⟨fun h => (by cases h), fun ⟨m, a, k, h, _⟩ => (by cases h)⟩
 | cons a k r _ ih =>
  simp only [anyC, Bool.or_eq_true]
  rw [ih]
  constructor
  ·rintro (h | ⟨m, b, q, h1, h2⟩)
   ·exact ⟨0, a, k, rfl, h⟩
   ·exact ⟨m + 1, b, q, h1, h2⟩
  ·rintro ⟨m, b, q, h1, h2⟩
   cases m with
   | zero => injection h1 with h1; injection h1 with e1 e2; subst e1 e2; exact .inl h2
   | succ m => exact .inr ⟨m, b, q, h1, h2⟩
theorem clsB_iff {key : List UInt8} {k : NdF} : clsB key k = true ↔ ∃ y, gtF clsS k = some y ∧ y.1.text = key := by
 unfold clsB
 cases gtF clsS k with
 | none => simp
 | some y => simp
theorem table_port : (([1, 2, 3] : List Nat).all fun v => match downX (rootD, rootF v) [nPort] with
 | none => false
 | some p => (inner p.2).all (fun y => (findX nClass y.2).isNone || decide (y.1.name = nRule)) && (match findX nDefault p.2 with
  | none => false
  | some i => match p.2.get? i with
   | none => false
   | some d => d.1.must && decide (d.1.kind = 1))) = true := by decide
theorem root_port {v : Int} {p : Sp} (h : (rootX v).2 = 0) (hd : downX (rootX v).1 [nPort] = some p) :
  (∀ i y j, p.2.get? i = some y → findX nClass y.2 = some j → y.1.name = nRule) ∧ ∃ i d, findX nDefault p.2 = some i ∧ p.2.get? i = some d ∧ d.1.must = true ∧ d.1.kind = 1 := by
 obtain ⟨n, hn, e⟩ := root_cases h
 rw [e] at hd
 have h2 := List.all_eq_true.1 table_port n hn
 rw [hd] at h2
 simp only [Bool.and_eq_true, List.all_eq_true] at h2
 refine ⟨fun i y j hy hj => ?_, ?_⟩
 ·have h3 := h2.1 y (inner_get hy)
  rw [hj] at h3
  simpa using h3
 ·have h3 := h2.2
  cases hi : findX nDefault p.2 with
  | none => rw [hi] at h3; cases h3
  | some i =>
   rw [hi] at h3
   simp only at h3
   cases hg : p.2.get? i with
   | none => rw [hg] at h3; cases h3
   | some d =>
    rw [hg] at h3
    simp only [Bool.and_eq_true, decide_eq_true_eq] at h3
    exact ⟨i, d, rfl, hg, h3.1, h3.2⟩
structure PortOk (v : Int) (a : NdD) (f : NdF) (pa : NdD) (pk : NdF) : Prop where
 row : rgtF f = true
 is : gtF (nPort, pa.key) f = some (pa, pk)
 right : rgtF pk = true
 refs : portX pk = none
 down : ∃ p, downX (rootX v).1 [nPort] = some p ∧ insideX p.2 pk = none
theorem port_ok {v : Int} {a : NdD} {f : NdF} {m : Nat} {pa : NdD} {pk : NdF} (h : (CheckX v (a, f)).1 = 0) (hp : f.get? m = some (pa, pk)) (hn : pa.name = nPort) (hz : pk ≠ .nil) : PortOk v a f pa pk := by
 obtain ⟨h1, h2, h3, h4⟩ := check_zero.1 h
 have hx : rgtX (a, f) = true := by
  unfold rootB at h2
  simp only [Bool.and_eq_true] at h2
  exact h2.1
 obtain ⟨z, hz1⟩ := get_gtF hp
 have hf := (right_kind (x := (a, f)) hx hz1).2.2.2
 have g1 := right_at_gt hf hp
 have e1 : stp pa = (nPort, pa.key) := by rw [← hn]; rfl
 simp only at g1
 rw [e1] at g1
 have hr := right_get hf g1
 have hrk : rgtF pk = true := by
  cases pk with
  | nil => exact absurd rfl hz
  | cons b q r =>
   obtain ⟨z2, hz2⟩ := get_gtF (f := Fr.cons b q r) (m := 0) (y := (b, q)) rfl
   exact (right_kind (x := (pa, Fr.cons b q r)) hr hz2).2.2.2
 obtain ⟨i, p, n, q1, q2, q3⟩ := scanK_at (inside_split.1 h3).1 hp
 rw [hn] at q1
 have hk : p.1.kind ≠ 1 := fun e => by
  have := (kid_leaf q3 e).2
  cases pk with
  | nil => exact absurd rfl hz
  | cons b q r => simp [Fr.len] at this
 refine ⟨hf, g1, hrk, refs_noneL.1 h4 m pa pk hp hn, p, ?_, (kid_box q3 hk).2⟩
 simp only [downX, q1, q2]
theorem class_some {v : Int} {a : NdD} {f : NdF} {m : Nat} {pa : NdD} {pk : NdF} (h : (CheckX v (a, f)).1 = 0) (hp : f.get? m = some (pa, pk)) (hn : pa.name = nPort) :
  ∃ j ca ck, pk.get? j = some (ca, ck) ∧ ca.name = nClass := by
 obtain ⟨h1, h2, h3, h4⟩ := check_zero.1 h
 obtain ⟨i, p, n, q1, q2, q3⟩ := scanK_at (inside_split.1 h3).1 hp
 rw [hn] at q1
 have hd : downX (rootX v).1 [nPort] = some p := by simp only [downX, q1, q2]
 obtain ⟨_, i2, d, d1, d2, d3, d4⟩ := root_port h1 hd
 have hk : p.1.kind ≠ 1 := fun e => by
  obtain ⟨nn, hnn, er⟩ := root_cases h1
  rw [er] at hd
  have : (([1, 2, 3] : List Nat).all fun v => match downX (rootD, rootF v) [nPort] with | none => true | some p => decide (p.1.kind ≠ 1)) = true := by decide
  have h5 := List.all_eq_true.1 this nn hnn
  rw [hd] at h5
  exact of_decide_eq_true h5 e
 have hin := inside_split.1 (kid_box q3 hk).2
 have hc := lack_none.1 hin.2 i2 d d2 d3
 rw [finC_get i2 (zeros_len _), zeros_get, Nat.zero_add] at hc
 obtain ⟨m2, b, q, hb, hf2⟩ := cnt_pos (Nat.pos_of_ne_zero hc)
 obtain ⟨i3, y3, n3, r1, r2, r3⟩ := scanK_at hin.1 hb
 rw [hf2] at r1
 injection r1 with r1
 subst r1
 rw [d2] at r2
 injection r2 with r2
 subst r2
 obtain ⟨y4, s1, s2, _⟩ := sp_get hf2
 obtain ⟨y5, s3, s4, _⟩ := sp_get d1
 rw [d2] at s1 s3
 injection s1 with s1
 injection s3 with s3
 subst s1 s3
 have es : stp b = defS := by
  have := (kid_leaf r3 d4).1
  unfold stp defS
  rw [this, ← s2, s4]
 obtain ⟨z, hz⟩ := get_gtF hb
 simp only at hz
 rw [es] at hz
 have hpn := (port_noneL.1 (refs_noneL.1 h4 m pa pk hp hn)).1
 rw [hz] at hpn
 simp only [namedB, thereB] at hpn
 cases hg : gtF (nClass, z.1.text) pk with
 | none => rw [hg] at hpn; cases hpn
 | some w =>
  obtain ⟨j, _, hj⟩ := getF_find hg
  exact ⟨j, w.1, w.2, hj, congrArg Prod.fst (getF_stp hg)⟩
theorem class_check {v : Int} {a : NdD} {f : NdF} {m j : Nat} {pa ca : NdD} {pk ck : NdF} (h : (CheckX v (a, f)).1 = 0) (hp : f.get? m = some (pa, pk)) (hn : pa.name = nPort) (hc : pk.get? j = some (ca, ck)) (hcn : ca.name = nClass) :
  getX (a, f) [(nPort, pa.key), (nClass, ca.key)] = some (ca, ck) ∧ (CheckX v (cutX (a, f) [(nPort, pa.key), (nClass, ca.key)])).1 = if usedX pk ca.key = true then 26 else 0 := by
 have hz : pk ≠ .nil := fun e => by rw [e] at hc; cases hc
 have O := port_ok h hp hn hz
 obtain ⟨h1, h2, h3, h4⟩ := check_zero.1 h
 obtain ⟨p, hpd, hpi⟩ := O.down
 have g2 := right_at_gt O.right hc
 have e2 : stp ca = (nClass, ca.key) := by rw [← hcn]; rfl
 simp only at g2
 rw [e2] at g2
 have hg : getX (a, f) [(nPort, pa.key), (nClass, ca.key)] = some (ca, ck) := by simp only [getX, O.is, g2]
 refine ⟨hg, ?_⟩
 have hx : rgtX (a, f) = true ∧ a = zeroT := by
  unfold rootB at h2
  simp only [Bool.and_eq_true, decide_eq_true_eq] at h2
  exact h2
 obtain ⟨i2, y2, n2, q1, q2, q3⟩ := scanK_at (inside_split.1 hpi).1 hc
 rw [hcn] at q1
 have hd2 : downX (rootX v).1 [nPort, nClass] = some y2 := by
  simp only [downX] at hpd ⊢
  cases hf : findX nPort (rootX v).1.2 with
  | none => rw [hf] at hpd; cases hpd
  | some i =>
   rw [hf] at hpd
   simp only at hpd ⊢
   cases hgg : (rootX v).1.2.get? i with
   | none => rw [hgg] at hpd; cases hpd
   | some w =>
    rw [hgg] at hpd
    simp only at hpd ⊢
    injection hpd with hpd
    subst hpd
    rw [q1]
    simp only
    rw [q2]
 obtain ⟨k1, k2, k3⟩ := root_cls h1 hd2
 have hid := kid_item q3 k2
 have hne : ([] : List UInt8) ≠ ca.key := fun e => by rw [← e] at hid; simp [identX] at hid
 have hl : ([(nPort, pa.key), (nClass, ca.key)] : List Stp) ≠ [] := by simp
 have hB : rootB (cutX (a, f) [(nPort, pa.key), (nClass, ca.key)]) = true := by
  unfold rootB
  rw [cut_right _ (a, f) (ca, ck) hx.1 hl hg, cut_fst]
  simp [hx.2]
 have hI := cut_inside [(nPort, pa.key), (nClass, ca.key)] (rootX v).1.1 (rootX v).1.2 a f (ca, ck) y2 hl O.row h3 hg hd2 (fun e => by rw [k3] at e; cases e)
 rw [if_neg (by simp [k3])] at hI
 have hcut : cutX (a, f) [(nPort, pa.key), (nClass, ca.key)] = (a, repF (nPort, pa.key) (pa, delF (nClass, ca.key) pk) f) := by
  rw [cut_more]
  simp only [O.is, cutX_one]
 have hD : ∀ x, (gtF (nClass, x) (delF (nClass, ca.key) pk)).isSome = ((gtF (nClass, x) pk).isSome && !decide (x = ca.key)) := by
  intro x
  by_cases e : x = ca.key
  ·subst e; rw [getF_del O.right]; simp
  ·rw [getF_del_ne (fun h => e (congrArg Prod.snd h))]; simp [e]
 have hN : ∀ o : Option Nd, namedB pk o = true → (namedB (delF (nClass, ca.key) pk) o = true ↔ ∀ y, o = some y → y.1.text ≠ ca.key) := by
  intro o ho
  cases o with
  | none => simp [namedB]
  | some y =>
   simp only [namedB, thereB] at ho ⊢
   rw [hD, ho]
   simp
 have hdef : gtF defS (delF (nClass, ca.key) pk) = gtF defS pk := getF_del_ne (fun h => absurd (show nDefault = nClass from congrArg Prod.fst h) (by decide))
 have hpo := port_noneL.1 O.refs
 have hkey : portX (delF (nClass, ca.key) pk) = none ↔ usedX pk ca.key = false := by
  rw [port_noneL, hdef, hN _ hpo.1]
  unfold usedX
  rw [Bool.or_eq_false_iff]
  constructor
  ·rintro ⟨u1, u2⟩
   refine ⟨?_, ?_⟩
   ·cases hgd : gtF defS pk with
    | none => simpa using hne
    | some y => simpa using u1 y hgd
   ·cases hany : anyC ca.key pk with
    | false => rfl
    | true =>
     obtain ⟨m3, b, q, hb, hcb⟩ := anyC_iff.1 hany
     obtain ⟨y, hy, hty⟩ := clsB_iff.1 hcb
     obtain ⟨i3, y3, n3, r1, r2, r3⟩ := scanK_at (inside_split.1 hpi).1 hb
     have hk3 : y3.1.kind ≠ 1 := fun e => by
      have := (kid_leaf r3 e).2
      cases q with
      | nil => cases hy
      | cons b q r => simp [Fr.len] at this
     obtain ⟨my, _, hay⟩ := getF_find hy
     obtain ⟨i4, y4, n4, s1, s2, s3⟩ := scanK_at (a := y.1) (k := y.2) (inside_split.1 (kid_box r3 hk3).2).1 hay
     rw [show y.1.name = nClass from congrArg Prod.fst (getF_stp hy)] at s1
     have hrn := (root_port h1 hpd).1 i3 y3 i4 r2 s1
     obtain ⟨y5, t1, t2, _⟩ := sp_get r1
     rw [r2] at t1
     injection t1 with t1
     subst t1
     have hbn : b.name = nRule := t2.symm.trans hrn
     obtain ⟨m5, hm5⟩ := at_del (t := (nClass, ca.key)) hb (fun h => absurd (show nRule = nClass from hbn.symm.trans (congrArg Prod.fst h)) (by decide))
     exact absurd hty ((hN _ (hpo.2 m3 b q hb hbn)).1 (u2 m5 b q hm5 hbn) y hy)
  ·rintro ⟨u1, u2⟩
   refine ⟨fun y hy => ?_, fun m3 b q hb hbn => ?_⟩
   ·rw [hy] at u1
    simpa using u1
   ·obtain ⟨m4, hm4⟩ := del_at hb
    refine (hN _ (hpo.2 m4 b q hm4 hbn)).2 fun y hy hty => ?_
    have : anyC ca.key pk = true := anyC_iff.2 ⟨m4, b, q, hm4, clsB_iff.2 ⟨y, hy, hty⟩⟩
    rw [u2] at this
    cases this
 have hrf : refsF (cutX (a, f) [(nPort, pa.key), (nClass, ca.key)]).2 = none ↔ portX (delF (nClass, ca.key) pk) = none := by
  rw [hcut, refs_noneL]
  constructor
  ·intro hh
   obtain ⟨m6, h6⟩ := at_rep (y' := (pa, delF (nClass, ca.key) pk)) O.is
   exact hh m6 pa _ h6 hn
  ·intro hh m6 b q hb hbn
   rcases rep_at hb with ⟨m7, h7⟩ | h7
   ·exact refs_noneL.1 h4 m7 b q h7 hbn
   ·have : q = delF (nClass, ca.key) pk := congrArg Prod.snd h7
    rw [this]; exact hh
 unfold CheckX
 rw [if_neg (by simp [h1]), if_neg (by simp [hB]), hI]
 simp only
 cases hu : usedX pk ca.key with
 | false =>
  rw [if_neg (by simp)]
  exact refs_zero.2 (hrf.2 (hkey.2 hu))
 | true =>
  rw [if_pos rfl]
  unfold RefsX
  cases hr : refsF (cutX (a, f) [(nPort, pa.key), (nClass, ca.key)]).2 with
  | none => have := hkey.1 (hrf.1 hr); rw [hu] at this; cases this
  | some b => exact (refs_err hr).1
end Go.Proofs.YtljjaikejfoanaaGreat
