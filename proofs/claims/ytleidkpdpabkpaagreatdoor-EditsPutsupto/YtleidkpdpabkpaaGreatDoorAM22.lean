/- EdvNum TrvMem TrvA TrvD TrvE TrvG VadIns RngSeq -/
import Derived.Test.YtleidkpdpabkpaaGreatDoorAM21
import Derived.BigQuiet
import Derived.Sort.Grow
import Derived.Lib.Slices
import Derived.Lib.Walk
import Derived.Shelf.Abstract
import Derived.Lib.AppendZerosOnto
import Derived.Lib.Overlaps
import Derived.RangeFuncNested
import Derived.RangeFuncBound
set_option linter.unusedSimpArgs false
set_option linter.unusedVariables false
set_option maxRecDepth 100000
set_option maxHeartbeats 8000000
namespace Go.Proofs.YtleidkpdpabkpaaGreatDoor
open Go.RowKit
def numOk18 (s : List UInt8) : Bool := decide (valB s < 18446744073709551616) && decide ((leastB (valB s)).length = s.length)
def valOk18 : List UInt8 → Bool
 | x :: y :: s => decide (x ≠ 0) && (if y = 0 then numOk18 s else (decide (y = 1) && decide (s ≠ [])))
 | _ => false
def ex18 : Fo → Nat → Bool
 | .nil, n => decide (n ≠ 0)
 | .cons t d k r, n =>
  if n = 0 then decide (t = 0) && ex18 r 1
  else if t = 2 ∧ n = 1 then decide (d ≠ []) && ex18 r 2
  else if t = 4 ∧ n ≤ 2 then valOk18 d && ex18 r 3
  else if t = 7 then ex18 k 0 && ex18 r 3
  else false
theorem bigB_val18 (s : List UInt8) : bigB (valB s) s.length = s := by
 induction hn : s.length generalizing s with
 | zero => rw [List.length_eq_zero_iff.1 hn]; rfl
 | succ n ih =>
  obtain ⟨l, x, rfl⟩ : ∃ l x, s = l ++ [x] := ⟨s.dropLast, s.getLast (by intro e; rw [e] at hn; cases hn), (List.dropLast_concat_getLast (by intro e; rw [e] at hn; cases hn)).symm⟩
  have hl : l.length = n := by simpa using hn
  rw [bigB_succ, valB_snoc]
  have hx := byte_lt x
  rw [show (valB l * 256 + x.toNat) / 256 = valB l by omega, ih l hl]
  congr 1
  congr 1
  exact UInt8.toNat.inj (by rw [UInt8.toNat_ofNat']; omega)
theorem num_least18 {s : List UInt8} (h : numOk18 s = true) : leastB (valB s) = s ∧ V18 s = valB s ∧ s.length ≤ 8 := by
 unfold numOk18 at h
 simp only [Bool.and_eq_true, decide_eq_true_eq] at h
 obtain ⟨h1, h2⟩ := h
 have h8 : (leastB (valB s)).length ≤ 8 := by unfold leastB; rw [bigB_length]; exact (lenB_spec 8 _ (by omega)).2.2
 have e : leastB (valB s) = s := by
  unfold leastB at h2 ⊢
  rw [bigB_length] at h2
  rw [h2]
  exact bigB_val18 s
 refine ⟨e, ?_, by omega⟩
 have := V_least18 (valB s) h1
 rwa [e] at this
theorem num_ok_least18 {n : Nat} (h : n < 18446744073709551616) : numOk18 (leastB n) = true := by
 have hv : valB (leastB n) = n := by
  unfold leastB
  rw [valB_bigB, Nat.mod_eq_of_lt (lenB_spec 8 n (by omega)).1]
 unfold numOk18
 rw [hv]
 simp [h]
theorem ofN_ne18 {k : Int} (h0 : k ≠ 0) (h1 : 0 ≤ k) (h2 : k ≤ 255) : UInt8.ofNat k.toNat ≠ 0 := by
 intro e
 have := congrArg UInt8.toNat e
 rw [UInt8.toNat_ofNat', Nat.mod_eq_of_lt (by omega)] at this
 have e0 : (0 : UInt8).toNat = 0 := rfl
 omega
theorem val_ok18 {a : NdD} (h : ndOk a = true) (hk : a.kind ≠ 0) (hn : a.num < 18446744073709551616) : valOk18 (valT18 leastB a) = true := by
 simp only [ndOk, Bool.and_eq_true, decide_eq_true_eq] at h
 obtain ⟨⟨⟨-, h2⟩, h3⟩, -⟩ := h
 have hx := ofN_ne18 hk h2 h3
 unfold valT18
 split
 ·simp [valOk18, hx, num_ok_least18 hn]
 ·rename_i ht
  simp [valOk18, hx, ht]
theorem ex_itm18 : ∀ f : NdF, okF18 f = true → numF18 f → ex18 (itmF18 leastB f) 3 = true ∧ ∀ a : NdD, ndOk a = true → a.num < 18446744073709551616 → ex18 (inI18 leastB a (itmF18 leastB f)) 0 = true := by
 intro f
 have step : ∀ f : NdF, ex18 (itmF18 leastB f) 3 = true → (∀ n, n ≤ 3 → n ≠ 0 → ex18 (itmF18 leastB f) n = true) → ∀ a : NdD, ndOk a = true → a.num < 18446744073709551616 → ex18 (inI18 leastB a (itmF18 leastB f)) 0 = true := by
  intro f h3 hn a ha hu
  unfold inI18
  simp only [ex18, if_true, decide_true, Bool.true_and]
  have hv : ∀ n, n = 1 ∨ n = 2 → ex18 (valI18 leastB a (itmF18 leastB f)) n = true := by
   intro n h12
   unfold valI18
   split
   ·exact hn n (by omega) (by omega)
   ·rename_i hk
    simp only [ex18]
    rw [if_neg (by omega), if_neg (by simp), if_pos ⟨trivial, by omega⟩, val_ok18 ha hk hu, h3]
    rfl
  unfold keyI18
  split
  ·exact hv 1 (.inl rfl)
  ·rename_i hk
   simp only [ex18]
   rw [if_neg (by decide), if_pos (by simp), hv 2 (.inr rfl)]
   simp [hk]
 induction f with
 | nil => intro _ _; exact ⟨rfl, step .nil rfl (fun n _ h => by simp [itmF18, ex18, h])⟩
 | cons a k r ihk ihr =>
  intro h hn
  simp only [okF18, Bool.and_eq_true] at h
  obtain ⟨⟨⟨h1, h2⟩, h3⟩, h4⟩ := h
  obtain ⟨n1, n2, n3⟩ := hn
  have hk := (ihk h3 n2).2 a h1 n1
  have hr := (ihr h4 n3).1
  have hall : ∀ n, n ≤ 3 → n ≠ 0 → ex18 (itmF18 leastB (.cons a k r)) n = true := by
   intro n hn3 hn0
   simp only [itmF18, ex18]
   rw [if_neg hn0, if_neg (by simp), if_neg (by simp), hk, hr]
   rfl
  exact ⟨hall 3 (by decide) (by decide), step _ (hall 3 (by decide) (by decide)) hall⟩
def valJ18 (v : List UInt8) (r : Fo) : Fo := if v = [] then r else .cons 4 v .nil r
def keyJ18 (v : List UInt8) (r : Fo) : Fo := if v = [] then r else .cons 2 v .nil r
theorem nil_of_len {k : Fo} (h : (k.len == 0) = true) : k = .nil := Fo.len_zero (by simpa using h)
theorem val_ne18 {d : List UInt8} (h : valOk18 d = true) : d ≠ [] := fun e => by rw [e] at h; cases h
theorem kid_text18 {k : Fo} (h : dat18 4 k = [] ∨ valOk18 (dat18 4 k) = true) (r : Fo) : keyI18 (kid18 V18 k) (valI18 leastB (kid18 V18 k) r) = keyJ18 (dat18 2 k) (valJ18 (dat18 4 k) r) := by
 have hk : (kid18 V18 k).key = dat18 2 k := by
  unfold kid18
  rcases dat18 4 k with _ | ⟨x, _ | ⟨y, s⟩⟩
  ·rfl
  ·rfl
  ·simp only
   by_cases h0 : y = 0
   ·rw [if_pos h0]
   ·rw [if_neg h0]
 have hv : valI18 leastB (kid18 V18 k) r = valJ18 (dat18 4 k) r := by
  unfold kid18 valI18 valJ18
  rcases h with h | h
  ·rw [h]; rfl
  ·rcases e : dat18 4 k with _ | ⟨x, _ | ⟨y, s⟩⟩
   ·rw [e] at h; cases h
   ·rw [e] at h; cases h
   ·rw [e] at h
    simp only [valOk18, Bool.and_eq_true, decide_eq_true_eq] at h
    obtain ⟨hx, hy⟩ := h
    have hx0 : ¬ ((x.toNat : Int) = 0) := fun e => hx (UInt8.toNat.inj (by rw [show (0 : UInt8).toNat = 0 from rfl]; omega))
    have hxo : UInt8.ofNat ((x.toNat : Int)).toNat = x := by rw [Int.toNat_natCast]; exact UInt8.toNat.inj (by rw [UInt8.toNat_ofNat', Nat.mod_eq_of_lt (byte_lt x)])
    simp only
    by_cases h0 : y = 0
    ·subst h0
     rw [if_pos rfl] at hy
     obtain ⟨k1, k2, -⟩ := num_least18 hy
     simp only [if_true]
     rw [if_neg hx0, if_neg (by simp)]
     unfold valT18
     simp only [if_true]
     rw [hxo, k2, k1]
    ·rw [if_neg h0] at hy ⊢
     simp only [Bool.and_eq_true, decide_eq_true_eq] at hy
     obtain ⟨rfl, hs⟩ := hy
     simp only
     rw [if_neg hx0, if_neg (by simp)]
     unfold valT18
     simp only
     rw [if_neg hs, hxo]
 unfold keyI18 keyJ18
 rw [hk, hv]
theorem kid_name18 (k : Fo) : (kid18 V18 k).name = dat18 0 k := by
 unfold kid18
 rcases dat18 4 k with _ | ⟨x, _ | ⟨y, s⟩⟩
 ·rfl
 ·rfl
 ·simp only
  by_cases h0 : y = 0
  ·rw [if_pos h0]
  ·rw [if_neg h0]
theorem in_all18 : ∀ (f : Fo) (deep : Nat), Fo.right deep f = true →
  (ex18 f 3 = true → itmF18 leastB (red18 V18 f) = f ∧ dat18 2 f = [] ∧ dat18 4 f = []) ∧
  (ex18 f 2 = true → f = valJ18 (dat18 4 f) (itmF18 leastB (red18 V18 f)) ∧ dat18 2 f = [] ∧ (dat18 4 f = [] ∨ valOk18 (dat18 4 f) = true)) ∧
  (ex18 f 1 = true → f = keyJ18 (dat18 2 f) (valJ18 (dat18 4 f) (itmF18 leastB (red18 V18 f))) ∧ (dat18 4 f = [] ∨ valOk18 (dat18 4 f) = true)) ∧
  (ex18 f 0 = true → inI18 leastB (kid18 V18 f) (itmF18 leastB (red18 V18 f)) = f) := by
 intro f
 induction f with
 | nil =>
  intro deep _
  exact ⟨fun _ => ⟨rfl, rfl, rfl⟩, fun _ => ⟨rfl, rfl, .inl rfl⟩, fun _ => ⟨rfl, .inl rfl⟩, fun h => by cases h⟩
 | cons t d k r ihk ihr =>
  intro deep h
  simp only [Fo.right, Bool.and_eq_true] at h
  obtain ⟨⟨⟨-, hd⟩, hk⟩, hr⟩ := h
  obtain ⟨r3, r2, r1, -⟩ := ihr _ hr
  obtain ⟨-, -, -, k0⟩ := ihk _ hk
  have key : ∀ n, n ≠ 0 → t = 7 → (ex18 k 0 && ex18 r 3) = true → itmF18 leastB (red18 V18 (.cons t d k r)) = .cons t d k r ∧ dat18 2 (.cons t d k r) = [] ∧ dat18 4 (.cons t d k r) = [] := by
   intro n hn ht he
   subst ht
   rw [Bool.and_eq_true] at he
   have hdn : d = [] := by rw [if_pos (by decide)] at hd; simpa using hd
   obtain ⟨e1, e2, e3⟩ := r3 he.2
   simp only [red18, dat18, itmF18, if_true]
   rw [k0 he.1, e1, hdn]
   exact ⟨rfl, by simpa using e2, by simpa using e3⟩
  have val : t = 4 → (valOk18 d && ex18 r 3) = true → (.cons t d k r : Fo) = valJ18 (dat18 4 (.cons t d k r)) (itmF18 leastB (red18 V18 (.cons t d k r))) ∧ dat18 2 (.cons t d k r) = [] ∧ valOk18 (dat18 4 (.cons t d k r)) = true := by
   intro ht he
   subst ht
   rw [Bool.and_eq_true] at he
   have hkn : k = .nil := by rw [if_neg (by decide)] at hd; exact nil_of_len hd
   obtain ⟨e1, e2, e3⟩ := r3 he.2
   subst hkn
   have hv : dat18 4 (.cons 4 d .nil r) = d := by simp [dat18]
   rw [hv]
   refine ⟨?_, by simpa [dat18] using e2, he.1⟩
   unfold valJ18
   rw [if_neg (val_ne18 he.1)]
   simp only [red18]
   rw [if_neg (by decide), e1]
  refine ⟨fun he => ?_, fun he => ?_, fun he => ?_, fun he => ?_⟩
  ·simp only [ex18] at he
   rw [if_neg (by decide), if_neg (by simp), if_neg (by simp)] at he
   split at he
   ·rename_i ht; exact key 3 (by decide) ht he
   ·cases he
  ·simp only [ex18] at he
   rw [if_neg (by decide), if_neg (by simp)] at he
   split at he
   ·rename_i ht; obtain ⟨e1, e2, e3⟩ := val ht.1 he; exact ⟨e1, e2, .inr e3⟩
   ·split at he
    ·rename_i ht; obtain ⟨e1, e2, e3⟩ := key 2 (by decide) ht he; rw [e3]; exact ⟨by unfold valJ18; rw [if_pos rfl, e1], e2, .inl rfl⟩
    ·cases he
  ·simp only [ex18] at he
   rw [if_neg (by decide)] at he
   split at he
   ·rename_i ht
    obtain ⟨rfl, -⟩ := ht
    rw [Bool.and_eq_true] at he
    have hkn : k = .nil := by rw [if_neg (by decide)] at hd; exact nil_of_len hd
    subst hkn
    obtain ⟨e1, e2, e3⟩ := r2 he.2
    have hdn : d ≠ [] := by simpa using he.1
    have h2 : dat18 2 (.cons 2 d .nil r) = d := by simp [dat18]
    have h4 : dat18 4 (.cons 2 d .nil r) = dat18 4 r := by simp [dat18]
    have hrd : red18 V18 (.cons 2 d .nil r) = red18 V18 r := by simp only [red18]; rw [if_neg (by decide)]
    rw [h2, h4, hrd]
    refine ⟨?_, e3⟩
    unfold keyJ18
    rw [if_neg hdn, ← e1]
   ·split at he
    ·rename_i ht; obtain ⟨e1, e2, e3⟩ := val ht.1 he; rw [e2]; exact ⟨by unfold keyJ18; rw [if_pos rfl]; exact e1, .inr e3⟩
    ·split at he
     ·rename_i ht; obtain ⟨e1, e2, e3⟩ := key 1 (by decide) ht he; rw [e2, e3]; exact ⟨by unfold keyJ18 valJ18; rw [if_pos rfl, if_pos rfl, e1], .inl rfl⟩
     ·cases he
  ·simp only [ex18, if_true, Bool.and_eq_true, decide_eq_true_eq] at he
   obtain ⟨rfl, he⟩ := he
   have hkn : k = .nil := by rw [if_neg (by decide)] at hd; exact nil_of_len hd
   subst hkn
   obtain ⟨e1, e2⟩ := r1 he
   have h2 : dat18 2 (.cons 0 d .nil r) = dat18 2 r := by simp [dat18]
   have h4 : dat18 4 (.cons 0 d .nil r) = dat18 4 r := by simp [dat18]
   have h0 : dat18 0 (.cons 0 d .nil r) = d := by simp [dat18]
   have hrd : red18 V18 (.cons 0 d .nil r) = red18 V18 r := by simp only [red18]; rw [if_neg (by decide)]
   unfold inI18
   rw [kid_text18 (by rw [h4]; exact e2), kid_name18, h0, h2, h4, hrd, ← e1]
def nodeL18 (v : Nat) : Fo → Option Fo
 | .nil => none
 | .cons u _ q z => if u = v ∧ ex18 q 0 = true then some z else none
def exR18 (kd : Nat) (r : Fo) : Bool := match (if kd = 2 then some r else nodeL18 3 r) with
 | none => false
 | some s => match (if kd = 1 then some s else nodeL18 5 s) with
  | none => false
  | some z => decide (z = .nil)
def exO18 (t : Nat) : Fo → Bool
 | .nil => false
 | .cons u d _ r => decide (t % 2 = 1) && (decide (u = 2) && (decide ((parseX15 d).2.1 = 0) && exR18 (t / 2) r))
def exE18 : Fo → Bool
 | .nil => true
 | .cons t _ k r => exO18 t k && exE18 r
def devO18 (t : Nat) (k : Fo) : EdD := ⟨((t / 2 : Nat) : Int), (parseX15 (dat18 2 k)).1, read18 V18 3 k, read18 V18 5 k⟩
def devE18 : Fo → List EdD
 | .nil => []
 | .cons t _ k r => devO18 t k :: devE18 r
theorem node_left18 {v : Nat} {f z : Fo} {deep : Nat} (hv : v % 2 = 1) (h : nodeL18 v f = some z) (hr : Fo.right deep f = true) : f = itm18 leastB v (read18 V18 v f) z ∧ Fo.right deep z = true ∧ ∀ u, u ≠ v → read18 V18 u f = read18 V18 u z := by
 cases f with
 | nil => cases h
 | cons u d q y =>
  simp only [nodeL18] at h
  split at h
  ·rename_i h1
   obtain ⟨rfl, h2⟩ := h1
   injection h with h
   subst h
   simp only [Fo.right, Bool.and_eq_true] at hr
   obtain ⟨⟨⟨-, hd⟩, hk⟩, hz⟩ := hr
   have hdn : d = [] := by rw [if_pos hv] at hd; simpa using hd
   subst hdn
   refine ⟨?_, hz, fun x hx => by simp only [read18]; rw [if_neg (fun e => hx e.symm)]⟩
   unfold itm18
   simp only [read18, if_true]
   rw [(in_all18 q _ hk).2.2.2 h2]
  ·cases h
theorem one_its18 {t : Nat} {k : Fo} {deep : Nat} (h : exO18 t k = true) (hr : Fo.right deep k = true) :
  (2 * (devO18 t k).kind + 1).toNat = t ∧ (.cons 2 (showX (devO18 t k).way) .nil (if (devO18 t k).kind = 2 then (if (devO18 t k).kind = 1 then .nil else itm18 leastB 5 (devO18 t k).old .nil) else itm18 leastB 3 (devO18 t k).node (if (devO18 t k).kind = 1 then .nil else itm18 leastB 5 (devO18 t k).old .nil)) : Fo) = k := by
 cases k with
 | nil => cases h
 | cons u d q r =>
  simp only [exO18, Bool.and_eq_true, decide_eq_true_eq] at h
  obtain ⟨h1, rfl, h3, h4⟩ := h
  simp only [Fo.right, Bool.and_eq_true] at hr
  obtain ⟨⟨⟨-, hd⟩, -⟩, hr⟩ := hr
  have hqn : q = .nil := by rw [if_neg (by decide)] at hd; exact nil_of_len hd
  subst hqn
  have hw : showX (parseX15 d).1 = d := by
   rcases parse_ways d with ⟨w, e1, -, -, e2⟩ | ⟨e, a, e1, e2, -⟩
   ·rw [e1]; exact e2
   ·rw [e1] at h3; exact absurd h3 e2
  have hdd : dat18 2 (.cons 2 d .nil r) = d := by simp [dat18]
  have hn : ∀ v, v ≠ 2 → read18 V18 v (.cons 2 d .nil r) = read18 V18 v r := fun v hv => by simp only [read18]; rw [if_neg (fun e => hv e.symm)]
  unfold devO18
  simp only
  rw [hdd, hn 3 (by decide), hn 5 (by decide), hw]
  refine ⟨by omega, ?_⟩
  congr 1
  unfold exR18 at h4
  by_cases k2 : t / 2 = 2
  ·rw [if_pos k2] at h4
   simp only at h4
   rw [if_neg (show ¬ t / 2 = 1 by omega)] at h4
   rw [if_pos (by omega), if_neg (by omega)]
   cases e5 : nodeL18 5 r with
   | none => rw [e5] at h4; cases h4
   | some z =>
    rw [e5] at h4
    have hz : z = .nil := by simpa using h4
    subst hz
    exact (node_left18 (by decide) e5 hr).1.symm
  ·rw [if_neg k2] at h4
   rw [if_neg (by omega)]
   cases e3 : nodeL18 3 r with
   | none => rw [e3] at h4; cases h4
   | some s =>
    rw [e3] at h4
    simp only at h4
    obtain ⟨g1, g2, g3⟩ := node_left18 (by decide) e3 hr
    rw [g3 5 (by decide)]
    by_cases k1 : t / 2 = 1
    ·rw [if_pos k1] at h4
     have hz : s = .nil := by simpa using h4
     subst hz
     rw [if_pos (by omega)]
     exact g1.symm
    ·rw [if_neg k1] at h4
     rw [if_neg (by omega)]
     cases e5 : nodeL18 5 s with
     | none => rw [e5] at h4; cases h4
     | some z =>
      rw [e5] at h4
      have hz : z = .nil := by simpa using h4
      subst hz
      rw [← (node_left18 (by decide) e5 g2).1]
      exact g1.symm
theorem ex_its18 : ∀ (f : Fo) (deep : Nat), exE18 f = true → Fo.right deep f = true → itsE18 leastB (devE18 f) = f := by
 intro f
 induction f with
 | nil => intro _ _ _; rfl
 | cons t d k r _ ih =>
  intro deep h hr
  simp only [exE18, Bool.and_eq_true] at h
  simp only [Fo.right, Bool.and_eq_true] at hr
  obtain ⟨⟨⟨-, hd⟩, hk⟩, hr⟩ := hr
  obtain ⟨e1, e2⟩ := one_its18 h.1 hk
  have ht : t % 2 = 1 := by
   have h1 := h.1
   unfold exO18 at h1
   cases k with
   | nil => cases h1
   | cons => simp only [Bool.and_eq_true, decide_eq_true_eq] at h1; exact h1.1
  have hdn : d = [] := by rw [if_pos ht] at hd; simpa using hd
  subst hdn
  simp only [devE18, itsE18]
  rw [ih _ h.2 hr, e1, e2]
theorem its_ex18 : ∀ l : List EdD, (∀ e ∈ l, okE18 e = true ∧ numN18 e.node ∧ numN18 e.old) → exE18 (itsE18 leastB l) = true ∧ devE18 (itsE18 leastB l) = l := by
 intro l
 induction l with
 | nil => intro _; exact ⟨rfl, rfl⟩
 | cons e l ih =>
  intro h
  obtain ⟨h1, n1, n2⟩ := h e (by simp)
  obtain ⟨i1, i2⟩ := ih (fun x hx => h x (by simp [hx]))
  have hb := edits_back (L := leastB) (V := V18) V_least18 [e] (fun x hx => by rw [List.mem_singleton.1 hx]; exact ⟨h1, n1, n2⟩)
  obtain ⟨k, w, p, o⟩ := e
  simp only [okE18, Bool.and_eq_true, Bool.or_eq_true, decide_eq_true_eq] at h1
  obtain ⟨⟨⟨⟨⟨⟨hk, hw⟩, hs⟩, hp⟩, ho⟩, kp⟩, ko⟩ := h1
  simp only at hk hw hs hp ho kp ko n1 n2
  have hx : ∀ x : Nd, okN18 x = true → numN18 x → ex18 (inI18 leastB x.1 (itmF18 leastB x.2)) 0 = true := fun x h hn => by
   simp only [okN18, Bool.and_eq_true] at h
   exact (ex_itm18 x.2 h.2 hn.2).2 x.1 h.1.1 hn.1
  have hl : ∀ (v : Nat) (x : Nd) (z : Fo), okN18 x = true → numN18 x → nodeL18 v (itm18 leastB v x z) = some z := fun v x z h hn => by
   unfold itm18
   simp only [nodeL18]
   rw [if_pos ⟨trivial, hx x h hn⟩]
  have hps := parse_show hs
  have ht : ((2 * k + 1).toNat) / 2 = k.toNat ∧ ((2 * k + 1).toNat) % 2 = 1 := by rcases hk with (rfl | rfl) | rfl <;> decide
  refine ⟨?_, ?_⟩
  ·simp only [itsE18, exE18, exO18, hps, ht.1, ht.2, i1]
   simp only [decide_true, Bool.true_and, Bool.and_true]
   unfold exR18
   rcases hk with (rfl | rfl) | rfl
   ·simp [hl 3 p .nil kp n1]
   ·simp [hl 5 o .nil ko n2]
   ·simp [hl 3 p _ kp n1, hl 5 o .nil ko n2]
  ·simp only [itsE18, redE18] at hb
   simp only [itsE18, devE18, i2]
   congr 1
   injection hb with hb _
   injection hb with b1 b2 b3 b4
   unfold devO18
   rw [ht.1, b2, b3, b4]
   congr 1
   omega
theorem dev_red18 : ∀ f : Fo, (devE18 f).all okE18 = true → redE18 V18 f = devE18 f := by
 intro f
 induction f with
 | nil => intro _; rfl
 | cons t d k r _ ih =>
  intro h
  simp only [devE18, List.all_cons, Bool.and_eq_true] at h
  simp only [devE18, redE18]
  rw [ih h.2]
  congr 1
  have hk := h.1
  simp only [okE18, Bool.and_eq_true, Bool.or_eq_true, decide_eq_true_eq] at hk
  have hk := hk.1.1.1.1.1.1
  unfold devO18 at hk ⊢
  simp only at hk
  congr 1
  omega
theorem get_dev18 {b : List UInt8} (h0 : (got18 b).2.1 = 0) (hb : b.length ≤ 100000) : getX18 leastB V18 b = if exE18 (got18 b).1 = true ∧ (devE18 (got18 b).1).all okE18 = true then (devE18 (got18 b).1, 0) else ([], 11) := by
 have hg : (got18 b).1.all = b ∧ Fo.right 1 (got18 b).1 = true ∧ (got18 b).1.fit ∧ b.length ≤ 8192 := by
  unfold got18 at h0 ⊢
  split at h0
  ·cases h0
  ·rename_i h8
   rw [if_neg h8]
   have h := gt_own b.length b 1 0 (Nat.le_refl _) (by omega) h0
   exact ⟨h.1, h.2.1, h.2.2.1, by omega⟩
 obtain ⟨g1, g2, g3, g4⟩ := hg
 unfold getX18
 rw [if_neg (by rw [h0]; simp)]
 obtain ⟨f, hf⟩ : ∃ f, f = (got18 b).1 := ⟨_, rfl⟩
 rw [← hf] at g1 g2 g3 ⊢
 clear hf h0
 by_cases hx : exE18 f = true ∧ (devE18 f).all okE18 = true
 ·rw [if_pos hx, dev_red18 f hx.2]
  have hi := ex_its18 f 1 hx.1 g2
  have hp : putX18 leastB (devE18 f) = (b, 0) := put_ok.2 ⟨hx.2, by rw [hi]; exact g2, by rw [hi, g1]; exact g4, by rw [hi, g1]⟩
  rw [hp]
  simp
 ·rw [if_neg hx, if_pos ?_]
  by_cases hq : (putX18 leastB (redE18 V18 f)).2 ≠ 0
  ·exact .inl hq
  ·refine .inr fun he => hx ?_
   have hp : putX18 leastB (redE18 V18 f) = (b, 0) := Prod.ext he (by simpa using hq)
   obtain ⟨p1, p2, p3, p4⟩ := put_ok.1 hp
   have hi : itsE18 leastB (redE18 V18 f) = f := all_inj (fit_its _ p1) g3 p2 g2 p3 (by rw [← p4, g1])
   have hsz := right_sz18 f 1 g2
   rw [g1] at hsz
   obtain ⟨k1, -, -⟩ := redE_ok18 f (by omega)
   have hn : ∀ e ∈ redE18 V18 f, okE18 e = true ∧ numN18 e.node ∧ numN18 e.old := fun e he => ⟨List.all_eq_true.1 p1 e he, ⟨(k1 e he).nodeT.1.num, num_ok18 _ (k1 e he).nodeT.2⟩, ⟨(k1 e he).oldT.1.num, num_ok18 _ (k1 e he).oldT.2⟩⟩
   obtain ⟨q1, q2⟩ := its_ex18 _ hn
   rw [hi] at q1 q2
   rw [q2]
   exact ⟨q1, p1⟩
structure After (w : World) where
 w' : World
 h : Below w.heap.size w w'
instance (w : World) : Inhabited (After w) := ⟨⟨w, Below.refl _ _⟩⟩
theorem After.cell {w : World} (p : After w) {b o : Nat} {v : Value} (hb : b < w.heap.size) (h : w.cell? ⟨b, o, none⟩ = some v) : p.w'.cell? ⟨b, o, none⟩ = some v := (p.h.cell (p := ⟨b, o, none⟩) hb).trans h
def Grw (v : Value) (w : World) (r : Ending) (w' : World) : Prop := r = .returned v ∧ ∃ q os, w' = Go.Sort.grow (w.drewN q) os
theorem Grw.alloc {w : World} (o : Obj) : w.alloc o = Go.Sort.grow (w.drewN 0) #[o] := Go.Sort.alloc_eq_grow w o
def OwnT (w : World) (base : Nat) : NdF → List Value → List Nat → Prop
 | .nil, xs, F => xs = [] ∧ F = []
 | .cons a k r, xs, F => ∃ (ys zs : List Value) (F0 F2 : List Nat) (v : Value), xs = ndC a v ++ ys ∧ F = (v.ownBlock.toList ++ F0) ++ F2 ∧
   OwnK 42 6 w base v k.len zs ∧ OwnT w base k zs F0 ∧ OwnT w base r ys F2
def OwnU (w : World) (base : Nat) (v : Value) (k : NdF) (F : List Nat) : Prop := ∃ zs F0, F = v.ownBlock.toList ++ F0 ∧ OwnK 42 6 w base v k.len zs ∧ OwnT w base k zs F0
section
variable {w w' : World} {base base' : Nat} {f g : NdF} {xs ys : List Value} {F G : List Nat}
theorem OwnT.cons_iff {a : NdD} {k r : NdF} : OwnT w base (.cons a k r) xs F ↔ ∃ v ys F1 F2, xs = ndC a v ++ ys ∧ F = F1 ++ F2 ∧ OwnU w base v k F1 ∧ OwnT w base r ys F2 := by
 constructor
 ·intro ⟨ys, zs, F0, F2, v, h1, h2, h6, h7, h8⟩
  exact ⟨v, ys, _, F2, h1, h2, ⟨zs, F0, rfl, h6, h7⟩, h8⟩
 ·intro ⟨v, ys, F1, F2, h1, h2, ⟨zs, F0, h9, h6, h7⟩, h8⟩
  exact ⟨ys, zs, F0, F2, v, h1, by rw [h2, h9], h6, h7, h8⟩
theorem OwnK.keep {e : TypeId} {k n : Nat} {v : Value} (h : OwnK e k w base v n xs) (hk : ∀ g, v.ownBlock = some g → w'.heap[g]? = w.heap[g]?) : OwnK e k w' base v n xs := by
 refine ⟨h.1, ?_⟩
 rcases h.2 with ⟨rfl, h0⟩ | ⟨g, cap, cur, rfl, hb, hg, hrest⟩
 ·exact .inl ⟨rfl, h0⟩
 ·exact .inr ⟨g, cap, cur, rfl, hb, (hk g rfl).trans hg, hrest⟩
theorem OwnT.keep (hb : base' ≤ base) : ∀ {f : NdF} {xs : List Value} {F : List Nat}, (∀ g, g ∈ F → w'.heap[g]? = w.heap[g]?) → OwnT w base f xs F → OwnT w' base' f xs F := by
 intro f
 induction f with
 | nil => intro xs F _ h; exact h
 | cons a k r ihk ihr =>
  intro xs F hF ⟨ys, zs, F0, F2, v, h1, h2, h6, h7, h8⟩
  subst h2
  exact ⟨ys, zs, F0, F2, v, h1, rfl, (h6.keep (fun g hg => hF g (by simp [hg]))).mono hb, ihk (fun g hg => hF g (by simp [hg])) h7, ihr (fun g hg => hF g (by simp [hg])) h8⟩
theorem OwnU.keep {v : Value} {k : NdF} (h : OwnU w base v k F) (hF : ∀ g, g ∈ F → w'.heap[g]? = w.heap[g]?) (hb : base' ≤ base) : OwnU w' base' v k F := by
 obtain ⟨zs, F0, rfl, h1, h2⟩ := h
 exact ⟨zs, F0, rfl, (h1.keep (fun g hg => hF g (by simp [hg]))).mono hb, h2.keep hb (fun g hg => hF g (by simp [hg]))⟩
theorem OwnK.fresh {e : TypeId} {k n : Nat} {v : Value} (h : OwnK e k w base v n xs) {g : Nat} (hg : v.ownBlock = some g) : Fresh9 base w g := by
 rcases h.2 with ⟨rfl, h0⟩ | ⟨g', cap, cur, rfl, hb, hg', hrest⟩
 ·cases hg
 ·injection hg with hg
  subst hg
  exact ⟨hb, cur, _, hg'⟩
theorem OwnT.fresh : ∀ {f : NdF} {xs : List Value} {F : List Nat}, OwnT w base f xs F → ∀ g, g ∈ F → Fresh9 base w g := by
 intro f
 induction f with
 | nil => intro xs F h g hg; rw [h.2] at hg; cases hg
 | cons a k r ihk ihr =>
  intro xs F ⟨ys, zs, F0, F2, v, h1, h2, h6, h7, h8⟩ g hg
  subst h2
  simp only [List.mem_append, Option.mem_toList] at hg
  rcases hg with (hg | hg) | hg
  ·exact h6.fresh hg
  ·exact ihk h7 g hg
  ·exact ihr h8 g hg
theorem OwnU.fresh {v : Value} {k : NdF} (h : OwnU w base v k F) : ∀ g, g ∈ F → Fresh9 base w g := by
 obtain ⟨zs, F0, rfl, h1, h2⟩ := h
 intro g hg
 simp only [List.mem_append, Option.mem_toList] at hg
 rcases hg with hg | hg
 ·exact h1.fresh hg
 ·exact h2.fresh g hg
theorem OwnT.below (h : OwnT w base f xs F) (hb : Below w.heap.size w w') : OwnT w' base f xs F := h.keep (Nat.le_refl _) (fun g hg => hb.block g (h.fresh g hg).lt)
theorem OwnU.below {v : Value} {k : NdF} (h : OwnU w base v k F) (hb : Below w.heap.size w w') : OwnU w' base v k F := h.keep (fun g hg => hb.block g (h.fresh g hg).lt) (Nat.le_refl _)
theorem OwnK.frv {S : Nat → Prop} {v : Value} {k : NdF} (h : OwnK 42 6 w base v k.len xs) (hr : rowG NdA 6 5 w S noB xs k) (hS : ∀ g, v.ownBlock = some g → S g) : FrV NdA 6 5 w S noB v k := by
 have hh := h
 rcases h.2 with ⟨rfl, h0⟩ | ⟨g, cap, cur, rfl, hb, hg, hnc, hcm, hcs, ht⟩
 ·exact ⟨none, 0, by rw [h0], by omega, fun h => absurd h (by omega)⟩
 ·refine ⟨_, cap, rfl, hnc, fun h0 => ⟨g, 0, rfl, hS g rfl, hr.at (fun j u hj => ?_)⟩⟩
  have hjl : j < xs.length := (List.getElem?_eq_some_iff.1 hj).1
  have hxl : xs.length = k.len * 6 := h.1
  rw [World.ownsRow.cellAt hh (0 + j) (by omega), Nat.zero_add, hj]
theorem OwnK.aligned {n : Nat} {v : Value} (h : OwnK 42 6 w base v n xs) {a : NdD} : ∀ b o m c, (ndC a v)[5]? = some (.slice (some ⟨b, o, none⟩) m c) → o % 6 = 0 := by
 intro b o m c e
 have e2 : v = .slice (some ⟨b, o, none⟩) m c := by simpa using e
 rcases h.2 with ⟨rfl, h0⟩ | ⟨g, cap, cur, rfl, hrest⟩
 ·cases e2
 ·injection e2 with e2
  injection e2 with e2
  injection e2 with _ e3
  rw [← e3]
theorem OwnT.row {S : Nat → Prop} : ∀ {f : NdF} {xs : List Value} {F : List Nat}, (∀ g, g ∈ F → S g) → OwnT w base f xs F → rowG NdA 6 5 w S noB xs f := by
 intro f
 induction f with
 | nil => intro xs F _ h; exact h.1
 | cons a k r ihk ihr =>
  intro xs F hF ⟨ys, zs, F0, F2, v, h1, h2, h6, h7, h8⟩
  subst h2
  have hv : v.oneCell' = true := by obtain ⟨A, c, rfl⟩ := h6.shape; rfl
  exact ⟨ndC a v, ys, h1, ⟨rfl, ⟨⟨v, rfl, hv⟩, h6.aligned⟩, v, rfl, h6.frv (ihk (fun g hg => hF g (by simp [hg])) h7) (fun g hg => hF g (by simp [hg]))⟩, ihr (fun g hg => hF g (by simp [hg])) h8⟩
theorem OwnU.frv {v : Value} {k : NdF} (h : OwnU w base v k F) : FrV NdA 6 5 w (fun g => g ∈ F) noB v k := by
 obtain ⟨zs, F0, rfl, h1, h2⟩ := h
 exact h1.frv (h2.row (fun g hg => by simp [hg])) (fun g hg => by simp [hg])
theorem OwnU.shape {v : Value} {k : NdF} (h : OwnU w base v k F) : ∃ A c, v = .slice A k.len c := by
 obtain ⟨zs, F0, rfl, h1, h2⟩ := h
 exact h1.shape
theorem OwnU.new {v : Value} {a : NdD} {k : NdF} (h : OwnU w base v k F) : NewT base w (ndC a v) (a, k) := by
 refine ⟨fun g => g ∈ F, h.fresh, rfl, ⟨⟨v, rfl, ?_⟩, ?_⟩, v, rfl, h.frv⟩
 ·obtain ⟨A, c, rfl⟩ := h.shape; rfl
 ·obtain ⟨zs, F0, rfl, h1, h2⟩ := h
  exact h1.aligned
theorem OwnU.lies {v : Value} {a : NdD} {k : NdF} (h : OwnU w base v k F) : LieN w (ndC a v) (a, k) := (h.new (a := a)).lies
theorem OwnT.app (h2 : OwnT w base g ys G) : ∀ {f : NdF} {xs : List Value} {F : List Nat}, OwnT w base f xs F → OwnT w base (f.app g) (xs ++ ys) (F ++ G) := by
 intro f
 induction f with
 | nil => intro xs F h; rw [h.1, h.2]; exact h2
 | cons a k r ihk ihr =>
  intro xs F ⟨zs, us, F0, F2, v, h1, h2, h6, h7, h8⟩
  subst h1 h2
  exact ⟨zs ++ ys, us, F0, F2 ++ G, v, by simp, by simp, h6, h7, ihr h8⟩
theorem OwnT.one {a : NdD} {k : NdF} {v : Value} (h : OwnU w base v k F) : OwnT w base (.cons a k .nil) (ndC a v) F := OwnT.cons_iff.2 ⟨v, [], F, [], by simp, by simp, h, rfl, rfl⟩
theorem OwnT.split (n : Nat) : ∀ {f : NdF} {xs : List Value} {F : List Nat}, OwnT w base f xs F → ∃ xs1 xs2 F1 F2, xs = xs1 ++ xs2 ∧ F = F1 ++ F2 ∧ OwnT w base (Fr.take n f) xs1 F1 ∧ OwnT w base (Fr.drop n f) xs2 F2 := by
 induction n with
 | zero => intro f xs F h; exact ⟨[], xs, [], F, rfl, rfl, by cases f <;> exact ⟨rfl, rfl⟩, by cases f <;> exact h⟩
 | succ n ih =>
  intro f xs F h
  cases f with
  | nil => exact ⟨[], xs, [], F, rfl, rfl, ⟨rfl, rfl⟩, h⟩
  | cons a k r =>
   obtain ⟨v, ys, F1, F2, rfl, rfl, h1, h2⟩ := OwnT.cons_iff.1 h
   obtain ⟨ys1, ys2, G1, G2, rfl, rfl, h3, h4⟩ := ih h2
   exact ⟨ndC a v ++ ys1, ys2, F1 ++ G1, G2, by simp, by simp, OwnT.cons_iff.2 ⟨v, ys1, F1, G1, rfl, rfl, h1, h3⟩, h4⟩
theorem OwnT.len (h : OwnT w base f xs F) : xs.length = f.len * 6 := (h.row (S := fun g => g ∈ F) (fun _ h => h)).len
theorem OwnT.at (h : OwnT w base f xs F) {i : Nat} {a : NdD} {k : NdF} (hy : f.get? i = some (a, k)) : ∃ xs1 v xs2 F1 Fk F2, xs = xs1 ++ (ndC a v ++ xs2) ∧ F = F1 ++ (Fk ++ F2) ∧ xs1.length = i * 6 ∧ OwnT w base (Fr.take i f) xs1 F1 ∧ OwnU w base v k Fk ∧ OwnT w base (Fr.drop (i + 1) f) xs2 F2 := by
 obtain ⟨xs1, xs2, F1, F2, rfl, rfl, h1, h2⟩ := h.split i
 rw [(Fr.get_drop hy).1] at h2
 obtain ⟨v, ys, G1, G2, rfl, rfl, h3, h4⟩ := OwnT.cons_iff.1 h2
 exact ⟨xs1, v, ys, F1, G1, G2, rfl, rfl, by rw [h1.len, Fr.len_take _ _ (by have := Fr.get_lt hy; omega)], h1, h3, h4⟩
end
def Keeps (base : Nat) (F : List Nat) (w w' : World) : Prop := Below base w w' ∧ ∀ g, g < w.heap.size → g ∉ F → w'.heap[g]? = w.heap[g]?
theorem Keeps.refl (base : Nat) (F : List Nat) (w : World) : Keeps base F w w := ⟨Below.refl _ _, fun _ _ _ => rfl⟩
theorem Keeps.trans {base : Nat} {F G : List Nat} {a b c : World} (h : Keeps base F a b) (k : Keeps base G b c) (hG : ∀ g, g ∈ G → g ∈ F ∨ a.heap.size ≤ g) : Keeps base F a c :=
 ⟨h.1.trans k.1, fun g hg hF => (k.2 g (Nat.lt_of_lt_of_le hg h.1.size) (fun hm => by rcases hG g hm with h' | h'; exact hF h'; omega)).trans (h.2 g hg hF)⟩
theorem Blk.newA {w : World} {g : Nat} (h : w.heap.size = g) (t : TypeId) (cs : Array Value) : Blk (w.alloc (.cells cs t)) g t cs := by subst h; exact Blk.new w t cs
theorem LieN.one {b : Nat} {w : World} {cs : List Value} {x : Nd} (h : LieB b w cs x) : ∃ v, cs = ndC x.1 v ∧ v.oneCell' = true := by
 obtain ⟨A, c, h, _⟩ := h.shape
 exact ⟨_, h, rfl⟩
def NodeAt (w : World) (g o : Nat) (x : Nd) : Prop := g < w.heap.size ∧ ∃ A c, (∀ j u, (ndC x.1 (.slice A x.2.len c))[j]? = some u → w.cell? ⟨g, o + j, none⟩ = some u) ∧ RowT w.heap.size w (.slice A x.2.len c) x.2
theorem NodeAt.below {w w' : World} {g o : Nat} {x : Nd} (h : NodeAt w g o x) (hb : Below w.heap.size w w') : NodeAt w' g o x := by
 obtain ⟨h0, A, c, h1, h2⟩ := h
 exact ⟨Nat.lt_of_lt_of_le h0 hb.size, A, c, fun j u hu => (hb.cell (p := ⟨g, o + j, none⟩) h0).trans (h1 j u hu), h2.below hb⟩
def CopI (w : World) (M : Nat) (f : NdF) (v : Value) (j : Nat) (wr : World) : Prop := ∃ zs rest F, OwnK 42 6 wr w.heap.size v f.len (zs ++ rest) ∧ OwnT wr w.heap.size (Fr.take j f) zs F ∧ rowG NdT 6 5 w (fun g => g < w.heap.size) noB rest (Fr.drop j f) ∧ F.Nodup ∧ ∀ g, g ∈ F → M ≤ g
theorem CopI.keep {w wr wr' : World} {M j : Nat} {f : NdF} {v : Value} (h : CopI w M f v j wr) (hk : ∀ g, (v.ownBlock = some g ∨ M ≤ g) → g < wr.heap.size → wr'.heap[g]? = wr.heap[g]?) : CopI w M f v j wr' := by
 obtain ⟨zs, rest, F, h1, h2, h3, h4, h5⟩ := h
 exact ⟨zs, rest, F, h1.keep (fun g hg => hk g (.inl hg) (h1.lt g hg).2), h2.keep (Nat.le_refl _) (fun g hg => hk g (.inr (h5 g hg)) (h2.fresh g hg).lt), h3, h4, h5⟩
def InsP9 (base : Nat) (v : Value) (n : Nat) (xs : List Value) (w : World) (r : Ending) (w' : World) : Prop :=
 ∃ v', r = .returned v' ∧ OwnK 42 6 w' base v' (n + 1) xs ∧ w.grownBy w' v.ownBlock ∧ (v'.ownBlock = v.ownBlock ∨ ∃ g, v'.ownBlock = some g ∧ w.heap.size ≤ g)
theorem InsP9.app {base n : Nat} {v v' : Value} {xs : List Value} {w w' : World} (h : AppK 42 6 w base v (n + 1) xs v' w') : InsP9 base v n xs w (.returned v') w' :=
 ⟨v', rfl, h.1, h.2.1, by rcases h.2.2.1 with h | h; exact .inl h; exact .inr ⟨_, h, Nat.le_refl _⟩⟩
def InsPs (base : Nat) (v : Value) (n : Nat) (xs : List Value) (w : World) (r : Ending) (w' : World) : Prop :=
 ∃ v', r = .returned v' ∧ OwnK 52 2 w' base v' (n + 1) xs ∧ w.grownBy w' v.ownBlock ∧ (v'.ownBlock = v.ownBlock ∨ ∃ g, v'.ownBlock = some g ∧ w.heap.size ≤ g)
theorem InsPs.app {base n : Nat} {v v' : Value} {xs : List Value} {w w' : World} (h : AppK 52 2 w base v (n + 1) xs v' w') : InsPs base v n xs w (.returned v') w' :=
 ⟨v', rfl, h.1, h.2.1, by rcases h.2.2.1 with h | h; exact .inl h; exact .inr ⟨_, h, Nat.le_refl _⟩⟩
structure KeepN (N : Nat → Prop) (m : Nat) (A B : World) : Prop where
 os : B.os = A.os
 tape : B.tape = A.tape
 output : B.output = A.output
 size : A.heap.size ≤ B.heap.size
 block : ∀ k, k < A.heap.size → (N k ∨ m ≤ k) → B.heap[k]? = A.heap[k]?
section
variable {N N' : Nat → Prop} {m m' : Nat} {A B C : World}
theorem KeepN.refl (N : Nat → Prop) (m : Nat) (A : World) : KeepN N m A A := ⟨rfl, rfl, rfl, Nat.le_refl _, fun _ _ _ => rfl⟩
theorem KeepN.trans (h : KeepN N m A B) (k : KeepN N m B C) : KeepN N m A C :=
 ⟨k.os.trans h.os, k.tape.trans h.tape, k.output.trans h.output, Nat.le_trans h.size k.size, fun i hi hn => (k.block i (Nat.lt_of_lt_of_le hi h.size) hn).trans (h.block i hi hn)⟩
theorem KeepN.below (h : Below A.heap.size A B) : KeepN N m A B := ⟨h.os, h.tape, h.output, h.size, fun k hk _ => h.block k hk⟩
theorem KeepN.mono (h : KeepN N m A B) (hN : ∀ k, k < A.heap.size → (N' k ∨ m' ≤ k) → N k ∨ m ≤ k) : KeepN N' m' A B := ⟨h.os, h.tape, h.output, h.size, fun k hk hn => h.block k hk (hN k hk hn)⟩
theorem KeepN.from (h : KeepN N m A B) (hm : m ≤ m') : KeepsFrom m' A B := ⟨h.size, fun k o hk ho _ => (h.block k (Array.getElem?_eq_some_iff.1 ho).1 (.inr (Nat.le_trans hm hk))).trans ho⟩
end
def StB (B : Nat) (J : World → Prop) : Prop := ∀ A A', J A → Below B A A' → J A'
theorem StB.mono {B B' : Nat} {J : World → Prop} (h : StB B J) (hb : B ≤ B') : StB B' J := fun A A' hj hB => h A A' hj (hB.mono hb)
theorem StB.below {w : World} {B : Nat} : StB B (fun W => Below B w W) := fun _ _ h k => h.trans k
section
variable {P : Program} {n : Nat} {g : Operand} {ps : Array Tmp} {assign body : Code} {Q : Exit → Act → World → Prop} {a : Act} {w : World} {gf : Nat} {lb : Array Value} {w0 : World}
end
end Go.Proofs.YtleidkpdpabkpaaGreatDoor
