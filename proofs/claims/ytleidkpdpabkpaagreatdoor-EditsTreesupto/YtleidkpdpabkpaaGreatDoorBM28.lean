/- EdvNum VadDat EdvC -/
import Derived.Test.YtleidkpdpabkpaaGreatDoorBM21
import Derived.Test.YtleidkpdpabkpaaGreatDoorBM27
set_option linter.unusedSimpArgs false
set_option linter.unusedVariables false
set_option maxRecDepth 100000
set_option maxHeartbeats 8000000
namespace Go.Proofs.YtleidkpdpabkpaaGreatDoor
open Go.RowKit
def numOk18 (s : List UInt8) : Bool := decide (valB s < 18446744073709551616) && decide ((leastB (valB s)).length = s.length)
def valOk18 : List UInt8 → Bool
 | x :: y :: s => decide (x ≠ 0) && (if y = 0 then numOk18 s else (decide (y = 1) && decide (s ≠ [])))
 | _ => false
def ex18 : Fo → Nat → Bool
 | .nil, n => decide (n ≠ 0)
 | .cons t d k r, n =>
  if n = 0 then decide (t = 0) && ex18 r 1
  else if t = 2 ∧ n = 1 then decide (d ≠ []) && ex18 r 2
  else if t = 4 ∧ n ≤ 2 then valOk18 d && ex18 r 3
  else if t = 7 then ex18 k 0 && ex18 r 3
  else false
theorem bigB_val18 (s : List UInt8) : bigB (valB s) s.length = s := by
 induction hn : s.length generalizing s with
 | zero => rw [List.length_eq_zero_iff.1 hn]; rfl
 | succ n ih =>
  obtain ⟨l, x, rfl⟩ : ∃ l x, s = l ++ [x] := ⟨s.dropLast, s.getLast (by intro e; rw [e] at hn; cases hn), (List.dropLast_concat_getLast (by intro e; rw [e] at hn; cases hn)).symm⟩
  have hl : l.length = n := by simpa using hn
  rw [bigB_succ, valB_snoc]
  have hx := byte_lt x
  rw [show (valB l * 256 + x.toNat) / 256 = valB l by omega, ih l hl]
  congr 1
  congr 1
  exact UInt8.toNat.inj (by rw [UInt8.toNat_ofNat']; omega)
theorem num_least18 {s : List UInt8} (h : numOk18 s = true) : leastB (valB s) = s ∧ V18 s = valB s ∧ s.length ≤ 8 := by
 unfold numOk18 at h
 simp only [Bool.and_eq_true, decide_eq_true_eq] at h
 obtain ⟨h1, h2⟩ := h
 have h8 : (leastB (valB s)).length ≤ 8 := by unfold leastB; rw [bigB_length]; exact (lenB_spec 8 _ (by omega)).2.2
 have e : leastB (valB s) = s := by
  unfold leastB at h2 ⊢
  rw [bigB_length] at h2
  rw [h2]
  exact bigB_val18 s
 refine ⟨e, ?_, by omega⟩
 have := V_least18 (valB s) h1
 rwa [e] at this
theorem num_ok_least18 {n : Nat} (h : n < 18446744073709551616) : numOk18 (leastB n) = true := by
 have hv : valB (leastB n) = n := by
  unfold leastB
  rw [valB_bigB, Nat.mod_eq_of_lt (lenB_spec 8 n (by omega)).1]
 unfold numOk18
 rw [hv]
 simp [h]
theorem ofN_ne18 {k : Int} (h0 : k ≠ 0) (h1 : 0 ≤ k) (h2 : k ≤ 255) : UInt8.ofNat k.toNat ≠ 0 := by
 intro e
 have := congrArg UInt8.toNat e
 rw [UInt8.toNat_ofNat', Nat.mod_eq_of_lt (by omega)] at this
 have e0 : (0 : UInt8).toNat = 0 := rfl
 omega
theorem val_ok18 {a : NdD} (h : ndOk a = true) (hk : a.kind ≠ 0) (hn : a.num < 18446744073709551616) : valOk18 (valT18 leastB a) = true := by
 simp only [ndOk, Bool.and_eq_true, decide_eq_true_eq] at h
 obtain ⟨⟨⟨-, h2⟩, h3⟩, -⟩ := h
 have hx := ofN_ne18 hk h2 h3
 unfold valT18
 split
 ·simp [valOk18, hx, num_ok_least18 hn]
 ·rename_i ht
  simp [valOk18, hx, ht]
theorem ex_itm18 : ∀ f : NdF, okF18 f = true → numF18 f → ex18 (itmF18 leastB f) 3 = true ∧ ∀ a : NdD, ndOk a = true → a.num < 18446744073709551616 → ex18 (inI18 leastB a (itmF18 leastB f)) 0 = true := by
 intro f
 have step : ∀ f : NdF, ex18 (itmF18 leastB f) 3 = true → (∀ n, n ≤ 3 → n ≠ 0 → ex18 (itmF18 leastB f) n = true) → ∀ a : NdD, ndOk a = true → a.num < 18446744073709551616 → ex18 (inI18 leastB a (itmF18 leastB f)) 0 = true := by
  intro f h3 hn a ha hu
  unfold inI18
  simp only [ex18, if_true, decide_true, Bool.true_and]
  have hv : ∀ n, n = 1 ∨ n = 2 → ex18 (valI18 leastB a (itmF18 leastB f)) n = true := by
   intro n h12
   unfold valI18
   split
   ·exact hn n (by omega) (by omega)
   ·rename_i hk
    simp only [ex18]
    rw [if_neg (by omega), if_neg (by simp), if_pos ⟨trivial, by omega⟩, val_ok18 ha hk hu, h3]
    rfl
  unfold keyI18
  split
  ·exact hv 1 (.inl rfl)
  ·rename_i hk
   simp only [ex18]
   rw [if_neg (by decide), if_pos (by simp), hv 2 (.inr rfl)]
   simp [hk]
 induction f with
 | nil => intro _ _; exact ⟨rfl, step .nil rfl (fun n _ h => by simp [itmF18, ex18, h])⟩
 | cons a k r ihk ihr =>
  intro h hn
  simp only [okF18, Bool.and_eq_true] at h
  obtain ⟨⟨⟨h1, h2⟩, h3⟩, h4⟩ := h
  obtain ⟨n1, n2, n3⟩ := hn
  have hk := (ihk h3 n2).2 a h1 n1
  have hr := (ihr h4 n3).1
  have hall : ∀ n, n ≤ 3 → n ≠ 0 → ex18 (itmF18 leastB (.cons a k r)) n = true := by
   intro n hn3 hn0
   simp only [itmF18, ex18]
   rw [if_neg hn0, if_neg (by simp), if_neg (by simp), hk, hr]
   rfl
  exact ⟨hall 3 (by decide) (by decide), step _ (hall 3 (by decide) (by decide)) hall⟩
def valJ18 (v : List UInt8) (r : Fo) : Fo := if v = [] then r else .cons 4 v .nil r
def keyJ18 (v : List UInt8) (r : Fo) : Fo := if v = [] then r else .cons 2 v .nil r
theorem nil_of_len {k : Fo} (h : (k.len == 0) = true) : k = .nil := Fo.len_zero (by simpa using h)
theorem val_ne18 {d : List UInt8} (h : valOk18 d = true) : d ≠ [] := fun e => by rw [e] at h; cases h
theorem kid_text18 {k : Fo} (h : dat18 4 k = [] ∨ valOk18 (dat18 4 k) = true) (r : Fo) : keyI18 (kid18 V18 k) (valI18 leastB (kid18 V18 k) r) = keyJ18 (dat18 2 k) (valJ18 (dat18 4 k) r) := by
 have hk : (kid18 V18 k).key = dat18 2 k := by
  unfold kid18
  rcases dat18 4 k with _ | ⟨x, _ | ⟨y, s⟩⟩
  ·rfl
  ·rfl
  ·simp only
   by_cases h0 : y = 0
   ·rw [if_pos h0]
   ·rw [if_neg h0]
 have hv : valI18 leastB (kid18 V18 k) r = valJ18 (dat18 4 k) r := by
  unfold kid18 valI18 valJ18
  rcases h with h | h
  ·rw [h]; rfl
  ·rcases e : dat18 4 k with _ | ⟨x, _ | ⟨y, s⟩⟩
   ·rw [e] at h; cases h
   ·rw [e] at h; cases h
   ·rw [e] at h
    simp only [valOk18, Bool.and_eq_true, decide_eq_true_eq] at h
    obtain ⟨hx, hy⟩ := h
    have hx0 : ¬ ((x.toNat : Int) = 0) := fun e => hx (UInt8.toNat.inj (by rw [show (0 : UInt8).toNat = 0 from rfl]; omega))
    have hxo : UInt8.ofNat ((x.toNat : Int)).toNat = x := by rw [Int.toNat_natCast]; exact UInt8.toNat.inj (by rw [UInt8.toNat_ofNat', Nat.mod_eq_of_lt (byte_lt x)])
    simp only
    by_cases h0 : y = 0
    ·subst h0
     rw [if_pos rfl] at hy
     obtain ⟨k1, k2, -⟩ := num_least18 hy
     simp only [if_true]
     rw [if_neg hx0, if_neg (by simp)]
     unfold valT18
     simp only [if_true]
     rw [hxo, k2, k1]
    ·rw [if_neg h0] at hy ⊢
     simp only [Bool.and_eq_true, decide_eq_true_eq] at hy
     obtain ⟨rfl, hs⟩ := hy
     simp only
     rw [if_neg hx0, if_neg (by simp)]
     unfold valT18
     simp only
     rw [if_neg hs, hxo]
 unfold keyI18 keyJ18
 rw [hk, hv]
theorem kid_name18 (k : Fo) : (kid18 V18 k).name = dat18 0 k := by
 unfold kid18
 rcases dat18 4 k with _ | ⟨x, _ | ⟨y, s⟩⟩
 ·rfl
 ·rfl
 ·simp only
  by_cases h0 : y = 0
  ·rw [if_pos h0]
  ·rw [if_neg h0]
theorem in_all18 : ∀ (f : Fo) (deep : Nat), Fo.right deep f = true →
  (ex18 f 3 = true → itmF18 leastB (red18 V18 f) = f ∧ dat18 2 f = [] ∧ dat18 4 f = []) ∧
  (ex18 f 2 = true → f = valJ18 (dat18 4 f) (itmF18 leastB (red18 V18 f)) ∧ dat18 2 f = [] ∧ (dat18 4 f = [] ∨ valOk18 (dat18 4 f) = true)) ∧
  (ex18 f 1 = true → f = keyJ18 (dat18 2 f) (valJ18 (dat18 4 f) (itmF18 leastB (red18 V18 f))) ∧ (dat18 4 f = [] ∨ valOk18 (dat18 4 f) = true)) ∧
  (ex18 f 0 = true → inI18 leastB (kid18 V18 f) (itmF18 leastB (red18 V18 f)) = f) := by
 intro f
 induction f with
 | nil =>
  intro deep _
  exact ⟨fun _ => ⟨rfl, rfl, rfl⟩, fun _ => ⟨rfl, rfl, .inl rfl⟩, fun _ => ⟨rfl, .inl rfl⟩, fun h => by cases h⟩
 | cons t d k r ihk ihr =>
  intro deep h
  simp only [Fo.right, Bool.and_eq_true] at h
  obtain ⟨⟨⟨-, hd⟩, hk⟩, hr⟩ := h
  obtain ⟨r3, r2, r1, -⟩ := ihr _ hr
  obtain ⟨-, -, -, k0⟩ := ihk _ hk
  have key : ∀ n, n ≠ 0 → t = 7 → (ex18 k 0 && ex18 r 3) = true → itmF18 leastB (red18 V18 (.cons t d k r)) = .cons t d k r ∧ dat18 2 (.cons t d k r) = [] ∧ dat18 4 (.cons t d k r) = [] := by
   intro n hn ht he
   subst ht
   rw [Bool.and_eq_true] at he
   have hdn : d = [] := by rw [if_pos (by decide)] at hd; simpa using hd
   obtain ⟨e1, e2, e3⟩ := r3 he.2
   simp only [red18, dat18, itmF18, if_true]
   rw [k0 he.1, e1, hdn]
   exact ⟨rfl, by simpa using e2, by simpa using e3⟩
  have val : t = 4 → (valOk18 d && ex18 r 3) = true → (.cons t d k r : Fo) = valJ18 (dat18 4 (.cons t d k r)) (itmF18 leastB (red18 V18 (.cons t d k r))) ∧ dat18 2 (.cons t d k r) = [] ∧ valOk18 (dat18 4 (.cons t d k r)) = true := by
   intro ht he
   subst ht
   rw [Bool.and_eq_true] at he
   have hkn : k = .nil := by rw [if_neg (by decide)] at hd; exact nil_of_len hd
   obtain ⟨e1, e2, e3⟩ := r3 he.2
   subst hkn
   have hv : dat18 4 (.cons 4 d .nil r) = d := by simp [dat18]
   rw [hv]
   refine ⟨?_, by simpa [dat18] using e2, he.1⟩
   unfold valJ18
   rw [if_neg (val_ne18 he.1)]
   simp only [red18]
   rw [if_neg (by decide), e1]
  refine ⟨fun he => ?_, fun he => ?_, fun he => ?_, fun he => ?_⟩
  ·simp only [ex18] at he
   rw [if_neg (by decide), if_neg (by simp), if_neg (by simp)] at he
   split at he
   ·rename_i ht; exact key 3 (by decide) ht he
   ·cases he
  ·simp only [ex18] at he
   rw [if_neg (by decide), if_neg (by simp)] at he
   split at he
   ·rename_i ht; obtain ⟨e1, e2, e3⟩ := val ht.1 he; exact ⟨e1, e2, .inr e3⟩
   ·split at he
    ·rename_i ht; obtain ⟨e1, e2, e3⟩ := key 2 (by decide) ht he; rw [e3]; exact ⟨by unfold valJ18; rw [if_pos rfl, e1], e2, .inl rfl⟩
    ·cases he
  ·simp only [ex18] at he
   rw [if_neg (by decide)] at he
   split at he
   ·rename_i ht
    obtain ⟨rfl, -⟩ := ht
    rw [Bool.and_eq_true] at he
    have hkn : k = .nil := by rw [if_neg (by decide)] at hd; exact nil_of_len hd
    subst hkn
    obtain ⟨e1, e2, e3⟩ := r2 he.2
    have hdn : d ≠ [] := by simpa using he.1
    have h2 : dat18 2 (.cons 2 d .nil r) = d := by simp [dat18]
    have h4 : dat18 4 (.cons 2 d .nil r) = dat18 4 r := by simp [dat18]
    have hrd : red18 V18 (.cons 2 d .nil r) = red18 V18 r := by simp only [red18]; rw [if_neg (by decide)]
    rw [h2, h4, hrd]
    refine ⟨?_, e3⟩
    unfold keyJ18
    rw [if_neg hdn, ← e1]
   ·split at he
    ·rename_i ht; obtain ⟨e1, e2, e3⟩ := val ht.1 he; rw [e2]; exact ⟨by unfold keyJ18; rw [if_pos rfl]; exact e1, .inr e3⟩
    ·split at he
     ·rename_i ht; obtain ⟨e1, e2, e3⟩ := key 1 (by decide) ht he; rw [e2, e3]; exact ⟨by unfold keyJ18 valJ18; rw [if_pos rfl, if_pos rfl, e1], .inl rfl⟩
     ·cases he
  ·simp only [ex18, if_true, Bool.and_eq_true, decide_eq_true_eq] at he
   obtain ⟨rfl, he⟩ := he
   have hkn : k = .nil := by rw [if_neg (by decide)] at hd; exact nil_of_len hd
   subst hkn
   obtain ⟨e1, e2⟩ := r1 he
   have h2 : dat18 2 (.cons 0 d .nil r) = dat18 2 r := by simp [dat18]
   have h4 : dat18 4 (.cons 0 d .nil r) = dat18 4 r := by simp [dat18]
   have h0 : dat18 0 (.cons 0 d .nil r) = d := by simp [dat18]
   have hrd : red18 V18 (.cons 0 d .nil r) = red18 V18 r := by simp only [red18]; rw [if_neg (by decide)]
   unfold inI18
   rw [kid_text18 (by rw [h4]; exact e2), kid_name18, h0, h2, h4, hrd, ← e1]
def nodeL18 (v : Nat) : Fo → Option Fo
 | .nil => none
 | .cons u _ q z => if u = v ∧ ex18 q 0 = true then some z else none
def exR18 (kd : Nat) (r : Fo) : Bool := match (if kd = 2 then some r else nodeL18 3 r) with
 | none => false
 | some s => match (if kd = 1 then some s else nodeL18 5 s) with
  | none => false
  | some z => decide (z = .nil)
def exO18 (t : Nat) : Fo → Bool
 | .nil => false
 | .cons u d _ r => decide (t % 2 = 1) && (decide (u = 2) && (decide ((parseX15 d).2.1 = 0) && exR18 (t / 2) r))
def exE18 : Fo → Bool
 | .nil => true
 | .cons t _ k r => exO18 t k && exE18 r
def devO18 (t : Nat) (k : Fo) : EdD := ⟨((t / 2 : Nat) : Int), (parseX15 (dat18 2 k)).1, read18 V18 3 k, read18 V18 5 k⟩
def devE18 : Fo → List EdD
 | .nil => []
 | .cons t _ k r => devO18 t k :: devE18 r
theorem node_left18 {v : Nat} {f z : Fo} {deep : Nat} (hv : v % 2 = 1) (h : nodeL18 v f = some z) (hr : Fo.right deep f = true) : f = itm18 leastB v (read18 V18 v f) z ∧ Fo.right deep z = true ∧ ∀ u, u ≠ v → read18 V18 u f = read18 V18 u z := by
 cases f with
 | nil => cases h
 | cons u d q y =>
  simp only [nodeL18] at h
  split at h
  ·rename_i h1
   obtain ⟨rfl, h2⟩ := h1
   injection h with h
   subst h
   simp only [Fo.right, Bool.and_eq_true] at hr
   obtain ⟨⟨⟨-, hd⟩, hk⟩, hz⟩ := hr
   have hdn : d = [] := by rw [if_pos hv] at hd; simpa using hd
   subst hdn
   refine ⟨?_, hz, fun x hx => by simp only [read18]; rw [if_neg (fun e => hx e.symm)]⟩
   unfold itm18
   simp only [read18, if_true]
   rw [(in_all18 q _ hk).2.2.2 h2]
  ·cases h
theorem one_its18 {t : Nat} {k : Fo} {deep : Nat} (h : exO18 t k = true) (hr : Fo.right deep k = true) :
  (2 * (devO18 t k).kind + 1).toNat = t ∧ (.cons 2 (showX (devO18 t k).way) .nil (if (devO18 t k).kind = 2 then (if (devO18 t k).kind = 1 then .nil else itm18 leastB 5 (devO18 t k).old .nil) else itm18 leastB 3 (devO18 t k).node (if (devO18 t k).kind = 1 then .nil else itm18 leastB 5 (devO18 t k).old .nil)) : Fo) = k := by
 cases k with
 | nil => cases h
 | cons u d q r =>
  simp only [exO18, Bool.and_eq_true, decide_eq_true_eq] at h
  obtain ⟨h1, rfl, h3, h4⟩ := h
  simp only [Fo.right, Bool.and_eq_true] at hr
  obtain ⟨⟨⟨-, hd⟩, -⟩, hr⟩ := hr
  have hqn : q = .nil := by rw [if_neg (by decide)] at hd; exact nil_of_len hd
  subst hqn
  have hw : showX (parseX15 d).1 = d := by
   rcases parse_ways d with ⟨w, e1, -, -, e2⟩ | ⟨e, a, e1, e2, -⟩
   ·rw [e1]; exact e2
   ·rw [e1] at h3; exact absurd h3 e2
  have hdd : dat18 2 (.cons 2 d .nil r) = d := by simp [dat18]
  have hn : ∀ v, v ≠ 2 → read18 V18 v (.cons 2 d .nil r) = read18 V18 v r := fun v hv => by simp only [read18]; rw [if_neg (fun e => hv e.symm)]
  unfold devO18
  simp only
  rw [hdd, hn 3 (by decide), hn 5 (by decide), hw]
  refine ⟨by omega, ?_⟩
  congr 1
  unfold exR18 at h4
  by_cases k2 : t / 2 = 2
  ·rw [if_pos k2] at h4
   simp only at h4
   rw [if_neg (show ¬ t / 2 = 1 by omega)] at h4
   rw [if_pos (by omega), if_neg (by omega)]
   cases e5 : nodeL18 5 r with
   | none => rw [e5] at h4; cases h4
   | some z =>
    rw [e5] at h4
    have hz : z = .nil := by simpa using h4
    subst hz
    exact (node_left18 (by decide) e5 hr).1.symm
  ·rw [if_neg k2] at h4
   rw [if_neg (by omega)]
   cases e3 : nodeL18 3 r with
   | none => rw [e3] at h4; cases h4
   | some s =>
    rw [e3] at h4
    simp only at h4
    obtain ⟨g1, g2, g3⟩ := node_left18 (by decide) e3 hr
    rw [g3 5 (by decide)]
    by_cases k1 : t / 2 = 1
    ·rw [if_pos k1] at h4
     have hz : s = .nil := by simpa using h4
     subst hz
     rw [if_pos (by omega)]
     exact g1.symm
    ·rw [if_neg k1] at h4
     rw [if_neg (by omega)]
     cases e5 : nodeL18 5 s with
     | none => rw [e5] at h4; cases h4
     | some z =>
      rw [e5] at h4
      have hz : z = .nil := by simpa using h4
      subst hz
      rw [← (node_left18 (by decide) e5 g2).1]
      exact g1.symm
theorem ex_its18 : ∀ (f : Fo) (deep : Nat), exE18 f = true → Fo.right deep f = true → itsE18 leastB (devE18 f) = f := by
 intro f
 induction f with
 | nil => intro _ _ _; rfl
 | cons t d k r _ ih =>
  intro deep h hr
  simp only [exE18, Bool.and_eq_true] at h
  simp only [Fo.right, Bool.and_eq_true] at hr
  obtain ⟨⟨⟨-, hd⟩, hk⟩, hr⟩ := hr
  obtain ⟨e1, e2⟩ := one_its18 h.1 hk
  have ht : t % 2 = 1 := by
   have h1 := h.1
   unfold exO18 at h1
   cases k with
   | nil => cases h1
   | cons => simp only [Bool.and_eq_true, decide_eq_true_eq] at h1; exact h1.1
  have hdn : d = [] := by rw [if_pos ht] at hd; simpa using hd
  subst hdn
  simp only [devE18, itsE18]
  rw [ih _ h.2 hr, e1, e2]
theorem its_ex18 : ∀ l : List EdD, (∀ e ∈ l, okE18 e = true ∧ numN18 e.node ∧ numN18 e.old) → exE18 (itsE18 leastB l) = true ∧ devE18 (itsE18 leastB l) = l := by
 intro l
 induction l with
 | nil => intro _; exact ⟨rfl, rfl⟩
 | cons e l ih =>
  intro h
  obtain ⟨h1, n1, n2⟩ := h e (by simp)
  obtain ⟨i1, i2⟩ := ih (fun x hx => h x (by simp [hx]))
  have hb := edits_back (L := leastB) (V := V18) V_least18 [e] (fun x hx => by rw [List.mem_singleton.1 hx]; exact ⟨h1, n1, n2⟩)
  obtain ⟨k, w, p, o⟩ := e
  simp only [okE18, Bool.and_eq_true, Bool.or_eq_true, decide_eq_true_eq] at h1
  obtain ⟨⟨⟨⟨⟨⟨hk, hw⟩, hs⟩, hp⟩, ho⟩, kp⟩, ko⟩ := h1
  simp only at hk hw hs hp ho kp ko n1 n2
  have hx : ∀ x : Nd, okN18 x = true → numN18 x → ex18 (inI18 leastB x.1 (itmF18 leastB x.2)) 0 = true := fun x h hn => by
   simp only [okN18, Bool.and_eq_true] at h
   exact (ex_itm18 x.2 h.2 hn.2).2 x.1 h.1.1 hn.1
  have hl : ∀ (v : Nat) (x : Nd) (z : Fo), okN18 x = true → numN18 x → nodeL18 v (itm18 leastB v x z) = some z := fun v x z h hn => by
   unfold itm18
   simp only [nodeL18]
   rw [if_pos ⟨trivial, hx x h hn⟩]
  have hps := parse_show hs
  have ht : ((2 * k + 1).toNat) / 2 = k.toNat ∧ ((2 * k + 1).toNat) % 2 = 1 := by rcases hk with (rfl | rfl) | rfl <;> decide
  refine ⟨?_, ?_⟩
  ·simp only [itsE18, exE18, exO18, hps, ht.1, ht.2, i1]
   simp only [decide_true, Bool.true_and, Bool.and_true]
   unfold exR18
   rcases hk with (rfl | rfl) | rfl
   ·simp [hl 3 p .nil kp n1]
   ·simp [hl 5 o .nil ko n2]
   ·simp [hl 3 p _ kp n1, hl 5 o .nil ko n2]
  ·simp only [itsE18, redE18] at hb
   simp only [itsE18, devE18, i2]
   congr 1
   injection hb with hb _
   injection hb with b1 b2 b3 b4
   unfold devO18
   rw [ht.1, b2, b3, b4]
   congr 1
   omega
theorem dev_red18 : ∀ f : Fo, (devE18 f).all okE18 = true → redE18 V18 f = devE18 f := by
 intro f
 induction f with
 | nil => intro _; rfl
 | cons t d k r _ ih =>
  intro h
  simp only [devE18, List.all_cons, Bool.and_eq_true] at h
  simp only [devE18, redE18]
  rw [ih h.2]
  congr 1
  have hk := h.1
  simp only [okE18, Bool.and_eq_true, Bool.or_eq_true, decide_eq_true_eq] at hk
  have hk := hk.1.1.1.1.1.1
  unfold devO18 at hk ⊢
  simp only at hk
  congr 1
  omega
theorem get_dev18 {b : List UInt8} (h0 : (got18 b).2.1 = 0) (hb : b.length ≤ 100000) : getX18 leastB V18 b = if exE18 (got18 b).1 = true ∧ (devE18 (got18 b).1).all okE18 = true then (devE18 (got18 b).1, 0) else ([], 11) := by
 have hg : (got18 b).1.all = b ∧ Fo.right 1 (got18 b).1 = true ∧ (got18 b).1.fit ∧ b.length ≤ 8192 := by
  unfold got18 at h0 ⊢
  split at h0
  ·cases h0
  ·rename_i h8
   rw [if_neg h8]
   have h := gt_own b.length b 1 0 (Nat.le_refl _) (by omega) h0
   exact ⟨h.1, h.2.1, h.2.2.1, by omega⟩
 obtain ⟨g1, g2, g3, g4⟩ := hg
 unfold getX18
 rw [if_neg (by rw [h0]; simp)]
 obtain ⟨f, hf⟩ : ∃ f, f = (got18 b).1 := ⟨_, rfl⟩
 rw [← hf] at g1 g2 g3 ⊢
 clear hf h0
 by_cases hx : exE18 f = true ∧ (devE18 f).all okE18 = true
 ·rw [if_pos hx, dev_red18 f hx.2]
  have hi := ex_its18 f 1 hx.1 g2
  have hp : putX18 leastB (devE18 f) = (b, 0) := put_ok.2 ⟨hx.2, by rw [hi]; exact g2, by rw [hi, g1]; exact g4, by rw [hi, g1]⟩
  rw [hp]
  simp
 ·rw [if_neg hx, if_pos ?_]
  by_cases hq : (putX18 leastB (redE18 V18 f)).2 ≠ 0
  ·exact .inl hq
  ·refine .inr fun he => hx ?_
   have hp : putX18 leastB (redE18 V18 f) = (b, 0) := Prod.ext he (by simpa using hq)
   obtain ⟨p1, p2, p3, p4⟩ := put_ok.1 hp
   have hi : itsE18 leastB (redE18 V18 f) = f := all_inj (fit_its _ p1) g3 p2 g2 p3 (by rw [← p4, g1])
   have hsz := right_sz18 f 1 g2
   rw [g1] at hsz
   obtain ⟨k1, -, -⟩ := redE_ok18 f (by omega)
   have hn : ∀ e ∈ redE18 V18 f, okE18 e = true ∧ numN18 e.node ∧ numN18 e.old := fun e he => ⟨List.all_eq_true.1 p1 e he, ⟨(k1 e he).nodeT.1.num, num_ok18 _ (k1 e he).nodeT.2⟩, ⟨(k1 e he).oldT.1.num, num_ok18 _ (k1 e he).oldT.2⟩⟩
   obtain ⟨q1, q2⟩ := its_ex18 _ hn
   rw [hi] at q1 q2
   rw [q2]
   exact ⟨q1, p1⟩
def DatP (s : List UInt8) (w : World) (r : Ending) (w' : World) : Prop := ∃ v, r = .returned v ∧ DataI w' (MineI w.heap.size w') v s ∧ Below w.heap.size w w'
theorem DatP.from {s : List UInt8} {w W : World} {r : Ending} {w' : World} (h : DatP s W r w') (hb : Below w.heap.size w W) : DatP s w r w' := by
 obtain ⟨v, h1, ⟨db, h2, h3⟩, h4⟩ := h
 exact ⟨v, h1, ⟨db, h2, fun h0 => ⟨Nat.le_trans hb.size (h3 h0).1, (h3 h0).2⟩⟩, hb.trans (h4.mono hb.size)⟩
theorem datP_big {x n : Nat} {w : World} {r : Ending} {w' : World} (h : BigAny x n w r w') : DatP (bigB x n) w r w' := by
 obtain ⟨v, h1, h2, h3, h4⟩ := h
 exact ⟨v, h1, ⟨_, h2, fun h0 => ⟨Nat.le_refl _, h2.lt h0⟩⟩, h3⟩
theorem bytes_rd (w : World) (s : List UInt8) (e : TypeId) (n : Nat × Nat) (c : Nat) (hs : s.length ≤ 1048576) (hc : s.length ≤ c) : Rd (w.drew.alloc (.cells (bytesRow (txt s) c) e n)) w.heap.size (.slice (some ⟨w.heap.size, 0, none⟩) s.length c) s := by
 refine ⟨_, _, rfl, hc, by omega, fun _ => ⟨0, rfl, fun j b hj => ?_⟩⟩
 have hlt := (List.getElem?_eq_some_iff.1 hj).1
 have hb : (w.drew.alloc (.cells (bytesRow (txt s) c) e n)).heap[w.heap.size]? = some (.cells (bytesRow (txt s) c) e n) := heap_alloc_new w.drew _
 rw [Nat.zero_add, cell_of_row _ _ _ _ _ _ hb]
 unfold bytesRow
 have hd : (txt s).data = s.toArray := rfl
 rw [hd, Array.getElem?_append_left (by simpa using hlt)]
 simp [hj, byteV]
section
attribute [local go_sem] Oper.semAt_some
theorem Tryz.infoT18 : (Tryz.prog.info? 58).map (fun i => (i.zero, i.size, i.bytes)) = some (some (.agg #[.int .u64 0, .slice none 0 0, .slice none 0 0]), 3, 56) := by kernel_rfl
theorem zeroI18 : (Value.agg #[.int .u64 0, .slice none 0 0, .slice none 0 0]).cells.size = 3 := by kernel_rfl
theorem dataI_nil18 (w : World) (S : Nat → Prop) : DataI w S (.slice none 0 0) [] := ⟨0, Rd.nil _ _, fun h => absurd h (by simp)⟩
theorem own_datP18 {w w' : World} {base : Nat} {v : Value} {l : List UInt8} (h : Own w' base v l) (hl : l.length ≤ 140737488355328) (hb : w.heap.size ≤ base) (hB : Below w.heap.size w w') : DatP l w (.returned v) w' := by
 obtain ⟨d, h1, h2, h3⟩ := h.rd hl
 exact ⟨v, rfl, ⟨d, h3, fun h0 => ⟨Nat.le_trans hb h1, h3.lt h0⟩⟩, hB⟩
theorem own_lit18 (W : World) (base : Nat) (b d : UInt8) (hb : base ≤ W.heap.size) : Own (W.alloc (.cells #[byteV b, byteV d] 5)) base (.slice (some ⟨W.heap.size, 0, none⟩) 2 2) [b, d] :=
 ⟨rfl, .inr ⟨W.heap.size, 2, #[byteV b, byteV d], rfl, hb, heap_alloc_new W _, Nat.le_refl _, by unfold maxLen; decide, rfl, rfl⟩⟩
theorem strCells_txt18 (l : List UInt8) : Lib.strCells (txt l) = l.map byteV := by
 unfold Lib.strCells
 show ((txt l).data.toList).map _ = _
 rfl
theorem byt_text18 (a : NdD) (w : World) (h0 : 0 ≤ a.kind) (h1 : a.kind ≤ 255) (ht : a.text ≠ []) (hl : a.text.length ≤ 1048576) :
  Calls Tryz.prog 77 #[.agg #[.int .i64 a.kind, .int .u64 (a.num : Int), .string (txt a.text)]] w (DatP (UInt8.ofNat a.kind.toNat :: 1 :: a.text) w) := by
 obtain ⟨kb, hkb⟩ : ∃ b, b = UInt8.ofNat a.kind.toNat := ⟨_, rfl⟩
 have hkw := byte_kind18 h0 h1
 rw [← hkb] at hkw ⊢
 have e1 : (a.text == []) = false := by cases e : a.text with | nil => exact absurd e ht | cons => rfl
 have e2 : a.text.isEmpty = false := by cases e : a.text with | nil => exact absurd e ht | cons => rfl
 have tt : (txt a.text).toList = a.text := txt_toList _
 have HOW : Hid (Own ((w.alloc (.cells #[.int .i64 a.kind, .int .u64 (a.num : Int), .string (txt a.text)] 39)).alloc (.cells #[byteV kb, .int .u8 1] 5)) (w.heap.size + 1) (.slice (some ⟨w.heap.size + 1, 0, none⟩) 2 2) [kb, 1]) := hHd (by
  have h := own_lit18 (w.alloc (.cells #[.int .i64 a.kind, .int .u64 (a.num : Int), .string (txt a.text)] 39)) (w.heap.size + 1) kb 1 (by simp)
  rwa [show (w.alloc (.cells #[.int .i64 a.kind, .int .u64 (a.num : Int), .string (txt a.text)] 39)).heap.size = w.heap.size + 1 by simp] at h)
 have hb1 : Below w.heap.size w (w.alloc (.cells #[.int .i64 a.kind, .int .u64 (a.num : Int), .string (txt a.text)] 39)) := bAl
 have HB2 : Hid (Below w.heap.size w ((w.alloc (.cells #[.int .i64 a.kind, .int .u64 (a.num : Int), .string (txt a.text)] 39)).alloc (.cells #[byteV kb, .int .u8 1] 5))) := hHd (hb1.alloc hb1.size _)
 have hbx : Blk ((w.alloc (.cells #[.int .i64 a.kind, .int .u64 (a.num : Int), .string (txt a.text)] 39)).alloc (.cells #[byteV kb, .int .u8 1] 5)) w.heap.size 39 #[.int .i64 a.kind, .int .u64 (a.num : Int), .string (txt a.text)] := (Blk.new _ _ _).alloc _
 have q2 : ((w.alloc (.cells #[.int .i64 a.kind, .int .u64 (a.num : Int), .string (txt a.text)] 39)).alloc (.cells #[byteV kb, .int .u8 1] 5)).cell? ⟨w.heap.size, 2, none⟩ = some (.string (txt a.text)) := (hbx.cell 2).trans rfl
 have HTL := hHd hl
 have HSZ : Hid (w.heap.size + 1 ≤ ((w.alloc (.cells #[.int .i64 a.kind, .int .u64 (a.num : Int), .string (txt a.text)] 39)).alloc (.cells #[byteV kb, .int .u8 1] 5)).heap.size) := hHd (by simp)
 have hsz := txt_size a.text
 clear hkb h0 h1 ht hb1 hbx hl
 unfold byteV at q2 HOW HB2 HSZ
 go_enter Tryz.func77, Tryz.ntmps77
 go_wp2_with (at_builtin; refine Lib.wpList_append_own_string _ rfl (.tmp 17) (.tmp 19) 25 9 rfl (w.heap.size + 1) 5 _ Tryz.underlying25 Tryz.underlying9 rfl rfl rfl rfl _ 2 _ rfl HOW.out (txt a.text) rfl (by rw [hsz]; have := HTL.out; unfold maxLen; omega) (by rw [hsz]; have := HTL.out; omega) HSZ.out ?_)
 intro v9 w9 hown hgr _
 have hl9 : Own w9 (w.heap.size + 1) v9 (kb :: 1 :: a.text) := by
  unfold Own
  rw [strCells_txt18] at hown
  have e : (kb :: 1 :: a.text).length = 2 + a.text.length := by simp only [List.length_cons]; omega
  rw [e]
  exact hown
 have hb9 : Below w.heap.size w w9 := (HB2.out.grown hgr HB2.out.size fun b e => Nat.le_of_succ_le (World.ownsRow.lt HOW.out b e).1)
 have HD := hHd (own_datP18 (w := w) hl9 (by have := HTL.out; simp only [List.length_cons]; omega) (Nat.le_succ _) hb9)
 clear hown hgr hl9 hb9 q2 HOW
 go_wp2
 go_ret
 exact HD.out
theorem byt_num18 (a : NdD) (w : World) (h0 : 0 ≤ a.kind) (h1 : a.kind ≤ 255) (ht : a.text = []) (hn : a.num < 18446744073709551616) :
  Calls Tryz.prog 77 #[.agg #[.int .i64 a.kind, .int .u64 (a.num : Int), .string (txt a.text)]] w (DatP (UInt8.ofNat a.kind.toNat :: 0 :: leastB a.num) w) := by
 obtain ⟨kb, hkb⟩ : ∃ b, b = UInt8.ofNat a.kind.toNat := ⟨_, rfl⟩
 have hkw := byte_kind18 h0 h1
 rw [← hkb] at hkw ⊢
 have e1 : (a.text == []) = true := by rw [ht]; rfl
 have e2 : a.text.isEmpty = true := by rw [ht]; rfl
 have tt : (txt a.text).toList = a.text := txt_toList _
 have HX1 : Hid (Blk (w.alloc (.cells #[.int .i64 a.kind, .int .u64 (a.num : Int), .string (txt a.text)] 39)) w.heap.size 39 #[.int .i64 a.kind, .int .u64 (a.num : Int), .string (txt a.text)]) := hHd (Blk.new _ _ _)
 have HB1 : Hid (Below w.heap.size w (w.alloc (.cells #[.int .i64 a.kind, .int .u64 (a.num : Int), .string (txt a.text)] 39))) := hHd bAl
 have HZ1 : Hid (w.heap.size + 1 ≤ (w.alloc (.cells #[.int .i64 a.kind, .int .u64 (a.num : Int), .string (txt a.text)] 39)).heap.size) := hHd (by simp)
 have HLS : ∀ W, Hid (Calls Tryz.prog 103 #[.int .u64 (a.num : Int)] W (DatP (leastB a.num) W)) := fun W => hHd ((least_any a.num W hn).mono fun r w' h => datP_big h)
 have HLL : Hid ((leastB a.num).length ≤ 8) := hHd (least_len18 _ hn)
 clear hkb h0 h1 ht hn
 go_enter Tryz.func77, Tryz.ntmps77
 go_upto_region 1 with (fail)
 revert HX1 HB1 HZ1
 generalize (w.alloc (.cells #[.int .i64 a.kind, .int .u64 (a.num : Int), .string (txt a.text)] 39)) = w1
 intro HX1 HB1 HZ1
 have q2 := (HX1.out.cell 2).trans rfl
 go_upto_region 2 with (fail)
 clear q2
 have HWD : Hid (Below w1.heap.size w1 w1.drew) := hHd (Below.refl _ _).drew
 refine wp_region_noPanic ?_
 refine wp_region_held_drew (S := fun _ => True) (by kernel_rfl) trivial (fun hS => ?_)
 refine held_more (S' := fun w' => Below (w.heap.size + 1) w1 w') (fun _ _ => trivial) _ _ _ _ ?_
 replace hS := HWD.out.mono HZ1.out
 refine tkH 0 hS ?_
 refine tkH 1 hS ?_ (hy := fun w hSw => by have q0 := ((HX1.out.below hSw (by omega)).cell 0).trans rfl; (go_simp <;> with_reducible rfl))
 refine tkH 2 hS ?_ (hy := fun w hSw => by have hkv := hkw; (go_simp <;> with_reducible rfl))
 refine tkH 4 hS ?_
 refine tkH 5 hS ?_ (hy := fun w hSw => by have q1 := ((HX1.out.below hSw (by omega)).cell 1).trans rfl; (go_simp <;> with_reducible rfl))
 refine rdy [3, 6] (rdC (fun K hK => ?str_0) (rdC (fun K hK => ?str_1) .nil))
 case' str_0 =>
  have HOW : Hid (Own ((w1.drew).alloc (.cells #[byteV kb, .int .u8 0] 5)) w1.heap.size (.slice (some ⟨(w1.heap.size), 0, none⟩) 2 2) [kb, 0]) := hHd (own_lit18 _ _ kb 0 HWD.out.size)
  have hb3 : Below (w1.drew).heap.size (w1.drew) ((w1.drew).alloc (.cells #[byteV kb, .int .u8 0] 5)) := bAl
  have HWD := hHd (HWD.out.trans (hb3.mono HWD.out.size))
  clear hb3
  go_simp
  refine hK.out _ _ ?sr_0 (fun hS => ?_)
  case sr_0 => (exact HWD.out.mono HZ1.out)
  clear hK K
  (try simp only [Act.put, layS])
  refine rdy1 6 fun K hK => ?_
  go_simp
  refine (HLS _).out.mono ?_
  rintro r w6 ⟨v6, rfl, ⟨d6, hr6, -⟩, hb6⟩
  have HD6 : Hid (∃ d6, Rd w6 d6 v6 (leastB a.num)) := hHd ⟨d6, hr6⟩
  have HOW := hHd (HOW.out.below hb6)
  have HWD := hHd (HWD.out.trans (hb6.mono HWD.out.size))
  clear hr6 hb6 d6
  go_wp2_with fail
  refine hK.out _ _ ?sr_2 (fun hS => ?_)
  case sr_2 => (exact HWD.out.mono HZ1.out)
  clear hK K
  (try simp only [Act.put, layS])
  refine rdy1 7 fun K hK => ?_
  obtain ⟨d6, hr6⟩ := HD6.out
  refine wp_append_rd (.tmp 9) (.tmp 12) (by rfl) (by rfl) w1.heap.size _ [kb, 0] (by rfl) HOW.out d6 v6 (leastB a.num) (by rfl) hr6 (by have := HLL.out; simp only [List.length_cons, List.length_nil]; omega) HWD.out.size ?_
  intro v9 w9 hap
  have hb9 : Below w1.heap.size w1 w9 := HWD.out.trans (hap.below HOW.out HWD.out.size)
  have H9 := hHd (own_datP18 (w := w) hap.1 (by have := HLL.out; simp only [List.length_cons, List.length_append, List.length_nil]; omega) HB1.out.size (HB1.out.trans (hb9.mono HB1.out.size)))
  have HB9 := hHd hb9
  clear hap hb9 hr6
  refine hK.out _ _ ?sr_3 (fun hS => ?_)
  case sr_3 => (exact HB9.out.mono HZ1.out)
  clear hK K
  (try simp only [Act.put, layS])
  refine tkH 8 hS ?_
  refine wpAnyH_done (by kernel_rfl) ?_ _
  refine NoPanic.normal ?_
 case' str_1 =>
  go_simp
  refine (HLS _).out.mono ?_
  rintro r w6 ⟨v6, rfl, ⟨d6, hr6, -⟩, hb6⟩
  have HD6 : Hid (∃ d6, Rd w6 d6 v6 (leastB a.num)) := hHd ⟨d6, hr6⟩
  have HWD := hHd (HWD.out.trans (hb6.mono HWD.out.size))
  clear hr6 hb6 d6
  go_wp2_with fail
  refine hK.out _ _ ?sr_1 (fun hS => ?_)
  case sr_1 => (exact HWD.out.mono HZ1.out)
  clear hK K
  (try simp only [Act.put, layS])
  refine rdy1 3 fun K hK => ?_
  have HOW : Hid (Own ((w6).alloc (.cells #[byteV kb, .int .u8 0] 5)) w1.heap.size (.slice (some ⟨(w6.heap.size), 0, none⟩) 2 2) [kb, 0]) := hHd (own_lit18 _ _ kb 0 HWD.out.size)
  have hb3 : Below (w6).heap.size (w6) ((w6).alloc (.cells #[byteV kb, .int .u8 0] 5)) := bAl
  have HWD := hHd (HWD.out.trans (hb3.mono HWD.out.size))
  have HD6 : Hid (∃ d6, Rd ((w6).alloc (.cells #[byteV kb, .int .u8 0] 5)) d6 v6 (leastB a.num)) := hHd (by obtain ⟨d6, h6⟩ := HD6.out; exact ⟨d6, h6.below' hb3⟩)
  clear hb3
  go_simp
  refine hK.out _ _ ?sr_4 (fun hS => ?_)
  case sr_4 => (exact HWD.out.mono HZ1.out)
  clear hK K
  (try simp only [Act.put, layS])
  refine rdy1 7 fun K hK => ?_
  obtain ⟨d6, hr6⟩ := HD6.out
  refine wp_append_rd (.tmp 9) (.tmp 12) (by rfl) (by rfl) w1.heap.size _ [kb, 0] (by rfl) HOW.out d6 v6 (leastB a.num) (by rfl) hr6 (by have := HLL.out; simp only [List.length_cons, List.length_nil]; omega) HWD.out.size ?_
  intro v9 w9 hap
  have hb9 : Below w1.heap.size w1 w9 := HWD.out.trans (hap.below HOW.out HWD.out.size)
  have H9 := hHd (own_datP18 (w := w) hap.1 (by have := HLL.out; simp only [List.length_cons, List.length_append, List.length_nil]; omega) HB1.out.size (HB1.out.trans (hb9.mono HB1.out.size)))
  have HB9 := hHd hb9
  clear hap hb9 hr6
  refine hK.out _ _ ?sr_5 (fun hS => ?_)
  case sr_5 => (exact HB9.out.mono HZ1.out)
  clear hK K
  (try simp only [Act.put, layS])
  refine tkH 8 hS ?_
  refine wpAnyH_done (by kernel_rfl) ?_ _
  refine NoPanic.normal ?_
 all_goals (clear hS; go_wp2; go_ret; exact H9.out)
theorem byt_any18 (a : NdD) (w : World) (h0 : 0 ≤ a.kind) (h1 : a.kind ≤ 255) (hn : a.num < 18446744073709551616) (hl : a.text.length ≤ 1048576) : Calls Tryz.prog 77 #[.agg #[.int .i64 a.kind, .int .u64 (a.num : Int), .string (txt a.text)]] w (DatP (valT18 leastB a) w) := by
 unfold valT18
 by_cases ht : a.text = []
 ·rw [if_pos ht]; exact byt_num18 a w h0 h1 ht hn
 ·rw [if_neg ht]; exact byt_text18 a w h0 h1 ht hl
theorem text_item18 (W : World) (s : List UInt8) (t cc : Nat) (hs : s.length ≤ 1048576) (hc : s.length ≤ cc) : Rd ((W.drew.alloc (.cells (bytesRow (txt s) cc) 5 ((bytesRow (txt s) cc).size, (bytesRow (txt s) cc).size + 1))).alloc (.cells #[.int .u64 (t : Int), (.slice (some ⟨W.heap.size, 0, none⟩) s.length cc), .slice none 0 0] 58)) W.heap.size (.slice (some ⟨W.heap.size, 0, none⟩) s.length cc) s ∧ Blk ((W.drew.alloc (.cells (bytesRow (txt s) cc) 5 ((bytesRow (txt s) cc).size, (bytesRow (txt s) cc).size + 1))).alloc (.cells #[.int .u64 (t : Int), (.slice (some ⟨W.heap.size, 0, none⟩) s.length cc), .slice none 0 0] 58)) (W.heap.size + 1) 58 #[.int .u64 (t : Int), (.slice (some ⟨W.heap.size, 0, none⟩) s.length cc), .slice none 0 0] ∧ Below W.heap.size W ((W.drew.alloc (.cells (bytesRow (txt s) cc) 5 ((bytesRow (txt s) cc).size, (bytesRow (txt s) cc).size + 1))).alloc (.cells #[.int .u64 (t : Int), (.slice (some ⟨W.heap.size, 0, none⟩) s.length cc), .slice none 0 0] 58)) := by
 have h := bytes_rd W s 5 ((bytesRow (txt s) cc).size, (bytesRow (txt s) cc).size + 1) cc hs hc
 have hb := ((Below.refl W.heap.size W).drew.alloc (o := (.cells (bytesRow (txt s) cc) 5 ((bytesRow (txt s) cc).size, (bytesRow (txt s) cc).size + 1))) (Nat.le_refl _))
 exact ⟨h.heap' (fun hlt => Below.heap_alloc _ _ _ hlt), Blk.newA (w := W.drew.alloc (.cells (bytesRow (txt s) cc) 5 ((bytesRow (txt s) cc).size, (bytesRow (txt s) cc).size + 1))) (by rw [World.size_alloc]; rfl) _ _, hb.alloc hb.size _⟩
theorem dataI_its18 {w : World} {base db : Nat} {u dv : Value} {d : List UInt8} (h : Rd w db dv d) (hb : base ≤ db) (hn : u.ownBlock ≠ some db) : DataI w (ItsI base w u) dv d := ⟨db, h, fun h0 => ⟨hb, h.lt h0, fun e => hn e.symm⟩⟩
theorem its_mine18 {W0 W : World} {base : Nat} {e : TypeId} {v dv : Value} {F : Fo} {d : List UInt8} (ho : OwnF DataI e W0 base v F) (hb : base ≤ W0.heap.size) (h : DataI W (MineI W0.heap.size W) dv d) : DataI W (ItsI base W v) dv d := by
 obtain ⟨db, h1, h2⟩ := h
 exact ⟨db, h1, fun h0 => ⟨Nat.le_trans hb (h2 h0).1, (h2 h0).2, fun e => by have := (ho.lt _ e.symm).2; have := (h2 h0).1; omega⟩⟩
theorem its_fv18 {W0 W : World} {base : Nat} {e : TypeId} {v kv : Value} {F K : Fo} (ho : OwnF DataI e W0 base v F) (hb : base ≤ W0.heap.size) (h : FV DataI W (MineI W0.heap.size W) kv K) : FV DataI W (ItsI base W v) kv K :=
 h.kept stays_I (fun _ _ => rfl) (fun g hg => ⟨Nat.le_trans hb hg.1, hg.2, fun e => by have := (ho.lt _ e.symm).2; have := hg.1; omega⟩)
theorem OwnF.litI18 {w : World} {base g t : Nat} {dv : Value} {d : List UInt8} (hb : Blk w g 58 #[.int .u64 (t : Int), dv, .slice none 0 0]) (hg : base ≤ g) (ht : t < 18446744073709551616) (hd : DataI w (ItsI base w (.slice (some ⟨g, 0, none⟩) 1 1)) dv d) : OwnF DataI 58 w base (.slice (some ⟨g, 0, none⟩) 1 1) (.cons t d .nil .nil) :=
 ⟨[.int .u64 (t : Int), dv, .slice none 0 0], ⟨rfl, .inr ⟨g, 1, _, rfl, hg, hb, Nat.le_refl _, by decide, rfl, rfl⟩⟩, ⟨rfl, ht, hd, FV.nil _ _, trivial⟩⟩
end
end Go.Proofs.YtleidkpdpabkpaaGreatDoor
