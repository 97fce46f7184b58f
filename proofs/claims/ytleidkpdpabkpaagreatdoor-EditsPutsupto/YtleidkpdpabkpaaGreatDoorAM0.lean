/- OctNum VarNum VarMath TlvNum OctA -/
import Derived.Test.YtleidkpdpabkpaaGreatDoorRows
import Derived.WalkSpells
import Derived.Laws.CopyOwn
import Derived.Deep.Draws
import Derived.Deep.OwnRows
import Derived.Lib.Hide
set_option linter.unusedSimpArgs false
set_option linter.unusedVariables false
set_option maxRecDepth 100000
set_option maxHeartbeats 8000000
namespace Go.Proofs.YtleidkpdpabkpaaGreatDoor
open Go.RowKit
theorem layS {α : Type} : (∀ (l : List α) (i : Nat) (a : α), l.toArray.setIfInBounds i a = (l.set i a).toArray) ∧ (∀ (x a : α) (l : List α), (x :: l).set 0 a = a :: l) ∧ (∀ (x a : α) (l : List α) (n : Nat), (x :: l).set (n + 1) a = x :: l.set n a) :=
  ⟨fun l i a => by simp, fun _ _ _ => rfl, fun _ _ _ _ => rfl⟩
theorem layG {α : Type} : (∀ (l : List α) (i : Nat), l.toArray[i]? = l[i]?) ∧ (∀ (a : α) (l : List α) (i : Nat), (a :: l)[i + 1]? = l[i]?) ∧ (∀ (a : α) (l : List α), (a :: l)[0]? = some a) :=
  ⟨fun l i => by simp, fun _ _ _ => rfl, fun _ _ => rfl⟩
theorem bAl {w : World} {o : Obj} : Below w.heap.size w (w.alloc o) := (Below.refl _ _).alloc (Nat.le_refl _) _
theorem hHd {p : Prop} (h : p) : Hid p := h
def valB (l : List UInt8) : Nat := l.foldl (fun a b => a * 256 + b.toNat) 0
theorem valB_nil : valB [] = 0 := rfl
theorem valB_snoc (l : List UInt8) (b : UInt8) : valB (l ++ [b]) = valB l * 256 + b.toNat := by simp [valB]
theorem foldl_val (l : List UInt8) (a : Nat) : l.foldl (fun a b => a * 256 + b.toNat) a = a * 256 ^ l.length + valB l := by
 induction l generalizing a with
 | nil => simp [valB]
 | cons b l ih =>
  have h1 : valB (b :: l) = b.toNat * 256 ^ l.length + valB l := by
   show List.foldl _ _ (b :: l) = _
   rw [List.foldl_cons, ih]; simp
  rw [List.foldl_cons, ih, h1, List.length_cons, Nat.pow_succ, Nat.add_mul]
  have : a * 256 * 256 ^ l.length = a * (256 ^ l.length * 256) := by rw [Nat.mul_assoc, Nat.mul_comm 256]
  omega
theorem valB_cons (b : UInt8) (l : List UInt8) : valB (b :: l) = b.toNat * 256 ^ l.length + valB l := by
 show List.foldl _ _ (b :: l) = _
 rw [List.foldl_cons, foldl_val]; simp
theorem valB_append (a b : List UInt8) : valB (a ++ b) = valB a * 256 ^ b.length + valB b := by
 show List.foldl _ _ (a ++ b) = _
 rw [List.foldl_append, foldl_val]; rfl
theorem byte_lt (b : UInt8) : b.toNat < 256 := b.toNat_lt
theorem valB_lt (l : List UInt8) : valB l < 256 ^ l.length := by
 induction l with
 | nil => simp [valB]
 | cons b l ih =>
  rw [valB_cons, List.length_cons, Nat.pow_succ]
  have := byte_lt b
  have h : (b.toNat + 1) * 256 ^ l.length ≤ 256 * 256 ^ l.length := Nat.mul_le_mul_right _ (by omega)
  rw [Nat.add_mul] at h
  omega
theorem valB_take_le (l : List UInt8) (k : Nat) : valB (l.take k) ≤ valB l := by
 have h : valB l = valB (l.take k) * 256 ^ (l.drop k).length + valB (l.drop k) := by rw [← valB_append, List.take_append_drop]
 have : valB (l.take k) * 1 ≤ valB (l.take k) * 256 ^ (l.drop k).length := Nat.mul_le_mul_left _ (Nat.pow_pos (by decide))
 omega
theorem take_snoc (l : List UInt8) (k : Nat) (h : k < l.length) : l.take (k + 1) = l.take k ++ [l[k]] := by
 rw [List.take_succ_eq_append_getElem h]
theorem valB_take_snoc (l : List UInt8) (k : Nat) (h : k < l.length) : valB (l.take (k + 1)) = valB (l.take k) * 256 + l[k].toNat := by
 rw [take_snoc l k h, valB_snoc]
def bigB (x size : Nat) : List UInt8 := (List.range size).map fun k => UInt8.ofNat (x / 256 ^ (size - 1 - k))
theorem bigB_length (x size : Nat) : (bigB x size).length = size := by simp [bigB]
theorem bigB_zero (x : Nat) : bigB x 0 = [] := rfl
theorem bigB_succ (x size : Nat) : bigB x (size + 1) = bigB (x / 256) size ++ [UInt8.ofNat x] := by
 unfold bigB
 rw [List.range_succ, List.map_append]
 congr 1
 ·refine List.map_congr_left fun k hk => ?_
  have hk := List.mem_range.1 hk
  have e : size + 1 - 1 - k = (size - 1 - k) + 1 := by omega
  rw [e, Nat.pow_succ, Nat.mul_comm, Nat.div_div_eq_div_mul]
 ·simp
theorem ofNat_toNat (x : Nat) : (UInt8.ofNat x).toNat = x % 256 := by simp
theorem valB_bigB (x size : Nat) : valB (bigB x size) = x % 256 ^ size := by
 induction size generalizing x with
 | zero => simp [bigB_zero, valB_nil, Nat.mod_one]
 | succ n ih =>
  rw [bigB_succ, valB_snoc, ih, ofNat_toNat, Nat.pow_succ, Nat.mul_comm (256 ^ n), Nat.mod_mul]
  omega
def lenB : Nat → Nat → Nat
 | 0, _ => 0
 | f + 1, x => if x = 0 then 0 else lenB f (x / 256) + 1
theorem lenB_spec (f x : Nat) (h : x < 256 ^ f) : x < 256 ^ lenB f x ∧ (0 < lenB f x → 256 ^ (lenB f x - 1) ≤ x) ∧ lenB f x ≤ f := by
 induction f generalizing x with
 | zero => simp [lenB] at h ⊢; omega
 | succ f ih =>
  unfold lenB
  by_cases h0 : x = 0
  ·simp [h0]
  ·rw [if_neg h0]
   have h1 : x / 256 < 256 ^ f := by rw [Nat.pow_succ] at h; omega
   obtain ⟨a, b, c⟩ := ih (x / 256) h1
   refine ⟨?_, fun _ => ?_, by omega⟩
   ·rw [Nat.pow_succ]; omega
   ·show 256 ^ (lenB f (x / 256)) ≤ x
    rcases Nat.eq_zero_or_pos (lenB f (x / 256)) with hz | hz
    ·rw [hz]; simp; omega
    ·have := b hz
     have e : lenB f (x / 256) = (lenB f (x / 256) - 1) + 1 := by omega
     rw [e, Nat.pow_succ]; omega
def encV : Nat → Nat → List UInt8
 | 0, x => [UInt8.ofNat x]
 | f + 1, x => if x < 128 then [UInt8.ofNat x] else UInt8.ofNat (x % 128 + 128) :: encV f (x / 128)
theorem encV_small (f x : Nat) (h : x < 128) : encV f x = [UInt8.ofNat x] := by cases f <;> simp [encV, h]
theorem encV_big (f x : Nat) (h : ¬ x < 128) : encV (f + 1) x = UInt8.ofNat (x % 128 + 128) :: encV f (x / 128) := by simp [encV, h]
theorem encV_length (f x : Nat) : 1 ≤ (encV f x).length ∧ (encV f x).length ≤ f + 1 := by
 induction f generalizing x with
 | zero => simp [encV]
 | succ f ih =>
  by_cases h : x < 128
  ·rw [encV_small _ _ h]; simp
  ·rw [encV_big f x h, List.length_cons]
   have := ih (x / 128)
   omega
def lead : Nat → List UInt8 → Nat
 | 0, _ => 0
 | _ + 1, [] => 0
 | f + 1, b :: l => if 127 < b.toNat then lead f l + 1 else 0
theorem lead_eq (f : Nat) : ∀ (s : List UInt8) (k : Nat), k ≤ f → k ≤ s.length → (∀ j b, j < k → s[j]? = some b → 127 < b.toNat) → (k = f ∨ k = s.length ∨ ∃ b, s[k]? = some b ∧ ¬ 127 < b.toNat) → lead f s = k := by
 induction f with
 | zero => intro s k h1 _ _ _; simp [lead]; omega
 | succ f ih =>
  intro s k h1 h2 h3 h4
  cases s with
  | nil => simp at h2; simp [lead, h2]
  | cons b l =>
   unfold lead
   cases k with
   | zero =>
    rcases h4 with h | h | ⟨c, hc, hn⟩
    ·omega
    ·simp at h
    ·simp at hc
     subst hc
     rw [if_neg hn]
   | succ k =>
    rw [if_pos (h3 0 b (by omega) rfl)]
    rw [ih l k (by omega) (by simpa using h2) (fun j c hj hc => h3 (j + 1) c (by omega) (by simpa using hc)) ?_]
    rcases h4 with h | h | ⟨c, hc, hn⟩
    ·exact .inl (by omega)
    ·exact .inr (.inl (by simpa using h))
    ·exact .inr (.inr ⟨c, by simpa using hc, hn⟩)
def horner (l : List UInt8) : Nat := l.foldr (fun b a => a * 128 + b.toNat % 128) 0
theorem horner_nil : horner [] = 0 := rfl
theorem horner_cons (b : UInt8) (l : List UInt8) : horner (b :: l) = horner l * 128 + b.toNat % 128 := rfl
theorem horner_drop (l : List UInt8) (p : Nat) (b : UInt8) (h : l[p]? = some b) : horner (l.drop p) = horner (l.drop (p + 1)) * 128 + b.toNat % 128 := by
 obtain ⟨hp, rfl⟩ := List.getElem?_eq_some_iff.1 h
 rw [List.drop_eq_getElem_cons hp, horner_cons]
theorem horner_ge (l : List UInt8) (m : Nat) : horner (l.drop m) * 128 ^ m ≤ horner l := by
 induction m generalizing l with
 | zero => simp
 | succ m ih =>
  cases l with
  | nil => simp [horner]
  | cons b l =>
   rw [List.drop_succ_cons, horner_cons, Nat.pow_succ]
   have := ih l
   have h2 : horner (l.drop m) * (128 ^ m * 128) = horner (l.drop m) * 128 ^ m * 128 := by rw [Nat.mul_assoc]
   omega
def getV (s : List UInt8) : Nat × Nat × Int :=
 if lead 10 s = 10 then (0, 0, 14)
 else if lead 10 s = s.length then (0, 0, 10)
 else if 18446744073709551616 ≤ horner (s.take (lead 10 s + 1)) then (0, 0, 14)
 else if 0 < lead 10 s ∧ (s.getD (lead 10 s) 0).toNat = 0 then (0, 0, 11)
 else (horner (s.take (lead 10 s + 1)), lead 10 s + 1, 0)
theorem ofNat_lt (n : Nat) (h : n < 256) : (UInt8.ofNat n).toNat = n := by
 rw [UInt8.toNat_ofNat']; exact Nat.mod_eq_of_lt h
theorem horner_enc (f : Nat) : ∀ x, x < 128 ^ (f + 1) → horner (encV f x) = x := by
 induction f with
 | zero =>
  intro x h
  have hx : x < 128 := by simpa using h
  rw [encV_small 0 x hx, horner_cons, horner_nil, ofNat_lt x (by omega)]
  omega
 | succ f ih =>
  intro x h
  by_cases hx : x < 128
  ·rw [encV_small _ x hx, horner_cons, horner_nil, ofNat_lt x (by omega)]
   omega
  ·rw [encV_big f x hx, horner_cons, ih (x / 128) (by rw [Nat.pow_succ] at h; omega), ofNat_lt _ (by omega)]
   omega
theorem lead_enc (f : Nat) : ∀ (g x : Nat) (r : List UInt8), f ≤ g → x < 128 ^ (f + 1) → lead (g + 1) (encV f x ++ r) + 1 = (encV f x).length := by
 induction f with
 | zero =>
  intro g x r _ h
  have hx : x < 128 := by simpa using h
  rw [encV_small 0 x hx]
  simp only [List.cons_append, List.nil_append, lead, List.length_cons, List.length_nil]
  rw [if_neg (by rw [ofNat_lt x (by omega)]; omega)]
 | succ f ih =>
  intro g x r hg h
  by_cases hx : x < 128
  ·rw [encV_small _ x hx]
   simp only [List.cons_append, List.nil_append, lead, List.length_cons, List.length_nil]
   rw [if_neg (by rw [ofNat_lt x (by omega)]; omega)]
  ·obtain ⟨g, rfl⟩ : ∃ g', g = g' + 1 := ⟨g - 1, by omega⟩
   rw [encV_big f x hx]
   have hi := ih g (x / 128) r (by omega) (by rw [Nat.pow_succ] at h; omega)
   rw [List.cons_append, List.length_cons, ← hi]
   conv => lhs; unfold lead
   rw [if_pos (by rw [ofNat_lt _ (by omega)]; omega)]
theorem last_enc (f : Nat) : ∀ x, 0 < x → x < 128 ^ (f + 1) → ∀ r, ((encV f x ++ r).getD ((encV f x).length - 1) 0).toNat ≠ 0 := by
 induction f with
 | zero =>
  intro x h0 h r
  have hx : x < 128 := by simpa using h
  rw [encV_small 0 x hx]
  simp [ofNat_lt x (by omega)]
  omega
 | succ f ih =>
  intro x h0 h r
  by_cases hx : x < 128
  ·rw [encV_small _ x hx]
   simp [ofNat_lt x (by omega)]
   omega
  ·have hi := ih (x / 128) (by omega) (by rw [Nat.pow_succ] at h; omega) r
   have hl := (encV_length f (x / 128)).1
   rw [encV_big f x hx, List.cons_append, List.length_cons]
   obtain ⟨k, hk⟩ : ∃ k, (encV f (x / 128)).length = k + 1 := ⟨_, (Nat.sub_add_cancel hl).symm⟩
   rw [hk] at hi ⊢
   simpa using hi
theorem getV_enc (x : Nat) (h : x < 18446744073709551616) (r : List UInt8) : getV (encV 9 x ++ r) = (x, (encV 9 x).length, 0) := by
 have hp : x < 128 ^ (9 + 1) := by have : (18446744073709551616 : Nat) < 128 ^ (9 + 1) := (by decide); omega
 have hl : lead 10 (encV 9 x ++ r) + 1 = (encV 9 x).length := lead_enc 9 9 x r (Nat.le_refl _) hp
 have hlen := encV_length 9 x
 have hh := horner_enc 9 x hp
 have hlast := fun h0 => last_enc 9 x h0 hp r
 unfold getV
 have e1 : lead 10 (encV 9 x ++ r) = (encV 9 x).length - 1 := by omega
 rw [e1, if_neg (by omega), if_neg (by rw [List.length_append]; omega)]
 have e2 : (encV 9 x ++ r).take ((encV 9 x).length - 1 + 1) = encV 9 x := by rw [Nat.sub_add_cancel hlen.1, List.take_left']; rfl
 rw [e2, hh, if_neg (by omega), if_neg (fun hc => by
  by_cases h0 : 0 < x
  ·exact hlast h0 hc.2
  ·have : x = 0 := by omega
   subst this
   rw [encV_small 9 0 (by decide)] at hc
   simp at hc), Nat.sub_add_cancel hlen.1]
theorem enc_horner (k : Nat) : ∀ (l : List UInt8) (f : Nat), l.length = k + 1 → k ≤ f → (∀ j b, j < k → l[j]? = some b → 127 < b.toNat) → (l.getD k 0).toNat ≤ 127 → (0 < k → (l.getD k 0).toNat ≠ 0) → encV f (horner l) = l := by
 induction k with
 | zero =>
  intro l f hl _ _ hle _
  match l, hl with
  | [b], _ =>
   have hb : b.toNat ≤ 127 := by simpa using hle
   have e : horner [b] = b.toNat := by rw [horner_cons, horner_nil]; omega
   rw [e, encV_small f _ (by omega)]
   simp
 | succ k ih =>
  intro l f hl hf hgt hle hnz
  match l, hl with
  | b :: l, hl =>
   have hl' : l.length = k + 1 := by simpa using hl
   obtain ⟨f, rfl⟩ : ∃ f', f = f' + 1 := ⟨f - 1, by omega⟩
   have hb : 127 < b.toNat := hgt 0 b (by omega) rfl
   have hb2 : b.toNat < 256 := UInt8.toNat_lt b
   have hle' : (l.getD k 0).toNat ≤ 127 := by simpa using hle
   have hnz' : (l.getD k 0).toNat ≠ 0 := by simpa using hnz (by omega)
   have hi := ih l f hl' (by omega) (fun j c hj hc => hgt (j + 1) c (by omega) (by simpa using hc)) hle' (fun _ => hnz')
   have hpos : 0 < horner l := by
    rcases Nat.eq_zero_or_pos (horner l) with h0 | h0
    ·exfalso
     rw [h0, encV_small f 0 (by decide)] at hi
     rw [← hi] at hnz' hl'
     have : k = 0 := by simpa using hl'.symm
     subst this
     simp at hnz'
    ·exact h0
   rw [horner_cons, encV_big f _ (by omega)]
   have e1 : (horner l * 128 + b.toNat % 128) / 128 = horner l := by omega
   have e2 : (horner l * 128 + b.toNat % 128) % 128 + 128 = b.toNat := by omega
   rw [e1, e2, hi]
   simp
theorem lead_gt (f : Nat) : ∀ (s : List UInt8) (j : Nat) (b : UInt8), j < lead f s → s[j]? = some b → 127 < b.toNat := by
 induction f with
 | zero => intro s j b h; simp [lead] at h
 | succ f ih =>
  intro s j b h hb
  cases s with
  | nil => simp [lead] at h
  | cons c l =>
   unfold lead at h
   by_cases hc : 127 < c.toNat
   ·rw [if_pos hc] at h
    cases j with
    | zero => simp at hb; subst hb; exact hc
    | succ j => exact ih l j b (by omega) (by simpa using hb)
   ·rw [if_neg hc] at h; omega
theorem lead_stop (f : Nat) : ∀ (s : List UInt8), lead f s ≠ f → lead f s ≠ s.length → (s.getD (lead f s) 0).toNat ≤ 127 ∧ lead f s < s.length ∧ lead f s < f := by
 induction f with
 | zero => intro s h; simp [lead] at h
 | succ f ih =>
  intro s h1 h2
  cases s with
  | nil => simp [lead] at h2
  | cons c l =>
   unfold lead at h1 h2 ⊢
   by_cases hc : 127 < c.toNat
   ·rw [if_pos hc] at h1 h2 ⊢
    have := ih l (by omega) (by simpa using h2)
    simp
    simp at this
    omega
   ·rw [if_neg hc]
    simp
    omega
theorem getV_own (s : List UInt8) (h : (getV s).2.2 = 0) : 1 ≤ (getV s).2.1 ∧ (getV s).2.1 ≤ s.length ∧ (getV s).2.1 ≤ 10 ∧ (getV s).1 < 18446744073709551616 ∧ encV 9 (getV s).1 = s.take (getV s).2.1 := by
 unfold getV at h ⊢
 by_cases h1 : lead 10 s = 10
 ·rw [if_pos h1] at h; exact absurd h (by decide)
 rw [if_neg h1] at h ⊢
 by_cases h2 : lead 10 s = s.length
 ·rw [if_pos h2] at h; exact absurd h (by decide)
 rw [if_neg h2] at h ⊢
 by_cases h3 : 18446744073709551616 ≤ horner (s.take (lead 10 s + 1))
 ·rw [if_pos h3] at h; exact absurd h (by decide)
 rw [if_neg h3] at h ⊢
 by_cases h4 : 0 < lead 10 s ∧ (s.getD (lead 10 s) 0).toNat = 0
 ·rw [if_pos h4] at h; exact absurd h (by decide)
 rw [if_neg h4]
 obtain ⟨g1, g2, g3⟩ := lead_stop 10 s h1 h2
 have hg : (s.take (lead 10 s + 1)).getD (lead 10 s) 0 = s.getD (lead 10 s) 0 := by
  simp [List.getD, List.getElem?_take_of_lt]
 refine ⟨by simp, by show lead 10 s + 1 ≤ _; omega, by show lead 10 s + 1 ≤ _; omega, by show horner _ < _; omega, ?_⟩
 refine enc_horner (lead 10 s) _ 9 (by rw [List.length_take]; omega) (by omega) (fun j b hj hb => ?_) (by rw [hg]; exact g1) (fun h0 hz => h4 ⟨h0, by rw [← hg]; exact hz⟩)
 rw [List.getElem?_take_of_lt (by omega)] at hb
 exact lead_gt 10 s j b hj hb
theorem getV_err (s : List UInt8) (h : (getV s).2.2 ≠ 0) : (getV s).1 = 0 ∧ (getV s).2.1 = 0 := by
 unfold getV at h ⊢
 by_cases h1 : lead 10 s = 10
 ·rw [if_pos h1]; exact ⟨rfl, rfl⟩
 rw [if_neg h1] at h ⊢
 by_cases h2 : lead 10 s = s.length
 ·rw [if_pos h2]; exact ⟨rfl, rfl⟩
 rw [if_neg h2] at h ⊢
 by_cases h3 : 18446744073709551616 ≤ horner (s.take (lead 10 s + 1))
 ·rw [if_pos h3]; exact ⟨rfl, rfl⟩
 rw [if_neg h3] at h ⊢
 by_cases h4 : 0 < lead 10 s ∧ (s.getD (lead 10 s) 0).toNat = 0
 ·rw [if_pos h4]; exact ⟨rfl, rfl⟩
 rw [if_neg h4] at h
 exact absurd rfl h
inductive Fo where
 | nil : Fo
 | cons (tag : Nat) (data : List UInt8) (kids : Fo) (rest : Fo) : Fo
deriving DecidableEq
namespace Fo
def len : Fo → Nat
 | nil => 0
 | cons _ _ _ r => r.len + 1
def app : Fo → Fo → Fo
 | nil, g => g
 | cons t d k r, g => cons t d k (r.app g)
def wt : Fo → Nat
 | nil => 0
 | cons _ d k r => 1 + d.length / 100 + k.wt + r.wt
def sz : Fo → Nat
 | nil => 0
 | cons _ d k r => 1 + d.length + k.sz + r.sz
def fit : Fo → Prop
 | nil => True
 | cons t _ k r => t < 18446744073709551616 ∧ k.fit ∧ r.fit
def inn (tag : Nat) (data kids : List UInt8) : List UInt8 := if tag % 2 = 1 then kids else data
def all : Fo → List UInt8
 | nil => []
 | cons t d k r => encV 9 t ++ (encV 9 (inn t d k.all).length ++ (inn t d k.all ++ r.all))
def right : Nat → Fo → Bool
 | _, nil => true
 | deep, cons t d k r => decide (deep ≤ 6) && (if t % 2 = 1 then d.isEmpty else k.len == 0) && right (deep + 1) k && right deep r
theorem app_nil (f : Fo) : f.app nil = f := by
 induction f with
 | nil => rfl
 | cons t d k r _ ih => simp only [app, ih]
theorem app_assoc (f g h : Fo) : (f.app g).app h = f.app (g.app h) := by
 induction f with
 | nil => rfl
 | cons t d k r _ ih => simp only [app, ih]
theorem len_app (f g : Fo) : (f.app g).len = f.len + g.len := by
 induction f with
 | nil => simp [app, len]
 | cons t d k r _ ih => simp only [app, len, ih]; omega
theorem sz_app (f g : Fo) : (f.app g).sz = f.sz + g.sz := by
 induction f with
 | nil => simp [app, sz]
 | cons t d k r _ ih => simp only [app, sz, ih]; omega
theorem all_app (f g : Fo) : (f.app g).all = f.all ++ g.all := by
 induction f with
 | nil => rfl
 | cons t d k r _ ih => simp only [app, all, ih, List.append_assoc]
theorem right_app (deep : Nat) (f g : Fo) : right deep (f.app g) = (right deep f && right deep g) := by
 induction f with
 | nil => simp [app, right]
 | cons t d k r _ ih => simp only [app, right, ih, Bool.and_assoc]
theorem len_le_wt (f : Fo) : f.len ≤ f.wt := by
 induction f with
 | nil => simp [len]
 | cons t d k r _ ih => simp only [len, wt]; omega
theorem wt_le_sz (f : Fo) : f.wt ≤ f.sz := by
 induction f with
 | nil => simp [wt]
 | cons t d k r ihk ih => simp only [wt, sz]; omega
theorem len_zero {f : Fo} (h : f.len = 0) : f = nil := by
 cases f with
 | nil => rfl
 | cons t d k r => simp [len] at h
theorem inn_length_le (t : Nat) (d k : List UInt8) : (inn t d k).length ≤ d.length + k.length := by
 unfold inn; split <;> omega
theorem all_le (f : Fo) : f.all.length ≤ 20 * f.sz := by
 induction f with
 | nil => simp [all]
 | cons t d k r ihk ih =>
  simp only [all, List.length_append, sz]
  have h1 := (encV_length 9 t).2
  have h2 := (encV_length 9 (inn t d k.all).length).2
  have h3 := inn_length_le t d k.all
  omega
theorem all_pos (t : Nat) (d : List UInt8) (k r : Fo) : 2 ≤ (cons t d k r).all.length := by
 simp only [all, List.length_append]
 have h1 := (encV_length 9 t).1
 have h2 := (encV_length 9 (inn t d k.all).length).1
 omega
end Fo
def fin (t : Nat) (d : List UInt8) (k r : Fo × Int × Nat) : Fo × Int × Nat :=
 if k.2.1 ≠ 0 then (.nil, k.2.1, k.2.2) else if r.2.1 ≠ 0 then (.nil, r.2.1, r.2.2) else (.cons t d k.1 r.1, 0, 0)
theorem fin_err {t : Nat} {d : List UInt8} {k r : Fo × Int × Nat} (h : (fin t d k r).2.1 ≠ 0) : (fin t d k r).1 = .nil := by
 unfold fin at h ⊢
 by_cases h1 : k.2.1 ≠ 0
 ·rw [if_pos h1]
 ·rw [if_neg h1] at h ⊢
  by_cases h2 : r.2.1 ≠ 0
  ·rw [if_pos h2]
  ·rw [if_neg h2] at h; exact absurd rfl h
theorem fin_ok {t : Nat} {d : List UInt8} {k r : Fo × Int × Nat} (h : (fin t d k r).2.1 = 0) : k.2.1 = 0 ∧ r.2.1 = 0 ∧ fin t d k r = (.cons t d k.1 r.1, 0, 0) := by
 unfold fin at h ⊢
 by_cases h1 : k.2.1 ≠ 0
 ·rw [if_pos h1] at h; exact absurd h h1
 ·rw [if_neg h1] at h ⊢
  by_cases h2 : r.2.1 ≠ 0
  ·rw [if_pos h2] at h; exact absurd h h2
  ·rw [if_neg h2]
   exact ⟨Decidable.not_not.1 h1, Decidable.not_not.1 h2, rfl⟩
def gt : Nat → List UInt8 → Nat → Nat → Fo × Int × Nat
 | 0, _, _, _ => (.nil, 0, 0)
 | n + 1, s, deep, at_ =>
  if s = [] then (.nil, 0, 0) else
  if (getV s).2.2 ≠ 0 then (.nil, (getV s).2.2, at_) else
  if (getV (s.drop (getV s).2.1)).2.2 ≠ 0 then (.nil, (getV (s.drop (getV s).2.1)).2.2, at_ + (getV s).2.1) else
  if s.length - (getV s).2.1 - (getV (s.drop (getV s).2.1)).2.1 < (getV (s.drop (getV s).2.1)).1 then (.nil, 10, at_ + (getV s).2.1 + (getV (s.drop (getV s).2.1)).2.1) else
  if 6 < deep then (.nil, 13, at_) else
  fin (getV s).1 (if (getV s).1 % 2 = 0 then (s.drop ((getV s).2.1 + (getV (s.drop (getV s).2.1)).2.1)).take (getV (s.drop (getV s).2.1)).1 else [])
   (if (getV s).1 % 2 = 0 then (Fo.nil, (0 : Int), 0) else gt n ((s.drop ((getV s).2.1 + (getV (s.drop (getV s).2.1)).2.1)).take (getV (s.drop (getV s).2.1)).1) (deep + 1) (at_ + (getV s).2.1 + (getV (s.drop (getV s).2.1)).2.1))
   (gt n (s.drop ((getV s).2.1 + (getV (s.drop (getV s).2.1)).2.1 + (getV (s.drop (getV s).2.1)).1)) deep (at_ + ((getV s).2.1 + (getV (s.drop (getV s).2.1)).2.1 + (getV (s.drop (getV s).2.1)).1)))
theorem gt_nil (n deep at_ : Nat) : gt n [] deep at_ = (.nil, 0, 0) := by cases n <;> simp [gt]
theorem gt_step {n : Nat} {s : List UInt8} {deep at_ : Nat} {t a long b : Nat} {e f : Int} (hs : s ≠ []) (h1 : getV s = (t, a, e)) (h2 : getV (s.drop a) = (long, b, f)) :
  gt (n + 1) s deep at_ = (if e ≠ 0 then (.nil, e, at_) else if f ≠ 0 then (.nil, f, at_ + a) else if s.length - a - b < long then (.nil, 10, at_ + a + b) else if 6 < deep then (.nil, 13, at_) else
   fin t (if t % 2 = 0 then (s.drop (a + b)).take long else []) (if t % 2 = 0 then (Fo.nil, (0 : Int), 0) else gt n ((s.drop (a + b)).take long) (deep + 1) (at_ + a + b)) (gt n (s.drop (a + b + long)) deep (at_ + (a + b + long)))) := by
 conv => lhs; unfold gt
 rw [if_neg hs]
 simp only [h1, h2]
theorem gt_err (n : Nat) (s : List UInt8) (deep at_ : Nat) (h : (gt n s deep at_).2.1 ≠ 0) : (gt n s deep at_).1 = .nil := by
 cases n with
 | zero => rfl
 | succ n =>
  by_cases hs : s = []
  ·subst hs; rw [gt_nil]
  ·obtain ⟨t, a, e, h1⟩ : ∃ t a e, getV s = (t, a, e) := ⟨_, _, _, rfl⟩
   obtain ⟨long, b, f, h2⟩ : ∃ t b e, getV (s.drop a) = (t, b, e) := ⟨_, _, _, rfl⟩
   rw [gt_step hs h1 h2] at h ⊢
   by_cases c1 : e ≠ 0
   ·rw [if_pos c1]
   rw [if_neg c1] at h ⊢
   by_cases c2 : f ≠ 0
   ·rw [if_pos c2]
   rw [if_neg c2] at h ⊢
   by_cases c3 : s.length - a - b < long
   ·rw [if_pos c3]
   rw [if_neg c3] at h ⊢
   by_cases c4 : 6 < deep
   ·rw [if_pos c4]
   rw [if_neg c4] at h ⊢
   exact fin_err h
theorem gt_item {n : Nat} {t long : Nat} {c : List UInt8} {deep at_ : Nat} (ht : t < 18446744073709551616) (hl : long < 18446744073709551616) :
  gt (n + 1) (encV 9 t ++ (encV 9 long ++ c)) deep at_ = (if c.length < long then (.nil, 10, at_ + (encV 9 t).length + (encV 9 long).length) else if 6 < deep then (.nil, 13, at_) else
   fin t (if t % 2 = 0 then c.take long else []) (if t % 2 = 0 then (Fo.nil, (0 : Int), 0) else gt n (c.take long) (deep + 1) (at_ + (encV 9 t).length + (encV 9 long).length))
    (gt n (c.drop long) deep (at_ + ((encV 9 t).length + (encV 9 long).length + long)))) := by
 have h1 := getV_enc t ht (encV 9 long ++ c)
 have hd1 : (encV 9 t ++ (encV 9 long ++ c)).drop (encV 9 t).length = encV 9 long ++ c := List.drop_left
 have h2 := getV_enc long hl c
 rw [← hd1] at h2
 have hne : encV 9 t ++ (encV 9 long ++ c) ≠ [] := by
  intro h
  have h3 := congrArg List.length h
  rw [List.length_append, List.length_nil] at h3
  have h4 := (encV_length 9 t).1
  omega
 have hd2 : (encV 9 t ++ (encV 9 long ++ c)).drop ((encV 9 t).length + (encV 9 long).length) = c := by
  rw [← List.drop_drop, hd1, List.drop_left]
 have hd3 : (encV 9 t ++ (encV 9 long ++ c)).drop ((encV 9 t).length + (encV 9 long).length + long) = c.drop long := by
  rw [← List.drop_drop, hd2]
 have hlen : (encV 9 t ++ (encV 9 long ++ c)).length - (encV 9 t).length - (encV 9 long).length = c.length := by
  simp only [List.length_append]; omega
 rw [gt_step hne h1 h2, if_neg (by decide), if_neg (by decide), hlen, hd2, hd3]
theorem gt_all (f : Fo) : ∀ (n deep at_ : Nat), f.all.length ≤ n → f.all.length < 18446744073709551616 → f.fit → Fo.right deep f = true → gt n f.all deep at_ = (f, 0, 0) := by
 induction f with
 | nil => intro n deep at_ _ _ _ _; exact gt_nil n deep at_
 | cons t d k r ihk ihr =>
  intro n deep at_ hn h64 hfit hr
  obtain ⟨ht, hfk, hfr⟩ := hfit
  have hpos := Fo.all_pos t d k r
  obtain ⟨n, rfl⟩ : ∃ m, n = m + 1 := ⟨n - 1, by omega⟩
  simp only [Fo.right, Bool.and_eq_true, decide_eq_true_eq] at hr
  obtain ⟨⟨⟨hdeep, hshape⟩, hrk⟩, hrr⟩ := hr
  have hall : (Fo.cons t d k r).all = encV 9 t ++ (encV 9 (Fo.inn t d k.all).length ++ (Fo.inn t d k.all ++ r.all)) := rfl
  have hl := congrArg List.length hall
  simp only [List.length_append] at hl
  have e1 := (encV_length 9 t).1
  have e2 := (encV_length 9 (Fo.inn t d k.all).length).1
  rw [hall, gt_item ht (by omega), if_neg (by rw [List.length_append]; omega), if_neg (by omega), List.take_left, List.drop_left]
  rw [ihr n deep _ (by omega) (by omega) hfr hrr]
  by_cases hodd : t % 2 = 1
  ·rw [if_pos hodd] at hshape
   have hd0 : d = [] := by simpa using hshape
   subst hd0
   have hin : Fo.inn t [] k.all = k.all := by unfold Fo.inn; rw [if_pos hodd]
   rw [hin] at hl e2 ⊢
   rw [if_neg (by omega), if_neg (by omega), ihk n (deep + 1) _ (by omega) (by omega) hfk hrk]
   rfl
  ·rw [if_neg hodd] at hshape
   have hk0 : k = .nil := Fo.len_zero (by simpa using hshape)
   subst hk0
   have hin : Fo.inn t d Fo.nil.all = d := by unfold Fo.inn; rw [if_neg hodd]
   rw [hin, if_pos (by omega), if_pos (by omega)]
   rfl
def byteV (b : UInt8) : Value := .int .u8 (b.toNat : Int)
def Blk (w : World) (g : Nat) (t : TypeId) (cs : Array Value) : Prop := w.heap[g]? = some (.cells cs t (0, 0))
section
variable {w w' : World} {g : Nat} {t : TypeId} {cs : Array Value}
theorem Blk.lt (h : Blk w g t cs) : g < w.heap.size := by
 rcases Nat.lt_or_ge g w.heap.size with hlt | hge
 ·exact hlt
 ·unfold Blk at h; rw [Array.getElem?_eq_none hge] at h; cases h
theorem Blk.cell (h : Blk w g t cs) (i : Nat) : w.cell? ⟨g, i, none⟩ = cs[i]? := cell_of_row w g i cs t (0, 0) h
theorem Blk.frozen (h : Blk w g t cs) (i : Nat) : w.frozen? ⟨g, i, none⟩ = false := by
 unfold Blk at h
 simp [World.frozen?, h]
theorem Blk.new (w : World) (t : TypeId) (cs : Array Value) : Blk (w.alloc (.cells cs t)) w.heap.size t cs := heap_alloc_new w _
theorem Blk.alloc (h : Blk w g t cs) (o : Obj) : Blk (w.alloc o) g t cs := (Below.heap_alloc w o g h.lt).trans h
theorem Blk.set_ (h : Blk w g t cs) (i : Nat) (u : Value) : Blk (w.setCell ⟨g, i, none⟩ u) g t (cs.setIfInBounds i u) := by
 unfold Blk at h ⊢
 simp [World.setCell, Array.getElem?_modify, h]
theorem Blk.far (h : Blk w g t cs) {p : Addr} (hp : g ≠ p.block) (u : Value) : Blk (w.setCell p u) g t cs := (Below.heap_setCell w p u g hp).trans h
theorem Blk.below {B : Nat} (h : Blk w g t cs) (hb : Below B w w') (hg : g < B) : Blk w' g t cs := (hb.block g hg).trans h
theorem Blk.grown {row : Option Nat} (h : Blk w g t cs) (hb : w.grownBy w' row) (hg : some g ≠ row) : Blk w' g t cs := (hb.block g h.lt hg).trans h
end
def Sz (w : World) (n : Nat) : Prop := w.heap.size = n
def Rd (w : World) (d : Nat) (v : Value) (l : List UInt8) : Prop :=
 ∃ A c, v = .slice A l.length c ∧ l.length ≤ c ∧ l.length ≤ 140737488355328 ∧
  (0 < l.length → ∃ off, A = some ⟨d, off, none⟩ ∧ ∀ j b, l[j]? = some b → w.cell? ⟨d, off + j, none⟩ = some (byteV b))
section
variable {w w' : World} {d g : Nat} {v : Value} {l : List UInt8}
theorem Rd.len (h : Rd w d v l) : l.length ≤ 140737488355328 := by
 obtain ⟨_, _, _, h1, h2, _⟩ := h; omega
theorem Rd.nil (w : World) (d : Nat) : Rd w d (.slice none 0 0) [] := ⟨none, 0, rfl, Nat.le_refl _, by simp, fun h => absurd h (by simp)⟩
theorem Rd.keep (h : Rd w d v l) (hk : ∀ o, w'.cell? ⟨d, o, none⟩ = w.cell? ⟨d, o, none⟩) : Rd w' d v l := by
 obtain ⟨A, c, rfl, h1, h2, h3⟩ := h
 refine ⟨A, c, rfl, h1, h2, fun hp => ?_⟩
 obtain ⟨off, rfl, hc⟩ := h3 hp
 exact ⟨off, rfl, fun j b hb => (hk _).trans (hc j b hb)⟩
theorem Rd.lt (h : Rd w d v l) (hl : 0 < l.length) : d < w.heap.size := by
 obtain ⟨A, c, rfl, h1, h2, h3⟩ := h
 obtain ⟨off, rfl, hc⟩ := h3 hl
 exact World.block_lt_of_cell? w _ (hc 0 _ (List.getElem?_eq_getElem hl))
theorem Rd.heap (h : Rd w d v l) (hk : w'.heap[d]? = w.heap[d]?) : Rd w' d v l := h.keep fun _ => World.cell?_of_block (w := w) hk
theorem Rd.heap' (h : Rd w d v l) (hk : d < w.heap.size → w'.heap[d]? = w.heap[d]?) : Rd w' d v l := by
 by_cases hl : 0 < l.length
 ·exact h.heap (hk (h.lt hl))
 ·obtain ⟨A, c, rfl, h1, h2, h3⟩ := h
  exact ⟨A, c, rfl, h1, h2, fun hp => absurd hp hl⟩
theorem Rd.grown (h : Rd w d v l) (hb : w.grownBy w' (some g)) (hd : d ≠ g) : Rd w' d v l := h.heap' fun hlt => hb.block d hlt (by simpa using hd)
theorem Rd.below {B : Nat} (h : Rd w d v l) (hb : Below B w w') (hd : d < B) : Rd w' d v l := h.heap (hb.block d hd)
theorem Rd.below' (h : Rd w d v l) (hb : Below w.heap.size w w') : Rd w' d v l := h.heap' fun hlt => hb.block d hlt
theorem Rd.alloc (h : Rd w d v l) (o : Obj) : Rd (w.alloc o) d v l := h.heap' fun hlt => Below.heap_alloc w o d hlt
theorem Rd.setCell (h : Rd w d v l) {p : Addr} (hd : d ≠ p.block) (u : Value) : Rd (w.setCell p u) d v l := h.heap (Below.heap_setCell w p u d hd)
theorem Rd.block (h : Rd w d v l) (hl : l = []) (d' : Nat) : Rd w d' v l := by
 obtain ⟨A, c, rfl, h1, h2, _⟩ := h
 subst hl
 exact ⟨A, c, rfl, h1, h2, fun hp => absurd hp (by simp)⟩
theorem Rd.of_blk {t : TypeId} (h : Blk w d t (l.map byteV).toArray) (hl : l.length ≤ 140737488355328) : Rd w d (.slice (some ⟨d, 0, none⟩) l.length l.length) l :=
 ⟨_, _, rfl, Nat.le_refl _, hl, fun _ => ⟨0, rfl, fun j b hb => by rw [h.cell]; simp [hb]⟩⟩
end
def Win (w : World) (g d : Nat) (l : List UInt8) (e : Int) : Prop := ∃ v, Blk w g 132 #[v, .int .i64 e] ∧ Rd w d v l
section
variable {w w' : World} {d g g' : Nat} {l : List UInt8} {e : Int}
theorem Win.lt (h : Win w g d l e) : g < w.heap.size := by obtain ⟨v, hb, _⟩ := h; exact hb.lt
theorem Win.grown (h : Win w g d l e) (hb : w.grownBy w' (some g')) (hg : g ≠ g') (hd : d ≠ g') : Win w' g d l e := by
 obtain ⟨v, h1, h2⟩ := h
 exact ⟨v, h1.grown hb (by simpa using hg), h2.grown hb hd⟩
theorem Win.below (h : Win w g d l e) (hb : Below w.heap.size w w') : Win w' g d l e := by
 obtain ⟨v, h1, h2⟩ := h
 exact ⟨v, h1.below hb h1.lt, h2.below' hb⟩
theorem Win.alloc (h : Win w g d l e) (o : Obj) : Win (w.alloc o) g d l e := by
 obtain ⟨v, h1, h2⟩ := h
 exact ⟨v, h1.alloc o, h2.alloc o⟩
theorem Win.block (h : Win w g d l e) (hl : l = []) (d' : Nat) : Win w g d' l e := by
 obtain ⟨v, h1, h2⟩ := h
 exact ⟨v, h1, h2.block hl d'⟩
end
def fitsB (n : Int) : Bool := decide (1 ≤ n) && decide (n ≤ 8)
theorem fits_any (n : Int) (w : World) : Calls Tryz.prog 122 #[.int .i64 n] w fun e w' => e = .returned (.bool (fitsB n)) ∧ w = w' := by
 by_cases h1 : 1 ≤ n
 ·go_enter Tryz.func122, Tryz.ntmps122
  go_wp2
  go_ret
  exact ⟨by simp [fitsB, h1], rfl⟩
 ·have h2 : decide (1 ≤ n) = false := by simpa using h1
  go_enter Tryz.func122, Tryz.ntmps122
  go_wp2
  go_ret
  exact ⟨by rw [fitsB, h2]; simp, rfl⟩
theorem err_any (g d : Nat) (l : List UInt8) (e : Int) (w : World) (h : Win w g d l e) :
  Calls Tryz.prog 107 #[.pointer (some ⟨g, 0, none⟩)] w fun r w' => r = .returned (.int .i64 e) ∧ w = w' := by
 obtain ⟨v, hb, hr⟩ := h
 have h1 : w.cell? ⟨g, 1, none⟩ = some (.int .i64 e) := by rw [hb.cell]; rfl
 go_enter Tryz.func107, Tryz.ntmps107
 go_wp2
 go_ret
 exact ⟨rfl, rfl⟩
theorem left_any (g d : Nat) (l : List UInt8) (e : Int) (w : World) (h : Win w g d l e) :
  Calls Tryz.prog 56 #[.pointer (some ⟨g, 0, none⟩)] w fun r w' => r = .returned (.int .i64 (l.length : Int)) ∧ w = w' := by
 obtain ⟨v, hb, A, c, rfl, -, -, -⟩ := h
 have h1 : w.cell? ⟨g, 0, none⟩ = some (.slice A l.length c) := by rw [hb.cell]; rfl
 go_enter Tryz.func56, Tryz.ntmps56
 go_wp2
 go_ret
 exact ⟨rfl, rfl⟩
theorem cl3 {w : World} {g : Nat} {t : TypeId} {x0 x1 x2 : Value} (h : Blk w g t #[x0, x1, x2]) : w.cell? ⟨g, 0, none⟩ = some x0 ∧ w.cell? ⟨g, 1, none⟩ = some x1 ∧ w.cell? ⟨g, 2, none⟩ = some x2 := ⟨h.cell 0, h.cell 1, h.cell 2⟩
theorem cl6 {w : World} {g : Nat} {t : TypeId} {x0 x1 x2 x3 x4 x5 : Value} (h : Blk w g t #[x0, x1, x2, x3, x4, x5]) : w.cell? ⟨g, 0, none⟩ = some x0 ∧ w.cell? ⟨g, 1, none⟩ = some x1 ∧ w.cell? ⟨g, 2, none⟩ = some x2 ∧ w.cell? ⟨g, 3, none⟩ = some x3 ∧ w.cell? ⟨g, 4, none⟩ = some x4 ∧ w.cell? ⟨g, 5, none⟩ = some x5 := ⟨h.cell 0, h.cell 1, h.cell 2, h.cell 3, h.cell 4, h.cell 5⟩
theorem cl9 {w : World} {g : Nat} {t : TypeId} {x0 x1 x2 x3 x4 x5 x6 x7 x8 : Value} (h : Blk w g t #[x0, x1, x2, x3, x4, x5, x6, x7, x8]) : w.cell? ⟨g, 0, none⟩ = some x0 ∧ w.cell? ⟨g, 1, none⟩ = some x1 ∧ w.cell? ⟨g, 2, none⟩ = some x2 ∧ w.cell? ⟨g, 3, none⟩ = some x3 ∧ w.cell? ⟨g, 4, none⟩ = some x4 ∧ w.cell? ⟨g, 5, none⟩ = some x5 ∧ w.cell? ⟨g, 6, none⟩ = some x6 ∧ w.cell? ⟨g, 7, none⟩ = some x7 ∧ w.cell? ⟨g, 8, none⟩ = some x8 := ⟨h.cell 0, h.cell 1, h.cell 2, h.cell 3, h.cell 4, h.cell 5, h.cell 6, h.cell 7, h.cell 8⟩
end Go.Proofs.YtleidkpdpabkpaaGreatDoor
