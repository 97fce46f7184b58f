/- VarRef TlvGot ValNum SpcMem SpcRefA ForestB SpcRefB -/
import Derived.Test.YtleidkpdpabkpaaGreatDoorBM4
set_option linter.unusedSimpArgs false
set_option linter.unusedVariables false
set_option maxRecDepth 100000
set_option maxHeartbeats 8000000
namespace Go.Proofs.YtleidkpdpabkpaaGreatDoor
open Go.RowKit
section
attribute [local go_sem ↓] Go.wp_at_zero Go.wp_at_succ
theorem txt_append (a b : List UInt8) : txt a ++ txt b = txt (a ++ b) := by
 apply txt_ext
 rw [ByteArray.data_append, Array.toList_append, txt_data, txt_data, txt_data]
theorem lit1 (w : World) (b : UInt8) : Rd (w.alloc (.cells #[byteV b] 5)) w.heap.size (.slice (some ⟨w.heap.size, 0, none⟩) 1 1) [b] :=
 Rd.of_blk (l := [b]) (Blk.new w 5 _) (by simp)
def RPutPost (f x : Nat) (w : World) (r : Ending) (w' : World) : Prop := r = .returned (.string (txt (encV f x))) ∧ Below w.heap.size w w'
theorem group_byte (x : Nat) : IntKind.u8.wrap (IntKind.u8.wrap ((x : Int).tmod 128) + 128) = ((UInt8.ofNat (x % 128 + 128)).toNat : Int) := by
 have ht : (x : Int).tmod 128 = ((x % 128 : Nat) : Int) := Int.tmod_eq_emod_of_nonneg (by omega)
 have hq : x % 128 < 128 := Nat.mod_lt _ (by decide)
 rw [ht, ofNat_toNat, IntKind.wrap_u8, IntKind.wrap_u8]
 generalize x % 128 = q at hq
 omega
theorem group_rest (x : Nat) (h : x < 18446744073709551616) : IntKind.u64.wrap ((x : Int) / 128) = ((x / 128 : Nat) : Int) := by
 rw [IntKind.wrap_u64]; omega
theorem rput_any (f : Nat) (hf : f ≤ 100) : ∀ (x : Nat) (w : World), x < 128 ^ (f + 1) → x < 18446744073709551616 → Calls Tryz.prog 39 #[.int .u64 (x : Int)] w (RPutPost f x w) := by
 induction f with
 | zero =>
  intro x w h1 h2
  have hx : x < 128 := by simpa using h1
  have hst : (convert 25 9 (.slice (some ⟨w.heap.size, 0, none⟩) 1 1)).run Tryz.prog (w.alloc (.cells #[.int .u8 (x : Int)] 5)) = .ok (.string (txt [UInt8.ofNat x])) (w.alloc (.cells #[.int .u8 (x : Int)] 5)) := by
   have hb : byteV (UInt8.ofNat x) = .int .u8 (x : Int) := by unfold byteV; rw [ofNat_toNat]; congr 1; omega
   rw [← hb]
   exact str_of (lit1 w _)
  have HE := hHd (encV_small 0 x hx)
  clear h1 h2
  go_enter Tryz.func39, Tryz.ntmps39
  go_wp2_with fail
  go_ret
  exact ⟨by rw [HE.out]; rfl, bAl⟩
 | succ f ih =>
  intro x w h1 h2
  by_cases hx : x < 128
  ·have hst : (convert 25 9 (.slice (some ⟨w.heap.size, 0, none⟩) 1 1)).run Tryz.prog (w.alloc (.cells #[.int .u8 (x : Int)] 5)) = .ok (.string (txt [UInt8.ofNat x])) (w.alloc (.cells #[.int .u8 (x : Int)] 5)) := by
    have hb : byteV (UInt8.ofNat x) = .int .u8 (x : Int) := by unfold byteV; rw [ofNat_toNat]; congr 1; omega
    rw [← hb]
    exact str_of (lit1 w _)
   have HE := hHd (encV_small (f + 1) x hx)
   clear h1 h2 ih
   go_enter Tryz.func39, Tryz.ntmps39
   go_wp2_with fail
   go_ret
   exact ⟨by rw [HE.out]; rfl, bAl⟩
  ·have HE := hHd (encV_big f x hx)
   have hq : x / 128 < 128 ^ (f + 1) := by rw [Nat.pow_succ] at h1; omega
   obtain ⟨b, hb⟩ : ∃ b, b = UInt8.ofNat (x % 128 + 128) := ⟨_, rfl⟩
   obtain ⟨E, hE⟩ : ∃ E, E = encV f (x / 128) := ⟨_, rfl⟩
   have hcat : ¬ 9223372036854775807 < (txt [b]).size + (txt E).size := by
    have h := (encV_length f (x / 128)).2
    rw [txt_size, txt_size, hE]
    simp only [List.length_cons, List.length_nil]
    omega
   have hv := group_byte x
   rw [← hb] at hv
   have HV := hHd hv
   have HEE := hHd hE
   have HBB := hHd hb
   have HR := hHd (group_rest x h2)
   have HI : Hid (∀ (W : World) (xI : Int), xI = ((x / 128 : Nat) : Int) → Calls Tryz.prog 39 #[.int .u64 xI] W (RPutPost f (x / 128) W)) := fun W xI e => by
    rw [e]; exact ih (by omega) (x / 128) W hq (by omega)
   clear ih h1 hq h2 hv hE hb
   go_enter Tryz.func39, Tryz.ntmps39
   go_wp2_with fail
   refine wp_region_noPanic ?_
   refine wp_region_held_drew (S := fun _ => True) (by kernel_rfl) trivial (fun hS => ?_)
   refine tkH 0 hS ?_
   refine tkH 1 hS ?_
   refine tkH 2 hS ?_
   refine tkH 3 hS ?_
   refine tkH 6 hS ?_
   refine tkH 7 hS ?_
   refine rdy [4, 8] (rdC (fun K hK => ?st_0) (rdC (fun K hK => ?st_1) .nil))
   case' st_0 =>
    have hv := HV.out
    go_simp
    clear hv
    refine hK.out _ _ ?s_0 (fun hS => ?_)
    case s_0 => (exact hS)
    clear hK K
    (try simp only [Act.put, layS])
    refine held_more (S' := fun w' => Rd w' w.heap.size (.slice (some ⟨w.heap.size, 0, none⟩) 1 1) [b]) (fun _ _ => trivial) _ _ _ _ ?_
    replace hS := lit1 w.drew (b)
    refine tkH 5 hS ?_ (hy := fun w hSw => by have hc : (convert 25 9 _).run Tryz.prog _ = .ok (.string (txt [b])) _ := str_of hSw; (go_simp <;> with_reducible rfl))
    refine rdy1 8 fun K hK => ?_
    go_simp
    refine (HI.out _ _ HR.out).mono ?_
    rintro r w8 ⟨rfl, hb8⟩
    rw [← HEE.out]
    go_wp2_with fail
    refine hK.out _ _ ?s_2 (fun hS => ?_)
    case s_2 => (exact hS.below' hb8)
    clear hK K
    (try simp only [Act.put, layS])
    refine tkH 9 hS ?_
    refine tkH 10 hS ?_
    refine wpAnyH_done (by kernel_rfl) ?_ _
    refine NoPanic.normal ?_
   case' st_1 =>
    go_simp
    refine (HI.out _ _ HR.out).mono ?_
    rintro r w8 ⟨rfl, hb8⟩
    rw [← HEE.out]
    go_wp2_with fail
    refine hK.out _ _ ?s_1 (fun hS => ?_)
    case s_1 => (exact hS)
    clear hK K
    (try simp only [Act.put, layS])
    refine rdy1 4 fun K hK => ?_
    have hv := HV.out
    go_simp
    clear hv
    refine hK.out _ _ ?s_3 (fun hS => ?_)
    case s_3 => (exact hS)
    clear hK K
    (try simp only [Act.put, layS])
    refine held_more (S' := fun w' => Rd w' w8.heap.size (.slice (some ⟨w8.heap.size, 0, none⟩) 1 1) [b]) (fun _ _ => trivial) _ _ _ _ ?_
    replace hS := lit1 w8 (b)
    refine tkH 5 hS ?_ (hy := fun w hSw => by have hc : (convert 25 9 _).run Tryz.prog _ = .ok (.string (txt [b])) _ := str_of hSw; (go_simp <;> with_reducible rfl))
    refine tkH 9 hS ?_
    refine tkH 10 hS ?_
    refine wpAnyH_done (by kernel_rfl) ?_ _
    refine NoPanic.normal ?_
   ·have hbel : Below w.heap.size w w8 := (Below.refl _ _).drew.trans (hb8.mono (Nat.le_refl _))
    have hs8 := hb8.size
    go_wp2_with fail
    go_ret
    exact ⟨by rw [HE.out, ← HBB.out, ← HEE.out]; exact congrArg (fun s => Ending.returned (.string s)) (txt_append [b] E), hbel.alloc hs8 _⟩
   ·have hbel : Below w.heap.size w w8 := (((Below.refl _ _).drew.alloc (Nat.le_refl _) _).trans (hb8.mono (by simp)))
    go_wp2_with fail
    go_ret
    exact ⟨by rw [HE.out, ← HBB.out, ← HEE.out]; exact congrArg (fun s => Ending.returned (.string s)) (txt_append [b] E), hbel⟩
end
def joinF (p : Fo) (x : Fo × Int × Nat) : Fo × Int × Nat := if x.2.1 = 0 then (p.app x.1, 0, 0) else (.nil, x.2.1, x.2.2)
theorem joinF_app (p q : Fo) (x : Fo × Int × Nat) : joinF (p.app q) x = joinF p (joinF q x) := by
 unfold joinF
 by_cases h : x.2.1 = 0
 ·rw [if_pos h, if_pos h]; simp [Fo.app_assoc]
 ·rw [if_neg h, if_neg h, if_neg h]
theorem fin_join {t : Nat} {d : List UInt8} {k r : Fo × Int × Nat} (h : k.2.1 = 0) : fin t d k r = joinF (.cons t d k.1 .nil) r := by
 unfold fin joinF
 rw [if_neg (by rw [h]; decide)]
 by_cases h2 : r.2.1 = 0
 ·rw [if_neg (by rw [h2]; decide), if_pos h2]; rfl
 ·rw [if_pos h2, if_neg h2]
theorem gt_zero (n : Nat) (s : List UInt8) (deep at_ : Nat) (h : (gt n s deep at_).2.1 = 0) : (gt n s deep at_).2.2 = 0 := by
 cases n with
 | zero => rfl
 | succ n =>
  by_cases hs : s = []
  ·subst hs; rw [gt_nil]
  ·obtain ⟨t, a, e, h1⟩ : ∃ t a e, getV s = (t, a, e) := ⟨_, _, _, rfl⟩
   obtain ⟨long, b, f, h2⟩ : ∃ t b e, getV (s.drop a) = (t, b, e) := ⟨_, _, _, rfl⟩
   rw [gt_step hs h1 h2] at h ⊢
   by_cases c1 : e ≠ 0
   ·rw [if_pos c1] at h; exact absurd h c1
   rw [if_neg c1] at h ⊢
   by_cases c2 : f ≠ 0
   ·rw [if_pos c2] at h; exact absurd h c2
   rw [if_neg c2] at h ⊢
   by_cases c3 : s.length - a - b < long
   ·rw [if_pos c3] at h; exact absurd (show (10 : Int) = 0 from h) (by decide)
   rw [if_neg c3] at h ⊢
   by_cases c4 : 6 < deep
   ·rw [if_pos c4] at h; exact absurd (show (13 : Int) = 0 from h) (by decide)
   rw [if_neg c4] at h ⊢
   rw [(fin_ok h).2.2]
theorem joinF_nil (n : Nat) (s : List UInt8) (deep at_ : Nat) : joinF .nil (gt n s deep at_) = gt n s deep at_ := by
 unfold joinF
 by_cases h : (gt n s deep at_).2.1 = 0
 ·rw [if_pos h]
  exact Prod.ext rfl (Prod.ext h.symm (gt_zero n s deep at_ h).symm)
 ·rw [if_neg h]
  exact Prod.ext (gt_err n s deep at_ h).symm rfl
def Got3 (x : Fo × Int × Nat) (w : World) (r : Ending) (w' : World) : Prop :=
 ∃ v, r = .returned (.tuple #[v, .int .i64 x.2.1, .int .i64 (x.2.2 : Int)]) ∧ FV DataR w' (MineI w.heap.size w') v x.1 ∧ Below w.heap.size w w'
theorem Got3.err {x : Fo × Int × Nat} {e : Int} {o : Nat} {w w' : World} (hx : x = (.nil, e, o)) (hb : Below w.heap.size w w') : Got3 x w (.returned (.tuple #[.slice none 0 0, .int .i64 e, .int .i64 (o : Int)])) w' := by
 subst hx
 exact ⟨_, rfl, FV.nil _ _, hb⟩
def gotOf (s : List UInt8) : Fo × Int × Nat := if 8192 < s.length then (.nil, 14, 0) else gt s.length s 1 0
structure Vl where
 kind : Int
 num : Nat
 text : List UInt8
theorem Vl.ext_ {a b : Vl} (h1 : a.kind = b.kind) (h2 : a.num = b.num) (h3 : a.text = b.text) : a = b := by cases a; cases b; simp_all
instance : DecidableEq Vl := fun a b => decidable_of_iff (a.kind = b.kind ∧ a.num = b.num ∧ a.text = b.text) ⟨fun ⟨h1, h2, h3⟩ => Vl.ext_ h1 h2 h3, fun h => by subst h; exact ⟨rfl, rfl, rfl⟩⟩
def whichX : List (List UInt8) → List UInt8 → Option Nat
 | [], _ => none
 | x :: l, s => if x = s then some 0 else (whichX l s).map (· + 1)
def whichI (l : List (List UInt8)) (s : List UInt8) : Int := match whichX l s with
 | none => -1
 | some i => (i : Int)
theorem which_some {l : List (List UInt8)} {s : List UInt8} : ∀ {i : Nat}, whichX l s = some i → l[i]? = some s ∧ ∀ j y, j < i → l[j]? = some y → y ≠ s := by
 induction l with
 | nil => intro i h; cases h
 | cons x l ih =>
  intro i h
  unfold whichX at h
  by_cases e : x = s
  ·rw [if_pos e] at h
   injection h with h
   subst h e
   exact ⟨rfl, fun j y hj => by omega⟩
  ·rw [if_neg e] at h
   cases hr : whichX l s with
   | none => rw [hr] at h; cases h
   | some m =>
    rw [hr] at h
    have h : m + 1 = i := by injection h
    subst h
    obtain ⟨h1, h2⟩ := ih hr
    refine ⟨h1, fun j y hj hy => ?_⟩
    cases j with
    | zero => injection hy with hy; subst hy; exact e
    | succ j => exact h2 j y (by omega) hy
theorem which_none {l : List (List UInt8)} {s : List UInt8} (h : whichX l s = none) : ∀ (j : Nat) (y : List UInt8), l[j]? = some y → y ≠ s := by
 induction l with
 | nil => intro j y hy; simp at hy
 | cons x l ih =>
  intro j y hy
  unfold whichX at h
  by_cases e : x = s
  ·rw [if_pos e] at h; cases h
  ·rw [if_neg e] at h
   cases hr : whichX l s with
   | some m => rw [hr] at h; cases h
   | none =>
    cases j with
    | zero => injection hy with hy; subst hy; exact e
    | succ j => exact ih hr j y hy
theorem which_is {l : List (List UInt8)} {s : List UInt8} {i : Nat} (h1 : l[i]? = some s) (h2 : ∀ (j : Nat) (y : List UInt8), j < i → l[j]? = some y → y ≠ s) : whichX l s = some i := by
 cases h : whichX l s with
 | none => exact absurd rfl (which_none h i s h1)
 | some m =>
  obtain ⟨g1, g2⟩ := which_some h
  rcases Nat.lt_trichotomy i m with hl | rfl | hl
  ·exact absurd rfl (g2 i s hl h1)
  ·rfl
  ·exact absurd rfl (h2 m s hl g1)
theorem which_no {l : List (List UInt8)} {s : List UInt8} (h : ∀ (j : Nat) (y : List UInt8), l[j]? = some y → y ≠ s) : whichX l s = none := by
 cases hw : whichX l s with
 | none => rfl
 | some m => exact absurd rfl (h m s (which_some hw).1)
def rightX (a : SpD) (v : Vl) : Bool := decide (a.kind = 1) && decide (v.kind = (a.typ : Int)) && (
 if a.typ = 1 ∨ a.typ = 2 then decide (a.low ≤ v.num) && decide (v.num ≤ a.high) && decide (v.text = [])
 else if a.typ = 3 then decide (v.num < 2) && decide (v.text = [])
 else if a.typ = 4 then (whichX a.names v.text).isSome && decide (v.num = 0)
 else if a.typ = 5 ∨ a.typ = 6 then identX v.text && decide (v.num = 0)
 else false)
def leastB (x : Nat) : List UInt8 := bigB x (lenB 8 x)
def SpcD : RdOf SpD := fun w N cs a => ∃ nv kv d, cs = [.string (txt a.name), .int .i64 (a.kind : Int), .int .i64 (a.typ : Int), .int .u64 (a.low : Int), .int .u64 (a.high : Int), nv, .bool a.must, .int .i64 (a.most : Int), kv] ∧
 Vals w d nv (txts a.names) ∧ (0 < a.names.length → N d) ∧ kv.oneCell' = true
theorem txts_len (l : List (List UInt8)) : (txts l).length = l.length := by simp [txts]
theorem Vals.heap {w w' : World} {d : Nat} {v : Value} {xs : List Value} (h : Vals w d v xs) (hk : 0 < xs.length → w'.heap[d]? = w.heap[d]?) : Vals w' d v xs := by
 obtain ⟨A, c, rfl, h1, h2⟩ := h
 refine ⟨A, c, rfl, h1, fun h0 => ?_⟩
 obtain ⟨hlt, off, rfl, hc⟩ := h2 h0
 have hb := hk h0
 refine ⟨?_, off, rfl, fun j u hj => (World.cell?_of_block (w := w) (a := ⟨d, off + j, none⟩) hb).trans (hc j u hj)⟩
 rw [Array.getElem?_eq_getElem hlt] at hb
 exact (Array.getElem?_eq_some_iff.1 hb).1
theorem stay_spc : StayD SpcD := by
 intro w w' N N' cs a hk hN ⟨nv, kv, d, h1, h2, h3, h4⟩
 refine ⟨nv, kv, d, h1, h2.heap (fun h0 => hk d (h3 ?_)), fun h0 => hN d (h3 h0), h4⟩
 rwa [txts_len] at h0
theorem one_spc : OneD SpcD := by
 intro w N cs a ⟨nv, kv, d, h1, ⟨A, c, h2, _⟩, _, h4⟩ u hu
 subst h1 h2
 simp only [List.mem_cons, List.not_mem_nil, or_false] at hu
 rcases hu with rfl | rfl | rfl | rfl | rfl | rfl | rfl | rfl | rfl <;> first | rfl | exact h4
abbrev SpN (w : World) (S N : Nat → Prop) (cs : List Value) (x : Sp) : Prop := FrN SpcD 9 8 w S N cs x.1 x.2
theorem SpN.shape {w : World} {S N : Nat → Prop} {cs : List Value} {x : Sp} (h : SpN w S N cs x) :
  ∃ B m A c d, cs = [.string (txt x.1.name), .int .i64 (x.1.kind : Int), .int .i64 (x.1.typ : Int), .int .u64 (x.1.low : Int), .int .u64 (x.1.high : Int), .slice B x.1.names.length m, .bool x.1.must, .int .i64 (x.1.most : Int), .slice A x.2.len c] ∧
   Vals w d (.slice B x.1.names.length m) (txts x.1.names) ∧ (0 < x.1.names.length → N d) ∧ FrV SpcD 9 8 w S N (.slice A x.2.len c) x.2 := by
 obtain ⟨_, ⟨nv, kv, d, rfl, h2, h3, _⟩, v, h5, h6⟩ := h
 obtain ⟨A, c, rfl⟩ := h6.shape
 simp at h5
 subst h5
 obtain ⟨B, m, e⟩ := h2.shape
 rw [txts_len] at e
 subst e
 exact ⟨B, m, A, c, d, rfl, h2, h3, h6⟩
theorem SpN.make {w : World} {S N : Nat → Prop} {a : SpD} {k : SpF} {nv kv : Value} {d : Nat} (h1 : Vals w d nv (txts a.names)) (h2 : 0 < a.names.length → N d) (h3 : FrV SpcD 9 8 w S N kv k) :
  SpN w S N [.string (txt a.name), .int .i64 (a.kind : Int), .int .i64 (a.typ : Int), .int .u64 (a.low : Int), .int .u64 (a.high : Int), nv, .bool a.must, .int .i64 (a.most : Int), kv] (a, k) := by
 refine ⟨rfl, ⟨nv, kv, d, rfl, h1, h2, ?_⟩, kv, rfl, h3⟩
 obtain ⟨A, c, rfl⟩ := h3.shape
 rfl
def Fresh (base : Nat) (w : World) (g : Nat) : Prop := base ≤ g ∧ ∃ cs t, w.heap[g]? = some (.cells cs t (0, 0))
theorem Fresh.lt {base : Nat} {w : World} {g : Nat} (h : Fresh base w g) : g < w.heap.size := by
 obtain ⟨_, cs, t, h⟩ := h
 exact (Array.getElem?_eq_some_iff.1 h).1
theorem Fresh.below {base : Nat} {w w' : World} {g : Nat} (h : Fresh base w g) (hb : Below w.heap.size w w') : Fresh base w' g := by
 have hl := h.lt
 obtain ⟨h0, cs, t, h⟩ := h
 exact ⟨h0, cs, t, (hb.block g hl).trans h⟩
def NewSp (base : Nat) (w : World) (cs : List Value) (x : Sp) : Prop := ∃ S N, (∀ g, S g → Fresh base w g) ∧ (∀ g, N g → Fresh base w g ∧ ¬ S g) ∧ SpN w S N cs x
def SpP (x : Sp × Nat) (w : World) (r : Ending) (w' : World) : Prop := ∃ cs, r = .returned (.tuple #[.agg cs.toArray, .int .i64 (x.2 : Int)]) ∧ NewSp w.heap.size w' cs x.1 ∧ Below w.heap.size w w'
def AnsP (v : Value) (w : World) (r : Ending) (w' : World) : Prop := r = .returned v ∧ Below w.heap.size w w'
theorem rfind_any (n : List UInt8) (S N : Nat → Prop) (cs : List Value) (x : Sp) (w : World) (hx : SpN w S N cs x) (hS : ∀ g, S g → g < w.heap.size) (hl : x.2.len ≤ 1000000) :
  Calls Tryz.prog 96 #[.agg cs.toArray, .string (txt n)] w (AnsP (.int .i64 (findI n x.2)) w) := by
 obtain ⟨B, m, A, c, d, rfl, -, -, hk⟩ := hx.shape
 have hB : Below w.heap.size w (w.alloc (.cells (cT x.1.name x.1.kind x.1.typ x.1.low x.1.high x.1.names x.1.must x.1.most B m A x.2.len c) 109)) := bAl
 have HB := hHd hB
 have tn : (txt n).toList = n := txt_toList n
 have HK := hHd hk
 clear hk hx hB
 go_enter Tryz.func96, Tryz.ntmps96
 go_wp2
 go_loop [5] (fun i => ∃ k : Nat, k ≤ x.2.len ∧ i = .int .i64 (k : Int) ∧ Hid (∀ j y, j < k → x.2.get? j = some y → y.1.name ≠ n)) (fun i => x.2.len - (intOf i).toNat)
 case atStart => exact ⟨0, Nat.zero_le _, rfl, hHd (fun j y h => by omega)⟩
 case round =>
  obtain ⟨k, hk, rfl, HL⟩ := hrel
  by_cases hlt : k < x.2.len
  ·obtain ⟨a, q, hg⟩ := Fr.get_some hlt
   obtain ⟨b, o, c', cs', e, -, hSb, hN, hcl⟩ := HK.out.at hg
   injection e with e1 e2 e3
   subst e1 e3
   obtain ⟨B', m', A', c'', d', rfl, -, -, -⟩ := SpN.shape (x := (a, q)) hN
   have i1 : (0 : Int) ≤ (k : Int) := by omega
   have i2 : (k : Int) < (x.2.len : Int) := by omega
   have q0 : (w.alloc (.cells (cS (txt x.1.name) x.1.kind x.1.typ x.1.low x.1.high (.slice B x.1.names.length m) x.1.must x.1.most (.slice (some ⟨b, o, none⟩) x.2.len c)) 109)).cell? ⟨b, o + k * 9, none⟩ = some (.string (txt a.name)) := (HB.out.cell (p := ⟨b, o + k * 9, none⟩) (hS b hSb)).trans (hcl 0 _ rfl)
   have ta : (txt a.name).toList = a.name := txt_toList _
   have HG := hHd hg
   clear hcl hN hg e2 hSb
   by_cases hn : a.name = n
   ·have h1 : (a.name == n) = true := beq_iff_eq.2 hn
    have HF : Hid (findI n x.2 = (k : Int)) := hHd (by unfold findI; rw [find_is HG.out hn HL.out])
    clear hn
    go_wp2
    go_ret
    exact ⟨by rw [HF.out]; rfl, HB.out⟩
   ·have h1 : (a.name == n) = false := beq_eq_false_iff_ne.2 hn
    have HL2 : Hid (∀ j y, j < k + 1 → x.2.get? j = some y → y.1.name ≠ n) := hHd (fun j y hj hy => by
     by_cases e : j = k
     ·subst e; rw [HG.out] at hy; injection hy with hy; subst hy; exact hn
     ·exact HL.out j y (by omega) hy)
    clear hn
    go_wp2
    go_round
    case rel => exact ⟨k + 1, by omega, by go_num, HL2⟩
    case measure => simp [intOf]; omega
  ·have HF : Hid (findI n x.2 = -1) := hHd (by unfold findI; rw [find_no (fun j y hy => HL.out j y (by have := Fr.get_lt hy; omega) hy)])
   have i2 : ¬ (k : Int) < (x.2.len : Int) := by omega
   go_wp2
   go_ret
   exact ⟨by rw [HF.out]; rfl, HB.out⟩
section
variable {α : Type} {D : RdOf α} {e : TypeId} {K p : Nat} {w w' : World} {base : Nat} {S S' N N' : Nat → Prop} {v : Value} {f : Fr α}
theorem FrV.lit {g c : Nat} {xs : List Value} (hS : S g) (hb : Blk w g e xs.toArray) (hr : rowG D K p w S N xs f) (hc : f.len ≤ c) : FrV D K p w S N (.slice (some ⟨g, 0, none⟩) f.len c) f :=
 ⟨_, c, rfl, hc, fun _ => ⟨g, 0, rfl, hS, hr.at (fun j u hj => by
  rw [Nat.zero_add, hb.cell]
  simpa using hj)⟩⟩
theorem OwnK.lit {k n g : Nat} {xs : List Value} (hb : Blk w g e xs.toArray) (hg : base ≤ g) (hl : xs.length = n * k) (hn : n ≤ maxLen) : OwnK e k w base (.slice (some ⟨g, 0, none⟩) n n) n xs :=
 ⟨hl, .inr ⟨g, n, xs.toArray, rfl, hg, hb, Nat.le_refl _, hn, by simpa using hl, by simp [← hl]⟩⟩
theorem OwnG.lit {g : Nat} {xs : List Value} (hb : Blk w g e xs.toArray) (hg : base ≤ g) (hn : f.len ≤ maxLen) (hr : rowG D K p w S N xs f) (hS : ∀ k, S k → k < w.heap.size ∧ k ≠ g) (hN : ∀ k, N k → k < w.heap.size ∧ k ≠ g) : OwnG D e K p w base S N (.slice (some ⟨g, 0, none⟩) f.len f.len) f :=
 ⟨fun k hk => ⟨(hS k hk).1, by intro h; injection h with h; exact (hS k hk).2 h⟩, fun k hk => ⟨(hN k hk).1, by intro h; injection h with h; exact (hN k hk).2 h⟩, xs, OwnK.lit hb hg hr.len hn, hr⟩
theorem OwnG.grown (hD : StayD D) {row : Option Nat} (h : OwnG D e K p w base S N v f) (hg : w.grownBy w' row) (hne : v.ownBlock = none ∨ v.ownBlock ≠ row) (hS : ∀ g, S g → some g ≠ row) (hN : ∀ g, N g → some g ≠ row) : OwnG D e K p w' base S N v f := by
 obtain ⟨h1, h2, xs, h3, h4⟩ := h
 exact ⟨fun g hg' => ⟨Nat.lt_of_lt_of_le (h1 g hg').1 hg.size, (h1 g hg').2⟩, fun g hg' => ⟨Nat.lt_of_lt_of_le (h2 g hg').1 hg.size, (h2 g hg').2⟩, xs, h3.grown hg hne,
  h4.kept hD (fun g hg' => hg.block g (h1 g hg').1 (hS g hg')) (fun _ h => h) (fun g hg' => hg.block g (h2 g hg').1 (hN g hg')) (fun _ h => h)⟩
def AppG (D : RdOf α) (e : TypeId) (K p : Nat) (base : Nat) (S N : Nat → Prop) (w : World) (v : Value) (f : Fr α) (v' : Value) (w' : World) : Prop :=
 OwnG D e K p w' base S N v' f ∧ w.grownBy w' v.ownBlock ∧ (v'.ownBlock = v.ownBlock ∨ v'.ownBlock = some w.heap.size) ∧ ∃ g c, v' = .slice (some ⟨g, 0, none⟩) f.len c
theorem AppG.below {v' : Value} {g : Fr α} (h : AppG D e K p base S N w v g v' w') (hown : OwnG D e K p w base S N v f) (hb : base ≤ w.heap.size) : Below base w w' :=
 (Below.refl _ _).grown h.2.1 hb fun b e => (hown.lt b e).1
theorem wpList_append_g {P : Program} (hD : StayD D) (hO : OneD D) {ts : TypeId} {z : Value} {bytes : Nat} (hu : P.underlying ts = some (.slice e))
  (hinfo : (P.info? e).map (fun i => (i.zero, i.size, i.bytes)) = some (some z, K, bytes)) (hz : z.cells.size = K) (hk : 0 < K) {ops : Array Oper} {rest : List Oper} {o : Oper} {a : Act} {Q : Exit → Act → World → Prop} (hgd : o.guard = none) (s x : Operand)
  (ho : o.op = .call { callee := .builtin .append, args := #[s, x], argTypes := #[ts, ts] }) (hty : o.type = ts)
  (hs : a.eval s = v) (hown : OwnG D e K p w base S N v f) {g : Nat} (hx : a.eval x = .slice (some ⟨g, 0, none⟩) 1 1)
  {ys : List Value} {d : α} {q : Fr α} (hblk : Blk w g e ys.toArray) (hy : FrN D K p w S N ys d q)
  (hb : (f.len + 1) * bytes ≤ 140737488355328) (hlen : f.len + 1 ≤ 140737488355328) (hbase : base ≤ w.heap.size)
  (hK : ∀ v' w', AppG D e K p base S N w v (f.app (.cons d q .nil)) v' w' → wpList P ops Q rest (a.put o.dst v') w') : wpList P ops Q (o :: rest) a w := by
 obtain ⟨hS, hN, xs, h1, h2⟩ := hown
 have hown : OwnG D e K p w base S N v f := ⟨hS, hN, xs, h1, h2⟩
 refine wpList_append_k hu hinfo hz hk hgd s x ho hty base v f.len xs hs h1 g hx ys hblk hy.1 (hO _ _ _ _ hy.2.1) hb hlen hbase fun v' w' hap => hK v' w' ?_
 obtain ⟨k1, k2, k3, gg, c, k4⟩ := hap
 have hl : (f.app (.cons d q .nil)).len = f.len + 1 := by rw [Fr.len_app]; rfl
 exact ⟨hown.app hD h2 (by rw [hl]; exact k1) k2 k3 (rowG.one hy), k2, k3, gg, c, by rw [hl]; exact k4⟩
theorem wp_append_g {P : Program} (hD : StayD D) (hO : OneD D) {ts : TypeId} {z : Value} {bytes : Nat} (hu : P.underlying ts = some (.slice e))
  (hinfo : (P.info? e).map (fun i => (i.zero, i.size, i.bytes)) = some (some z, K, bytes)) (hz : z.cells.size = K) (hk : 0 < K) {o : Oper} {a : Act} {K' : Act → World → Prop} {Q : Exit → Act → World → Prop} (s x : Operand)
  (ho : o.op = .call { callee := .builtin .append, args := #[s, x], argTypes := #[ts, ts] }) (hty : o.type = ts)
  (hs : a.eval s = v) (hown : OwnG D e K p w base S N v f) {g : Nat} (hx : a.eval x = .slice (some ⟨g, 0, none⟩) 1 1)
  {ys : List Value} {d : α} {q : Fr α} (hblk : Blk w g e ys.toArray) (hy : FrN D K p w S N ys d q)
  (hb : (f.len + 1) * bytes ≤ 140737488355328) (hlen : f.len + 1 ≤ 140737488355328) (hbase : base ≤ w.heap.size)
  (hK : ∀ v' w', AppG D e K p base S N w v (f.app (.cons d q .nil)) v' w' → K' (a.put o.dst v') w') : o.wp P a w K' Q := by
 obtain ⟨hS, hN, xs, h1, h2⟩ := hown
 have hown : OwnG D e K p w base S N v f := ⟨hS, hN, xs, h1, h2⟩
 refine wp_append_k hu hinfo hz hk s x ho hty base v f.len xs hs h1 g hx ys hblk hy.1 (hO _ _ _ _ hy.2.1) hb hlen hbase fun v' w' hap => hK v' w' ?_
 obtain ⟨k1, k2, k3, gg, c, k4⟩ := hap
 have hl : (f.app (.cons d q .nil)).len = f.len + 1 := by rw [Fr.len_app]; rfl
 exact ⟨hown.app hD h2 (by rw [hl]; exact k1) k2 k3 (rowG.one hy), k2, k3, gg, c, by rw [hl]; exact k4⟩
end
theorem infoS : (Tryz.prog.info? 109).map (fun i => (i.zero, i.size, i.bytes)) = some (some (.agg (cS ⟨#[]⟩ 0 0 0 0 (.slice none 0 0) false 0 (.slice none 0 0))), 9, 112) := by kernel_rfl
theorem zeroS : (Value.agg (cS ⟨#[]⟩ 0 0 0 0 (.slice none 0 0) false 0 (.slice none 0 0))).cells.size = 9 := by kernel_rfl
def spC (a : SpD) (nv kv : Value) : List Value := [.string (txt a.name), .int .i64 (a.kind : Int), .int .i64 (a.typ : Int), .int .u64 (a.low : Int), .int .u64 (a.high : Int), nv, .bool a.must, .int .i64 (a.most : Int), kv]
theorem leaf_n {w : World} {S N : Nat → Prop} {a : SpD} (h : a.names = []) : SpN w S N (spC a (.slice none 0 0) (.slice none 0 0)) (a, .nil) :=
 SpN.make (d := 0) (by rw [h]; exact ⟨none, 0, rfl, Nat.le_refl _, fun h => absurd h (by simp [txts])⟩) (by rw [h]; intro h; simp at h) (FrV.empty _ _ _)
theorem list_n {w : World} {S N : Nat → Prop} {a : SpD} {k : SpF} {kv : Value} (h : a.names = []) (hk : FrV SpcD 9 8 w S N kv k) : SpN w S N (spC a (.slice none 0 0) kv) (a, k) :=
 SpN.make (d := 0) (by rw [h]; exact ⟨none, 0, rfl, Nat.le_refl _, fun h => absurd h (by simp [txts])⟩) (by rw [h]; intro h; simp at h) hk
def NumP (a : SpD) (w : World) (r : Ending) (w' : World) : Prop := r = .returned (.agg (spC a (.slice none 0 0) (.slice none 0 0)).toArray) ∧ Below w.heap.size w w'
theorem srnum_any (n : List UInt8) (t lo hi : Nat) (w : World) : Calls Tryz.prog 94 #[.string (txt n), .int .i64 (t : Int), .int .u64 (lo : Int), .int .u64 (hi : Int)] w (NumP (numD n t lo hi) w) := by
 go_enter Tryz.func94, Tryz.ntmps94
 go_wp2
 exact bodyPost_ret (results_cell_row rfl _ _ w.heap.size 109 _ (0, 0) _ rfl (heap_alloc_new w _) Tryz.underlying109 rfl (by kernel_rfl)) rfl ⟨rfl, bAl⟩
theorem row_leaves {w : World} {S N : Nat → Prop} : ∀ (l : List SpD), (∀ a ∈ l, a.names = []) → rowG SpcD 9 8 w S N (l.flatMap fun a => spC a (.slice none 0 0) (.slice none 0 0)) (frOf (l.map fun a => (a, .nil))) := by
 intro l
 induction l with
 | nil => intro _; rfl
 | cons a l ih => intro h; exact ⟨_, _, rfl, leaf_n (h a (by simp)), ih (fun b hb => h b (by simp [hb]))⟩
def ClassP (v : Nat) (w : World) (r : Ending) (w' : World) : Prop := ∃ A c, r = .returned (.slice A (frOf (classL v)).len c) ∧ OwnG SpcD 109 9 8 w' w.heap.size (fun _ => False) (fun _ => False) (.slice A (frOf (classL v)).len c) (frOf (classL v)) ∧ Below w.heap.size w w'
theorem rclass_1 (w : World) : Calls Tryz.prog 95 #[.int .i64 1] w (ClassP 1 w) := by
 have N1 : ∀ W, Hid (Calls Tryz.prog 94 #[.string ⟨#[113, 117, 97, 110, 116, 117, 109]⟩, .int .i64 1, .int .u64 1500, .int .u64 100000] W (fun r w' => r = .returned (.agg (cS ⟨#[113, 117, 97, 110, 116, 117, 109]⟩ 1 1 1500 100000 (.slice none 0 0) true 0 (.slice none 0 0))) ∧ Below W.heap.size W w')) := fun W => hHd (srnum_any nQuantum 1 1500 100000 W)
 have N2 : ∀ W, Hid (Calls Tryz.prog 94 #[.string ⟨#[114, 97, 116, 101]⟩, .int .i64 2, .int .u64 0, .int .u64 1000000] W (fun r w' => r = .returned (.agg (cS ⟨#[114, 97, 116, 101]⟩ 1 2 0 1000000 (.slice none 0 0) true 0 (.slice none 0 0))) ∧ Below W.heap.size W w')) := fun W => hHd (srnum_any nRate 2 0 1000000 W)
 have N3 : ∀ W, Hid (Calls Tryz.prog 94 #[.string ⟨#[98, 117, 114, 115, 116]⟩, .int .i64 1, .int .u64 1500, .int .u64 1000000] W (fun r w' => r = .returned (.agg (cS ⟨#[98, 117, 114, 115, 116]⟩ 1 1 1500 1000000 (.slice none 0 0) true 0 (.slice none 0 0))) ∧ Below W.heap.size W w')) := fun W => hHd (srnum_any nBurst 1 1500 1000000 W)
 have N4 : ∀ W, Hid (Calls Tryz.prog 94 #[.string ⟨#[108, 105, 109, 105, 116]⟩, .int .i64 1, .int .u64 1, .int .u64 64] W (fun r w' => r = .returned (.agg (cS ⟨#[108, 105, 109, 105, 116]⟩ 1 1 1 64 (.slice none 0 0) true 0 (.slice none 0 0))) ∧ Below W.heap.size W w')) := fun W => hHd (srnum_any nLimit 1 1 64 W)
 go_enter Tryz.func95, Tryz.ntmps95
 go_wp2_with fail
 refine (N1 _).out.mono ?_
 rintro r w1 ⟨rfl, hB⟩
 have H1 := hHd hB
 clear hB
 go_wp2_with fail
 refine (N2 _).out.mono ?_
 rintro r w2 ⟨rfl, hB⟩
 have H2 := hHd (H1.out.trans (hB.mono H1.out.size))
 clear hB
 go_wp2_with fail
 refine (N3 _).out.mono ?_
 rintro r w3 ⟨rfl, hB⟩
 have H3 := hHd (H2.out.trans (hB.mono H2.out.size))
 clear hB
 have HA : Hid (Below w.heap.size w (w3.alloc (.cells lQ3 109))) := hHd (H3.out.alloc H3.out.size _)
 have HO : Hid (OwnG SpcD 109 9 8 (w3.alloc (.cells lQ3 109)) w.heap.size (fun _ => False) (fun _ => False) (.slice (some ⟨w3.heap.size, 0, none⟩) 3 3) (frOf [(numD nQuantum 1 1500 100000, .nil), (numD nRate 2 0 1000000, .nil), (numD nBurst 1 1500 1000000, .nil)])) := hHd (OwnG.lit (Blk.new w3 _ _) H3.out.size (by decide) (row_leaves [numD nQuantum 1 1500 100000, numD nRate 2 0 1000000, numD nBurst 1 1500 1000000] (by decide)) (fun _ h => h.elim) (fun _ h => h.elim))
 go_wp2_with fail
 refine (N4 _).out.mono ?_
 rintro r w4 ⟨rfl, hB⟩
 have HO4 := hHd ((HO.out.below stay_spc hB).below stay_spc ((Below.refl _ _).alloc (Nat.le_refl _) (.cells (cS ⟨#[108, 105, 109, 105, 116]⟩ 1 1 1 64 (.slice none 0 0) true 0 (.slice none 0 0)) 109)))
 have hb4 : Below w.heap.size w (w4.alloc (.cells (cS ⟨#[108, 105, 109, 105, 116]⟩ 1 1 1 64 (.slice none 0 0) true 0 (.slice none 0 0)) 109)) := (HA.out.trans (hB.mono HA.out.size)).alloc (Nat.le_trans HA.out.size hB.size) _
 have H4 := hHd hb4
 clear hb4 hB
 go_wp2_with (at_builtin; refine wpList_append_g (ys := spC (numD nLimit 1 1 64) (.slice none 0 0) (.slice none 0 0)) stay_spc one_spc Tryz.underlying107 infoS zeroS (by decide) rfl (.tmp 10) (.tmp 12) rfl rfl rfl HO4.out rfl (Blk.new w4 _ _) (leaf_n rfl) ?h1 ?h2 H4.out.size ?_)
 case h1 => decide
 case h2 => decide
 intro v5 w5 hap
 have H5 := hHd (H4.out.trans (hap.below HO4.out H4.out.size))
 have HO5 := hHd hap.1
 obtain ⟨g5, c5, rfl⟩ := hap.2.2.2
 clear hap
 go_wp2
 go_ret
 exact ⟨_, _, rfl, HO5.out, H5.out⟩
theorem rclass_2 (w : World) : Calls Tryz.prog 95 #[.int .i64 2] w (ClassP 2 w) := by
 have N1 : ∀ W, Hid (Calls Tryz.prog 94 #[.string ⟨#[113, 117, 97, 110, 116, 117, 109]⟩, .int .i64 1, .int .u64 1500, .int .u64 100000] W (fun r w' => r = .returned (.agg (cS ⟨#[113, 117, 97, 110, 116, 117, 109]⟩ 1 1 1500 100000 (.slice none 0 0) true 0 (.slice none 0 0))) ∧ Below W.heap.size W w')) := fun W => hHd (srnum_any nQuantum 1 1500 100000 W)
 have N2 : ∀ W, Hid (Calls Tryz.prog 94 #[.string ⟨#[114, 97, 116, 101]⟩, .int .i64 2, .int .u64 0, .int .u64 1000000] W (fun r w' => r = .returned (.agg (cS ⟨#[114, 97, 116, 101]⟩ 1 2 0 1000000 (.slice none 0 0) true 0 (.slice none 0 0))) ∧ Below W.heap.size W w')) := fun W => hHd (srnum_any nRate 2 0 1000000 W)
 have N3 : ∀ W, Hid (Calls Tryz.prog 94 #[.string ⟨#[98, 117, 114, 115, 116]⟩, .int .i64 1, .int .u64 1500, .int .u64 1000000] W (fun r w' => r = .returned (.agg (cS ⟨#[98, 117, 114, 115, 116]⟩ 1 1 1500 1000000 (.slice none 0 0) true 0 (.slice none 0 0))) ∧ Below W.heap.size W w')) := fun W => hHd (srnum_any nBurst 1 1500 1000000 W)
 have N4 : ∀ W, Hid (Calls Tryz.prog 94 #[.string ⟨#[108, 105, 109, 105, 116]⟩, .int .i64 1, .int .u64 1, .int .u64 64] W (fun r w' => r = .returned (.agg (cS ⟨#[108, 105, 109, 105, 116]⟩ 1 1 1 64 (.slice none 0 0) true 0 (.slice none 0 0))) ∧ Below W.heap.size W w')) := fun W => hHd (srnum_any nLimit 1 1 64 W)
 go_enter Tryz.func95, Tryz.ntmps95
 go_wp2_with fail
 refine (N1 _).out.mono ?_
 rintro r w1 ⟨rfl, hB⟩
 have H1 := hHd hB
 clear hB
 go_wp2_with fail
 refine (N2 _).out.mono ?_
 rintro r w2 ⟨rfl, hB⟩
 have H2 := hHd (H1.out.trans (hB.mono H1.out.size))
 clear hB
 go_wp2_with fail
 refine (N3 _).out.mono ?_
 rintro r w3 ⟨rfl, hB⟩
 have H3 := hHd (H2.out.trans (hB.mono H2.out.size))
 clear hB
 have HA : Hid (Below w.heap.size w (w3.alloc (.cells lQ3 109))) := hHd (H3.out.alloc H3.out.size _)
 have HO : Hid (OwnG SpcD 109 9 8 (w3.alloc (.cells lQ3 109)) w.heap.size (fun _ => False) (fun _ => False) (.slice (some ⟨w3.heap.size, 0, none⟩) 3 3) (frOf [(numD nQuantum 1 1500 100000, .nil), (numD nRate 2 0 1000000, .nil), (numD nBurst 1 1500 1000000, .nil)])) := hHd (OwnG.lit (Blk.new w3 _ _) H3.out.size (by decide) (row_leaves [numD nQuantum 1 1500 100000, numD nRate 2 0 1000000, numD nBurst 1 1500 1000000] (by decide)) (fun _ h => h.elim) (fun _ h => h.elim))
 go_wp2_with fail
 refine (N4 _).out.mono ?_
 rintro r w4 ⟨rfl, hB⟩
 have HO4 := hHd ((HO.out.below stay_spc hB).below stay_spc ((Below.refl _ _).alloc (Nat.le_refl _) (.cells (cS ⟨#[108, 105, 109, 105, 116]⟩ 1 1 1 64 (.slice none 0 0) true 0 (.slice none 0 0)) 109)))
 have hb4 : Below w.heap.size w (w4.alloc (.cells (cS ⟨#[108, 105, 109, 105, 116]⟩ 1 1 1 64 (.slice none 0 0) true 0 (.slice none 0 0)) 109)) := (HA.out.trans (hB.mono HA.out.size)).alloc (Nat.le_trans HA.out.size hB.size) _
 have H4 := hHd hb4
 clear hb4 hB
 go_wp2_with (at_builtin; refine wpList_append_g (ys := spC (numD nLimit 1 1 64) (.slice none 0 0) (.slice none 0 0)) stay_spc one_spc Tryz.underlying107 infoS zeroS (by decide) rfl (.tmp 10) (.tmp 12) rfl rfl rfl HO4.out rfl (Blk.new w4 _ _) (leaf_n rfl) ?h1 ?h2 H4.out.size ?_)
 case h1 => decide
 case h2 => decide
 intro v5 w5 hap
 have H5 := hHd (H4.out.trans (hap.below HO4.out H4.out.size))
 have HO5 := hHd hap.1
 obtain ⟨g5, c5, rfl⟩ := hap.2.2.2
 clear hap
 have HO6 := hHd (HO5.out.below stay_spc ((Below.refl _ _).alloc (Nat.le_refl _) (.cells (cS ⟨#[115, 104, 97, 112, 101, 100]⟩ 1 3 0 0 (.slice none 0 0) true 0 (.slice none 0 0)) 109)))
 have H6 : Hid (Below w.heap.size w (w5.alloc (.cells (cS ⟨#[115, 104, 97, 112, 101, 100]⟩ 1 3 0 0 (.slice none 0 0) true 0 (.slice none 0 0)) 109))) := hHd (H5.out.alloc H5.out.size _)
 go_wp2_with (at_builtin; refine wpList_append_g (ys := spC (leafD nShaped 3 true) (.slice none 0 0) (.slice none 0 0)) stay_spc one_spc Tryz.underlying107 infoS zeroS (by decide) rfl (.tmp 20) (.tmp 22) rfl rfl rfl HO6.out rfl (Blk.new w5 _ _) (leaf_n (a := leafD nShaped 3 true) rfl) ?h1 ?h2 H6.out.size ?_)
 case h1 => decide
 case h2 => decide
 intro v7 w7 hap
 have H7 := hHd (H6.out.trans (hap.below HO6.out H6.out.size))
 have HO7 := hHd hap.1
 obtain ⟨g7, c7, rfl⟩ := hap.2.2.2
 clear hap
 go_wp2
 go_ret
 exact ⟨_, _, rfl, HO7.out, H7.out⟩
theorem rclass_3 (w : World) : Calls Tryz.prog 95 #[.int .i64 3] w (ClassP 3 w) := by
 have N1 : ∀ W, Hid (Calls Tryz.prog 94 #[.string ⟨#[113, 117, 97, 110, 116, 117, 109]⟩, .int .i64 1, .int .u64 1500, .int .u64 100000] W (fun r w' => r = .returned (.agg (cS ⟨#[113, 117, 97, 110, 116, 117, 109]⟩ 1 1 1500 100000 (.slice none 0 0) true 0 (.slice none 0 0))) ∧ Below W.heap.size W w')) := fun W => hHd (srnum_any nQuantum 1 1500 100000 W)
 have N2 : ∀ W, Hid (Calls Tryz.prog 94 #[.string ⟨#[114, 97, 116, 101]⟩, .int .i64 2, .int .u64 0, .int .u64 1000000] W (fun r w' => r = .returned (.agg (cS ⟨#[114, 97, 116, 101]⟩ 1 2 0 1000000 (.slice none 0 0) true 0 (.slice none 0 0))) ∧ Below W.heap.size W w')) := fun W => hHd (srnum_any nRate 2 0 1000000 W)
 have N3 : ∀ W, Hid (Calls Tryz.prog 94 #[.string ⟨#[98, 117, 114, 115, 116]⟩, .int .i64 1, .int .u64 1500, .int .u64 1000000] W (fun r w' => r = .returned (.agg (cS ⟨#[98, 117, 114, 115, 116]⟩ 1 1 1500 1000000 (.slice none 0 0) true 0 (.slice none 0 0))) ∧ Below W.heap.size W w')) := fun W => hHd (srnum_any nBurst 1 1500 1000000 W)
 have N4 : ∀ W, Hid (Calls Tryz.prog 94 #[.string ⟨#[100, 101, 112, 116, 104]⟩, .int .i64 1, .int .u64 1, .int .u64 64] W (fun r w' => r = .returned (.agg (cS ⟨#[100, 101, 112, 116, 104]⟩ 1 1 1 64 (.slice none 0 0) true 0 (.slice none 0 0))) ∧ Below W.heap.size W w')) := fun W => hHd (srnum_any nDepth 1 1 64 W)
 go_enter Tryz.func95, Tryz.ntmps95
 go_wp2_with fail
 refine (N1 _).out.mono ?_
 rintro r w1 ⟨rfl, hB⟩
 have H1 := hHd hB
 clear hB
 go_wp2_with fail
 refine (N2 _).out.mono ?_
 rintro r w2 ⟨rfl, hB⟩
 have H2 := hHd (H1.out.trans (hB.mono H1.out.size))
 clear hB
 go_wp2_with fail
 refine (N3 _).out.mono ?_
 rintro r w3 ⟨rfl, hB⟩
 have H3 := hHd (H2.out.trans (hB.mono H2.out.size))
 clear hB
 have HA : Hid (Below w.heap.size w (w3.alloc (.cells lQ3 109))) := hHd (H3.out.alloc H3.out.size _)
 have HO : Hid (OwnG SpcD 109 9 8 (w3.alloc (.cells lQ3 109)) w.heap.size (fun _ => False) (fun _ => False) (.slice (some ⟨w3.heap.size, 0, none⟩) 3 3) (frOf [(numD nQuantum 1 1500 100000, .nil), (numD nRate 2 0 1000000, .nil), (numD nBurst 1 1500 1000000, .nil)])) := hHd (OwnG.lit (Blk.new w3 _ _) H3.out.size (by decide) (row_leaves [numD nQuantum 1 1500 100000, numD nRate 2 0 1000000, numD nBurst 1 1500 1000000] (by decide)) (fun _ h => h.elim) (fun _ h => h.elim))
 go_wp2_with fail
 refine (N4 _).out.mono ?_
 rintro r w4 ⟨rfl, hB⟩
 have HO4 := hHd ((HO.out.below stay_spc hB).below stay_spc ((Below.refl _ _).alloc (Nat.le_refl _) (.cells (cS ⟨#[100, 101, 112, 116, 104]⟩ 1 1 1 64 (.slice none 0 0) true 0 (.slice none 0 0)) 109)))
 have hb4 : Below w.heap.size w (w4.alloc (.cells (cS ⟨#[100, 101, 112, 116, 104]⟩ 1 1 1 64 (.slice none 0 0) true 0 (.slice none 0 0)) 109)) := (HA.out.trans (hB.mono HA.out.size)).alloc (Nat.le_trans HA.out.size hB.size) _
 have H4 := hHd hb4
 clear hb4 hB
 go_wp2_with (at_builtin; refine wpList_append_g (ys := spC (numD nDepth 1 1 64) (.slice none 0 0) (.slice none 0 0)) stay_spc one_spc Tryz.underlying107 infoS zeroS (by decide) rfl (.tmp 14) (.tmp 16) rfl rfl rfl HO4.out rfl (Blk.new w4 _ _) (leaf_n rfl) ?h1 ?h2 H4.out.size ?_)
 case h1 => decide
 case h2 => decide
 intro v5 w5 hap
 have H5 := hHd (H4.out.trans (hap.below HO4.out H4.out.size))
 have HO5 := hHd hap.1
 obtain ⟨g5, c5, rfl⟩ := hap.2.2.2
 clear hap
 have HO6 := hHd (HO5.out.below stay_spc ((Below.refl _ _).alloc (Nat.le_refl _) (.cells (cS ⟨#[115, 104, 97, 112, 101, 100]⟩ 1 3 0 0 (.slice none 0 0) true 0 (.slice none 0 0)) 109)))
 have H6 : Hid (Below w.heap.size w (w5.alloc (.cells (cS ⟨#[115, 104, 97, 112, 101, 100]⟩ 1 3 0 0 (.slice none 0 0) true 0 (.slice none 0 0)) 109))) := hHd (H5.out.alloc H5.out.size _)
 go_wp2_with (at_builtin; refine wpList_append_g (ys := spC (leafD nShaped 3 true) (.slice none 0 0) (.slice none 0 0)) stay_spc one_spc Tryz.underlying107 infoS zeroS (by decide) rfl (.tmp 20) (.tmp 22) rfl rfl rfl HO6.out rfl (Blk.new w5 _ _) (leaf_n (a := leafD nShaped 3 true) rfl) ?h1 ?h2 H6.out.size ?_)
 case h1 => decide
 case h2 => decide
 intro v7 w7 hap
 have H7 := hHd (H6.out.trans (hap.below HO6.out H6.out.size))
 have HO7 := hHd hap.1
 obtain ⟨g7, c7, rfl⟩ := hap.2.2.2
 clear hap
 go_wp2
 go_ret
 exact ⟨_, _, rfl, HO7.out, H7.out⟩
end Go.Proofs.YtleidkpdpabkpaaGreatDoor
