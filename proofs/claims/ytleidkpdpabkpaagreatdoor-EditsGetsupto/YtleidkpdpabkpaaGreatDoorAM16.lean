/- PthRefC -/
import Derived.Test.YtleidkpdpabkpaaGreatDoorAM15
set_option linter.unusedSimpArgs false
set_option linter.unusedVariables false
set_option maxRecDepth 100000
set_option maxHeartbeats 8000000
namespace Go.Proofs.YtleidkpdpabkpaaGreatDoor
open Go.RowKit
theorem run_c {f : Nat} {o : List Stp} {a : Nat} {c : UInt8} {t : List UInt8} (hc : c ≠ 47) : runX (f + 1) o a (c :: t) = ([], 21, a) := by
 unfold runX
 rw [if_neg (by simp), if_pos (by intro e; injection e with e; exact hc e)]
theorem run_6 {f : Nat} {o : List Stp} {a : Nat} {t : List UInt8} (h6 : o.length = 6) : runX (f + 1) o a (47 :: t) = ([], 13, a) := by
 unfold runX
 rw [if_neg (by simp), if_neg (by simp), if_pos h6]
theorem run_bad {f : Nat} {o : List Stp} {a e p : Nat} {t : List UInt8} (h6 : o.length ≠ 6) (hs : stepX (47 :: t) = .inr (e, p)) : runX (f + 1) o a (47 :: t) = ([], e, a + p) := by
 unfold runX
 rw [if_neg (by simp), if_neg (by simp), if_neg h6, hs]
theorem run_go {f : Nat} {o : List Stp} {a n : Nat} {s : Stp} {t : List UInt8} (h6 : o.length ≠ 6) (hs : stepX (47 :: t) = .inl (s, n)) : runX (f + 1) o a (47 :: t) = runX f (o ++ [s]) (a + n) ((47 :: t).drop n) := by
 conv => lhs; unfold runX
 rw [if_neg (by simp), if_neg (by simp), if_neg h6, hs]
theorem tw_get {t : List UInt8} : t.takeWhile nmB = t.take (wl t) := by
 unfold wl
 have h := take_split t
 generalize t.takeWhile nmB = a at h ⊢
 rw [h, List.take_left]
def wdX (s : List UInt8) (k : Nat) : List UInt8 := (s.drop k).takeWhile nmB
theorem wd_len (s : List UInt8) (k : Nat) : (wdX s k).length = wl (s.drop k) := rfl
theorem wd_slice (s : List UInt8) (k : Nat) : (txt s).extract k (k + wl (s.drop k)) = txt (wdX s k) := by
 rw [txt_extract]
 congr 1
 unfold wdX
 rw [tw_get, List.drop_take]
 congr 1
 omega
theorem wl_bound (s : List UInt8) (k : Nat) (hk : k ≤ s.length) : k + wl (s.drop k) ≤ s.length := by
 have := wl_le (s.drop k)
 rw [List.length_drop] at this
 omega
theorem at_step_ {s : List UInt8} {a : Nat} (hn : identX (wdX s (a + 1)) = true) {e1 : Nat} (h1 : e1 = a + 1 + wl (s.drop (a + 1))) (hd : s[e1]? = some 91) : stepX (47 :: s.drop (a + 1)) = (if identX (wdX s (e1 + 1)) = false then .inr (22, 1 + wl (s.drop (a + 1)) + 1) else match s.drop (e1 + 1 + wl (s.drop (e1 + 1))) with
  | [] => .inr (21, 1 + wl (s.drop (a + 1)) + 1 + wl (s.drop (e1 + 1)))
  | e :: _ => if e = 93 then .inl ((wdX s (a + 1), wdX s (e1 + 1)), 1 + wl (s.drop (a + 1)) + 1 + wl (s.drop (e1 + 1)) + 1) else .inr (21, 1 + wl (s.drop (a + 1)) + 1 + wl (s.drop (e1 + 1)))) := by
 have hu : (s.drop (a + 1)).drop (wl (s.drop (a + 1))) = 91 :: s.drop (e1 + 1) := by rw [List.drop_drop, ← h1, drop_at hd]
 unfold stepX
 simp only
 have hn' : identX ((s.drop (a + 1)).takeWhile nmB) = true := hn
 rw [if_neg (by rw [hn']; simp)]
 rw [show ((s.drop (a + 1)).takeWhile nmB).length = wl (s.drop (a + 1)) from rfl, hu]
 simp only [if_true]
 rw [show ((s.drop (e1 + 1)).takeWhile nmB).length = wl (s.drop (e1 + 1)) from rfl, List.drop_drop]
 rfl
section
variable {s : List UInt8} {o : List Stp} {f a : Nat} (H : parseX15 s = runX (f + 1) o a (s.drop a))
include H
theorem at_c {c : UInt8} (hc : s[a]? = some c) (h : c ≠ 47) : parseX15 s = ([], 21, a) := by rw [H, drop_at hc, run_c h]
theorem at_6 (hc : s[a]? = some 47) (h6 : o.length = 6) : parseX15 s = ([], 13, a) := by rw [H, drop_at hc, run_6 h6]
variable (hc : s[a]? = some 47) (h6 : o.length ≠ 6)
include hc h6
theorem at_name (hn : identX (wdX s (a + 1)) = false) : parseX15 s = ([], 22, a + 1) := by
 rw [H, drop_at hc]
 refine run_bad h6 ?_
 unfold stepX
 simp only
 have hn' : identX ((s.drop (a + 1)).takeWhile nmB) = false := hn
 rw [if_pos hn']
theorem at_plain (hn : identX (wdX s (a + 1)) = true) (hd : s[a + 1 + wl (s.drop (a + 1))]? ≠ some 91) : parseX15 s = runX f (o ++ [(wdX s (a + 1), [])]) (a + 1 + wl (s.drop (a + 1))) (s.drop (a + 1 + wl (s.drop (a + 1)))) := by
 rw [H, drop_at hc]
 have hs : stepX (47 :: s.drop (a + 1)) = .inl ((wdX s (a + 1), []), 1 + wl (s.drop (a + 1))) := by
  unfold stepX
  simp only
  have hn' : identX ((s.drop (a + 1)).takeWhile nmB) = true := hn
  rw [if_neg (by rw [hn']; simp)]
  rw [show ((s.drop (a + 1)).takeWhile nmB).length = wl (s.drop (a + 1)) from rfl, List.drop_drop]
  cases hu : s.drop (a + 1 + wl (s.drop (a + 1))) with
  | nil => rfl
  | cons d v =>
   simp only
   rw [if_neg]
   ·rfl
   ·intro e
    subst e
    have := congrArg List.head? hu
    rw [List.head?_drop] at this
    exact hd this
 rw [run_go h6 hs, ← drop_at hc, List.drop_drop]
 rw [show a + (1 + wl (s.drop (a + 1))) = a + 1 + wl (s.drop (a + 1)) by omega]
variable (hn : identX (wdX s (a + 1)) = true) {e1 : Nat} (h1 : e1 = a + 1 + wl (s.drop (a + 1))) (hd : s[e1]? = some 91)
include hn h1 hd
theorem at_key (hk : identX (wdX s (e1 + 1)) = false) : parseX15 s = ([], 22, e1 + 1) := by
 rw [H, drop_at hc]
 have := run_bad (f := f) (a := a) h6 ((at_step_ hn h1 hd).trans (if_pos hk))
 rw [this]
 congr 2
 omega
variable (hk : identX (wdX s (e1 + 1)) = true)
include hk
theorem at_close (hx : s[e1 + 1 + wl (s.drop (e1 + 1))]? ≠ some 93) : parseX15 s = ([], 21, e1 + 1 + wl (s.drop (e1 + 1))) := by
 rw [H, drop_at hc]
 have hs := at_step_ hn h1 hd
 rw [if_neg (by rw [hk]; simp)] at hs
 have hs2 : stepX (47 :: s.drop (a + 1)) = .inr (21, 1 + wl (s.drop (a + 1)) + 1 + wl (s.drop (e1 + 1))) := by
  rw [hs]
  cases hu : s.drop (e1 + 1 + wl (s.drop (e1 + 1))) with
  | nil => rfl
  | cons d v =>
   simp only
   rw [if_neg]
   intro e
   subst e
   have := congrArg List.head? hu
   rw [List.head?_drop] at this
   exact hx this
 rw [run_bad h6 hs2]
 congr 2
 omega
theorem at_whole (hx : s[e1 + 1 + wl (s.drop (e1 + 1))]? = some 93) : parseX15 s = runX f (o ++ [(wdX s (a + 1), wdX s (e1 + 1))]) (e1 + 1 + wl (s.drop (e1 + 1)) + 1) (s.drop (e1 + 1 + wl (s.drop (e1 + 1)) + 1)) := by
 rw [H, drop_at hc]
 have hs := at_step_ hn h1 hd
 rw [if_neg (by rw [hk]; simp), drop_at hx] at hs
 simp only [if_true] at hs
 rw [run_go h6 hs, ← drop_at hc, List.drop_drop]
 rw [show a + (1 + wl (s.drop (a + 1)) + 1 + wl (s.drop (e1 + 1)) + 1) = e1 + 1 + wl (s.drop (e1 + 1)) + 1 by omega]
end
theorem PrL_next {s : List UInt8} {o : List Stp} {f a a' : Nat} {x : Stp} (h : parseX15 s = runX f (o ++ [x]) a' (s.drop a')) (h2 : s.length ≤ a + f + 1) (h3 : a < a') (h4 : o.length ≤ 6) (h5 : o.length ≠ 6) : ∃ f, parseX15 s = runX f (o ++ [x]) a' (s.drop a') ∧ s.length ≤ a' + f ∧ (o ++ [x]).length ≤ 6 :=
 ⟨f, h, by omega, by rw [List.length_append]; simp; omega⟩
theorem own_snoc {base : Nat} {w' : World} {v' : Value} {o : List Stp} {x : Stp} (h : OwnK 52 2 w' base v' (o.length + 1) (stC o ++ [.string (txt x.1), .string (txt x.2)])) : OwnS base w' v' (o ++ [x]) := by
 show OwnK 52 2 w' base v' (o ++ [x]).length (stC (o ++ [x]))
 rw [List.length_append, stC_app]
 exact h
def PrsP (x : List Stp × Nat × Nat) (w : World) (r : Ending) (w' : World) : Prop := ∃ v, r = .returned (.tuple #[v, .int .i64 (x.2.1 : Int), .int .i64 (x.2.2 : Int)]) ∧ WayV w'.heap.size w' v x.1 ∧ Below w.heap.size w w'
theorem PrsP.bad {s : List UInt8} {e p : Nat} {w w' : World} {i : Int} (h : parseX15 s = ([], e, p)) (hi : i = (p : Int)) (hb : Below w.heap.size w w') : PrsP (parseX15 s) w (.returned (.tuple #[.slice none 0 0, .int .i64 (e : Int), .int .i64 i])) w' := by
 rw [h, hi]
 exact ⟨_, rfl, WayV.nil _ _ _ _, hb⟩
def WayN15 (lo : Nat) (w : World) (v : Value) (l : List Stp) : Prop := ∃ A c, v = .slice A l.length c ∧ l.length ≤ c ∧ (0 < l.length → ∃ g o, A = some ⟨g, o, none⟩ ∧ (lo ≤ g ∧ g < w.heap.size) ∧
 ∀ j s, l[j]? = some s → w.cell? ⟨g, o + j * 2, none⟩ = some (.string (txt s.1)) ∧ w.cell? ⟨g, o + j * 2 + 1, none⟩ = some (.string (txt s.2)))
theorem WayN15.way {lo : Nat} {w : World} {v : Value} {l : List Stp} (h : WayN15 lo w v l) : WayV w.heap.size w v l := by
 obtain ⟨A, c, rfl, h1, h2⟩ := h
 refine ⟨A, c, rfl, h1, fun hp => ?_⟩
 obtain ⟨g, o, e, h3, h4⟩ := h2 hp
 exact ⟨g, o, e, h3.2, h4⟩
theorem WayN15.nil (lo : Nat) (w : World) : WayN15 lo w (.slice none 0 0) [] := ⟨none, 0, rfl, Nat.le_refl _, fun h => absurd h (by simp)⟩
theorem OwnS.wayN {base : Nat} {w : World} {v : Value} {l : List Stp} (h : OwnS base w v l) : WayN15 base w v l := by
 obtain ⟨d, ⟨h0, A, c, rfl, h1, h2⟩, hd⟩ := OwnK.row h
 refine ⟨A, c, rfl, h1, fun hp => ?_⟩
 obtain ⟨hlt, off, rfl, hc⟩ := h2 hp
 refine ⟨d, off, rfl, ⟨hd hp, hlt⟩, fun j s hs => ?_⟩
 obtain ⟨g1, g2⟩ := stC_at l j s hs
 exact ⟨hc _ _ g1, by have := hc _ _ g2; rwa [← Nat.add_assoc] at this⟩
def PrsN (x : List Stp × Nat × Nat) (w : World) (r : Ending) (w' : World) : Prop := ∃ v, r = .returned (.tuple #[v, .int .i64 (x.2.1 : Int), .int .i64 (x.2.2 : Int)]) ∧ WayN15 w.heap.size w' v x.1 ∧ Below w.heap.size w w'
theorem PrsN.p {x : List Stp × Nat × Nat} {w : World} {r : Ending} {w' : World} (h : PrsN x w r w') : PrsP x w r w' := by
 obtain ⟨v, h1, h2, h3⟩ := h
 exact ⟨v, h1, h2.way, h3⟩
theorem PrsN.bad {s : List UInt8} {e p : Nat} {w w' : World} {i : Int} (h : parseX15 s = ([], e, p)) (hi : i = (p : Int)) (hb : Below w.heap.size w w') : PrsN (parseX15 s) w (.returned (.tuple #[.slice none 0 0, .int .i64 (e : Int), .int .i64 i])) w' := by
 rw [h, hi]
 exact ⟨_, rfl, WayN15.nil _ _, hb⟩
def PrL (s : List UInt8) (o : List Stp) (a : Nat) : Prop := ∃ f, parseX15 s = runX f o a (s.drop a) ∧ s.length ≤ a + f ∧ o.length ≤ 6
theorem PrL.end_ {s : List UInt8} {o : List Stp} (h : PrL s o s.length) : parseX15 s = (o, 0, 0) := by
 obtain ⟨f, h, -, -⟩ := h
 rw [h, List.drop_length, runX_nil]
theorem PrL.in_ {s : List UInt8} {o : List Stp} {a : Nat} (h : PrL s o a) (ha : a < s.length) : ∃ f, parseX15 s = runX (f + 1) o a (s.drop a) ∧ s.length ≤ a + f + 1 ∧ o.length ≤ 6 := by
 obtain ⟨f, h1, h2, h3⟩ := h
 exact ⟨f - 1, by rw [show f - 1 + 1 = f by omega]; exact h1, by omega, h3⟩
theorem rparse15_none (w : World) : Calls Tryz.prog 34 #[.string (txt [])] w (PrsN (parseX15 []) w) := by
 have e0 : txt [] = (⟨#[]⟩ : ByteArray) := rfl
 go_enter Tryz.func34, Tryz.ntmps34
 go_wp2
 go_loopw [6] (fun i wr => i = .int .i64 0 ∧ wr = w) (fun _ _ => 0)
 case atStart => exact ⟨rfl, rfl⟩
 case round =>
  obtain ⟨rfl, rfl⟩ := hrel
  go_wp2
  go_ret3
  exact PrsN.bad rfl rfl (Below.refl _ _)
theorem rparse15_root (w : World) : Calls Tryz.prog 34 #[.string (txt [47])] w (PrsN (parseX15 [47]) w) := by
 have e0 : txt [47] = (⟨#[47]⟩ : ByteArray) := rfl
 go_enter Tryz.func34, Tryz.ntmps34
 go_wp2
 go_ret3
 exact PrsN.bad rfl rfl (Below.refl _ _)
theorem rparse15_some (s : List UInt8) (h0 : s ≠ []) (h47 : s ≠ [47]) (hs : s.length ≤ 9223372036854775806) (w : World) : Calls Tryz.prog 34 #[.string (txt s)] w (PrsN (parseX15 s) w) := by
 have hsz := txt_size s
 have ts : (txt s).toList = s := txt_toList s
 have g47 : (s == [47]) = false := beq_eq_false_iff_ne.2 h47
 have h1 : 0 < s.length := List.length_pos_iff.2 h0
 have hst : PrL s [] 0 := ⟨s.length, by unfold parseX15; rw [if_neg h47, if_neg h0]; rfl, by omega, by simp⟩
 have HST := hHd hst
 clear h47 hst h0
 go_enter Tryz.func34, Tryz.ntmps34
 go_wp2
 go_loopw [5, 6, 7, 8, 9, 10] (fun v i _ _ _ _ wr => ∃ (o : List Stp) (a : Nat), a ≤ s.length ∧ i = .int .i64 (a : Int) ∧ Hid (OwnS w.heap.size wr v o) ∧ Hid (PrL s o a) ∧ Hid (Below w.heap.size w wr)) (fun _ i _ _ _ _ _ => s.length - (intOf i).toNat)
 case atStart => exact ⟨[], 0, Nat.zero_le _, rfl, hHd (OwnS.nil _ _), HST, hHd (Below.refl _ _)⟩
 case round =>
  obtain ⟨o, a, ha, rfl, HOW, HL, HB⟩ := hrel
  obtain ⟨A, c, rfl⟩ := HOW.out.shape
  have i1 : (0 : Int) ≤ (a : Int) := by omega
  by_cases hlt : a < s.length
  ·have i2 : (a : Int) < (s.length : Int) := by omega
   have i3 : ¬ (s.length : Int) ≤ (a : Int) := by omega
   have i4 : decide ((s.length : Int) ≤ (a : Int)) = false := decide_eq_false i3
   have i5 : decide (s.length ≤ a) = false := decide_eq_false (by omega)
   have i6 : decide ((a : Int) < (s.length : Int)) = true := decide_eq_true i2
   have i7 : decide (a < s.length) = true := decide_eq_true hlt
   obtain ⟨f, hf, hf2, hf6⟩ := HL.out.in_ hlt
   obtain ⟨ch, hc⟩ : ∃ ch, s[a]? = some ch := ⟨_, List.getElem?_eq_getElem hlt⟩
   have hin : a < (txt s).size := by rw [hsz]; exact hlt
   have hix : (((txt s)[a]'hin).toNat : Int) = (ch.toNat : Int) := by rw [txt_get s a hlt hin]; rw [List.getElem?_eq_getElem hlt] at hc; injection hc with hc; rw [hc]
   by_cases h47 : ch = 47
   ·subst h47
    have hi47 : (((txt s)[a]'hin).toNat : Int) = 47 := hix
    clear hix
    by_cases h6 : o.length = 6
    ·have HF : Hid (parseX15 s = ([], 13, a)) := hHd (at_6 hf hc h6)
     have j6 : ((o.length : Int) == 6) = true := beq_iff_eq.2 (by omega)
     have j7 : (o.length == 6) = true := beq_iff_eq.2 h6
     clear hf hf2 hc h6 HL HST
     go_wp2
     go_ret3
     exact PrsN.bad HF.out rfl HB.out
    ·have j6 : ((o.length : Int) == 6) = false := beq_eq_false_iff_ne.2 (by omega)
     have j7 : (o.length == 6) = false := beq_eq_false_iff_ne.2 h6
     obtain ⟨e1, he1⟩ : ∃ e1, e1 = a + 1 + wl (s.drop (a + 1)) := ⟨_, rfl⟩
     obtain ⟨nm, hnm⟩ : ∃ nm, nm = wdX s (a + 1) := ⟨_, rfl⟩
     have hb1 : e1 ≤ s.length := by rw [he1]; exact wl_bound s (a + 1) (by omega)
     have hg1 : a + 1 ≤ e1 := by omega
     have hx1 : (txt s).extract (a + 1) e1 = txt nm := by rw [he1, hnm]; exact wd_slice s (a + 1)
     have hlen1 : nm.length ≤ 9223372036854775807 := by rw [hnm, wd_len]; omega
     have W1 : ∀ W, Hid (Calls Tryz.prog 63 #[.string (txt s), .int .i64 ((a : Int) + 1)] W (fun r w' => r = .returned (.int .i64 (e1 : Int)) ∧ W = w')) := fun W => hHd (by
      have h := rword_any15 s (a + 1) (by omega) (by omega) W
      unfold WordP at h
      rw [← he1] at h
      rwa [show ((a + 1 : Nat) : Int) = (a : Int) + 1 by omega] at h)
     have I1 : ∀ W, Hid (Calls Tryz.prog 54 #[.string (txt nm)] W (fun r w' => r = .returned (.bool (identX nm)) ∧ W = w')) := fun W => hHd (rident_any nm hlen1 W)
     have hq0 : (wr.alloc (.cells #[.string (txt nm), .string ⟨#[]⟩] 52)).cell? ⟨wr.heap.size, 0, none⟩ = some (.string (txt nm)) := (Blk.new wr 52 #[.string (txt nm), .string ⟨#[]⟩]).cell 0
     have HE1 := hHd he1
     have HNM := hHd hnm
     have HAL1 : Hid (Below wr.heap.size wr (wr.alloc (.cells #[.string (txt nm), .string ⟨#[]⟩] 52))) := hHd bAl
     have HC := hHd hc
     have HFF := hHd (And.intro hf (And.intro hf2 hf6))
     have H6 := hHd h6
     clear he1 hnm hc hf hf2 h6 hlen1 HST HL
     have k1 : (a : Int) + 1 ≤ (e1 : Int) := by omega
     have k2 : (e1 : Int) ≤ (s.length : Int) := by omega
     cases hid : identX nm with
     | false =>
      have HI := hHd hid
      have HF : Hid (parseX15 s = ([], 22, a + 1)) := hHd (at_name HFF.out.1 HC.out H6.out (by rw [← HNM.out]; exact hid))
      have HBE : Hid (Below w.heap.size w (wr.alloc (.cells #[.string (txt nm), .string ⟨#[]⟩] 52))) := hHd (HB.out.trans (HAL1.out.mono HB.out.size))
      clear hid
      go_wp2_with fail
      refine (W1 _).out.mono ?_
      rintro r w2 ⟨rfl, rfl⟩
      go_wp2_with fail
      refine (I1 _).out.mono ?_
      rintro r w2 ⟨rfl, rfl⟩
      rw [HI.out]
      clear W1 I1
      go_wp2
      go_ret3
      exact PrsN.bad HF.out (by omega) HBE.out
     | true =>
      have HI := hHd hid
      clear hid
      go_wp2_with fail
      refine (W1 _).out.mono ?_
      rintro r w2 ⟨rfl, rfl⟩
      go_wp2_with fail
      refine (I1 _).out.mono ?_
      rintro r w2 ⟨rfl, rfl⟩
      rw [HI.out]
      have HAL := HAL1
      by_cases hl1 : e1 < s.length
      ·obtain ⟨d, hd⟩ : ∃ d, s[e1]? = some d := ⟨_, List.getElem?_eq_getElem hl1⟩
       have hin1 : e1 < (txt s).size := by rw [hsz]; exact hl1
       have hix1 : (((txt s)[e1]'hin1).toNat : Int) = (d.toNat : Int) := by rw [txt_get s e1 hl1 hin1]; rw [List.getElem?_eq_getElem hl1] at hd; injection hd with hd; rw [hd]
       have m1 : (e1 : Int) < (s.length : Int) := by omega
       have m2 : decide ((e1 : Int) < (s.length : Int)) = true := decide_eq_true m1
       have m3 : (0 : Int) ≤ (e1 : Int) := by omega
       by_cases h91 : d = 91
       ·subst h91
        have hi91 : (((txt s)[e1]'hin1).toNat : Int) = 91 := hix1
        clear hix1
        obtain ⟨e2, he2⟩ : ∃ e2, e2 = e1 + 1 + wl (s.drop (e1 + 1)) := ⟨_, rfl⟩
        obtain ⟨ky, hky⟩ : ∃ ky, ky = wdX s (e1 + 1) := ⟨_, rfl⟩
        have hb2 : e2 ≤ s.length := by rw [he2]; exact wl_bound s (e1 + 1) (by omega)
        have hg2 : e1 + 1 ≤ e2 := by omega
        have hx2 : (txt s).extract (e1 + 1) e2 = txt ky := by rw [he2, hky]; exact wd_slice s (e1 + 1)
        have hlen2 : ky.length ≤ 9223372036854775807 := by rw [hky, wd_len]; omega
        have W2 : ∀ W, Hid (Calls Tryz.prog 63 #[.string (txt s), .int .i64 ((e1 : Int) + 1)] W (fun r w' => r = .returned (.int .i64 (e2 : Int)) ∧ W = w')) := fun W => hHd (by
         have h := rword_any15 s (e1 + 1) (by omega) (by omega) W
         unfold WordP at h
         rw [← he2] at h
         rwa [show ((e1 + 1 : Nat) : Int) = (e1 : Int) + 1 by omega] at h)
        have I2 : ∀ W, Hid (Calls Tryz.prog 54 #[.string (txt ky)] W (fun r w' => r = .returned (.bool (identX ky)) ∧ W = w')) := fun W => hHd (rident_any ky hlen2 W)
        have hz1 : (wr.alloc (.cells #[.string (txt nm), .string ⟨#[]⟩] 52)).frozen? ⟨wr.heap.size, 1, none⟩ = false := (Blk.new wr 52 #[.string (txt nm), .string ⟨#[]⟩]).frozen 1
        have hq1 : (wr.alloc (.cells #[.string (txt nm), .string ⟨#[]⟩] 52)).cell? ⟨wr.heap.size, 1, none⟩ = some (.string ⟨#[]⟩) := (Blk.new wr 52 #[.string (txt nm), .string ⟨#[]⟩]).cell 1
        have hq2 : (wr.alloc (.cells #[.string (txt nm), .string (txt ky)] 52)).cell? ⟨wr.heap.size, 1, none⟩ = some (.string (txt ky)) := (Blk.new wr 52 #[.string (txt nm), .string (txt ky)]).cell 1
        have HAL2 : Hid (Below wr.heap.size wr (wr.alloc (.cells #[.string (txt nm), .string (txt ky)] 52))) := hHd bAl
        have HBE : Hid (Below w.heap.size w (wr.alloc (.cells #[.string (txt nm), .string (txt ky)] 52))) := hHd (HB.out.trans (HAL2.out.mono HB.out.size))
        have HE2 := hHd he2
        have HKY := hHd hky
        have HD := hHd hd
        have HN' : Hid (identX (wdX s (a + 1)) = true) := hHd (by rw [← HNM.out]; exact HI.out)
        clear he2 hky hd hlen2 HAL HAL1
        have k3 : (e1 : Int) + 1 ≤ (e2 : Int) := by omega
        have k4 : (e2 : Int) ≤ (s.length : Int) := by omega
        cases hid2 : identX ky with
        | false =>
         have HI2 := hHd hid2
         have HF : Hid (parseX15 s = ([], 22, e1 + 1)) := hHd (at_key HFF.out.1 HC.out H6.out HN'.out HE1.out HD.out (by rw [← HKY.out]; exact hid2))
         clear hid2
         go_wp2_with fail
         refine (W2 _).out.mono ?_
         rintro r w2 ⟨rfl, rfl⟩
         go_wp2_with fail
         refine (I2 _).out.mono ?_
         rintro r w2 ⟨rfl, rfl⟩
         rw [HI2.out]
         clear W2 I2
         go_wp2
         go_ret3
         exact PrsN.bad HF.out (by omega) HBE.out
        | true =>
         have HI2 := hHd hid2
         clear hid2
         have HK' : Hid (identX (wdX s (e1 + 1)) = true) := hHd (by rw [← HKY.out]; exact HI2.out)
         go_wp2_with fail
         refine (W2 _).out.mono ?_
         rintro r w2 ⟨rfl, rfl⟩
         go_wp2_with fail
         refine (I2 _).out.mono ?_
         rintro r w2 ⟨rfl, rfl⟩
         rw [HI2.out]
         clear W2 I2
         have m5 : (0 : Int) ≤ (e2 : Int) := by omega
         by_cases hl2 : e2 < s.length
         ·obtain ⟨d2, hd2⟩ : ∃ d2, s[e2]? = some d2 := ⟨_, List.getElem?_eq_getElem hl2⟩
          have hin2 : e2 < (txt s).size := by rw [hsz]; exact hl2
          have hix2 : (((txt s)[e2]'hin2).toNat : Int) = (d2.toNat : Int) := by rw [txt_get s e2 hl2 hin2]; rw [List.getElem?_eq_getElem hl2] at hd2; injection hd2 with hd2; rw [hd2]
          have m6 : (e2 : Int) < (s.length : Int) := by omega
          have m7 : ¬ (s.length : Int) ≤ (e2 : Int) := by omega
          have m8 : decide ((s.length : Int) ≤ (e2 : Int)) = false := decide_eq_false m7
          have m9 : decide (s.length ≤ e2) = false := decide_eq_false (by omega)
          by_cases h93 : d2 = 93
          ·subst h93
           have hi93 : (((txt s)[e2]'hin2).toNat : Int) = 93 := hix2
           have HNX : Hid (PrL s (o ++ [(nm, ky)]) (e2 + 1)) := hHd (by
            have h := at_whole HFF.out.1 HC.out H6.out HN'.out HE1.out HD.out HK'.out (by rw [← HE2.out]; exact hd2)
            rw [← HE2.out, ← HNM.out, ← HKY.out] at h
            exact PrL_next h HFF.out.2.1 (by omega) HFF.out.2.2 H6.out)
           clear hix2 hd2 HBE
           have HAL := HAL2
           have HAL1 := HAL2
           clear HAL2
           have HOA : Hid (OwnS w.heap.size (wr.alloc (.cells #[.string (txt nm), .string (txt ky)] 52)) (.slice A o.length c) o) := hHd (HOW.out.below HAL.out)
           have HBA := hHd (Blk.new wr 52 #[.string (txt nm), .string (txt ky)])
           have HOB : Hid (OwnS w.heap.size ((wr.alloc (.cells #[.string (txt nm), .string (txt ky)] 52)).alloc (.cells #[.string (txt nm), .string (txt ky)] 52)) (.slice A o.length c) o) := hHd (HOA.out.below bAl)
           have HBB : Hid (Blk ((wr.alloc (.cells #[.string (txt nm), .string (txt ky)] 52)).alloc (.cells #[.string (txt nm), .string (txt ky)] 52)) (wr.heap.size + 1) 52 #[.string (txt nm), .string (txt ky)]) := hHd (by have h := Blk.new (wr.alloc (.cells #[.string (txt nm), .string (txt ky)] 52)) 52 #[.string (txt nm), .string (txt ky)]; rwa [show (wr.alloc (.cells #[.string (txt nm), .string (txt ky)] 52)).heap.size = wr.heap.size + 1 by simp] at h)
           have HBS : Hid (w.heap.size ≤ ((wr.alloc (.cells #[.string (txt nm), .string (txt ky)] 52)).alloc (.cells #[.string (txt nm), .string (txt ky)] 52)).heap.size) := hHd (by have := HB.out.size; simp; omega)
           have HON : Hid (∀ u ∈ [Value.string (txt nm), .string (txt ky)], u.oneCell' = true) := hHd (by simp [Value.oneCell'])
           have HLA : Hid (Below w.heap.size w ((wr.alloc (.cells #[.string (txt nm), .string (txt ky)] 52)).alloc (.cells #[.string (txt nm), .string (txt ky)] 52))) := hHd (HB.out.trans ((bAl |>.alloc (by simp) _ : Below wr.heap.size wr ((wr.alloc (.cells #[.string (txt nm), .string (txt ky)] 52)).alloc (.cells #[.string (txt nm), .string (txt ky)] 52))).mono HB.out.size))
           clear HAL1
           have o6 : o.length ≤ 6 := HFF.out.2.2
           go_wp2_with (at_builtin; refine wpList_append_k (P := Tryz.prog) (ts := 53) Tryz.underlying53 Tryz.cellsSt szeroN (by omega) rfl _ _ rfl rfl w.heap.size (.slice A o.length c) o.length (stC o) rfl HOB.out (wr.heap.size + 1) rfl [.string (txt nm), .string (txt ky)] HBB.out rfl HON.out (by omega) (by omega) HBS.out ?_; intro v' w' hap)
           obtain ⟨A9, c9, rfl⟩ := OwnS.shape (own_snoc (x := (nm, ky)) hap.1 : OwnS w.heap.size w' v' (o ++ [(nm, ky)]))
           have HOW9 : Hid (OwnS w.heap.size w' (.slice A9 (o ++ [(nm, ky)]).length c9) (o ++ [(nm, ky)])) := hHd (own_snoc (x := (nm, ky)) hap.1)
           have HB9 : Hid (Below w.heap.size w w') := hHd (HLA.out.trans (hap.below HOB.out HBS.out))
           clear hap
           go_wp2
           go_roundw
           case rel => exact ⟨o ++ [(nm, ky)], (e2 + 1), by omega, by go_num, HOW9, HNX, HB9⟩
           case measure => simp [intOf]; omega
          ·have HF : Hid (parseX15 s = ([], 21, e2)) := hHd (by
            have h := at_close HFF.out.1 HC.out H6.out HN'.out HE1.out HD.out HK'.out (by rw [← HE2.out, hd2]; intro e; injection e with e; exact h93 e)
            rwa [← HE2.out] at h)
           have n1 : ((d2.toNat : Int) == 93) = false := beq_eq_false_iff_ne.2 (fun e => h93 (by rw [← UInt8.toNat_inj]; show d2.toNat = 93; omega))
           have n2 : ((d2.toNat : Int) != 93) = true := by unfold bne; rw [n1]; rfl
           clear hd2 h93
           generalize d2.toNat = m at hix2 n1 n2
           go_wp2
           go_ret3
           exact PrsN.bad HF.out rfl HBE.out
         ·have HF : Hid (parseX15 s = ([], 21, e2)) := hHd (by
           have h := at_close HFF.out.1 HC.out H6.out HN'.out HE1.out HD.out HK'.out (by rw [← HE2.out, List.getElem?_eq_none (by omega)]; intro e; cases e)
           rwa [← HE2.out] at h)
          have m7 : (s.length : Int) ≤ (e2 : Int) := by omega
          have m8 : decide ((s.length : Int) ≤ (e2 : Int)) = true := decide_eq_true m7
          have m9 : decide (s.length ≤ e2) = true := decide_eq_true (by omega)
          clear hl2
          go_wp2
          go_ret3
          exact PrsN.bad HF.out rfl HBE.out
       ·have HNX : Hid (PrL s (o ++ [(nm, [])]) e1) := hHd (by
         have h := at_plain HFF.out.1 HC.out H6.out (by rw [← HNM.out]; exact HI.out) (by rw [← HE1.out, hd]; intro e; injection e with e; exact h91 e)
         rw [← HE1.out, ← HNM.out] at h
         exact PrL_next h HFF.out.2.1 (by omega) HFF.out.2.2 H6.out)
        have n1 : ((d.toNat : Int) == 91) = false := beq_eq_false_iff_ne.2 (fun e => h91 (by rw [← UInt8.toNat_inj]; show d.toNat = 91; omega))
        clear hd h91 W1 I1
        generalize d.toNat = m at hix1 n1
        have HOA : Hid (OwnS w.heap.size (wr.alloc (.cells #[.string (txt nm), .string ⟨#[]⟩] 52)) (.slice A o.length c) o) := hHd (HOW.out.below HAL.out)
        have HBA := hHd (Blk.new wr 52 #[.string (txt nm), .string ⟨#[]⟩])
        have HOB : Hid (OwnS w.heap.size ((wr.alloc (.cells #[.string (txt nm), .string ⟨#[]⟩] 52)).alloc (.cells #[.string (txt nm), .string ⟨#[]⟩] 52)) (.slice A o.length c) o) := hHd (HOA.out.below bAl)
        have HBB : Hid (Blk ((wr.alloc (.cells #[.string (txt nm), .string ⟨#[]⟩] 52)).alloc (.cells #[.string (txt nm), .string ⟨#[]⟩] 52)) (wr.heap.size + 1) 52 #[.string (txt nm), .string ⟨#[]⟩]) := hHd (by have h := Blk.new (wr.alloc (.cells #[.string (txt nm), .string ⟨#[]⟩] 52)) 52 #[.string (txt nm), .string ⟨#[]⟩]; rwa [show (wr.alloc (.cells #[.string (txt nm), .string ⟨#[]⟩] 52)).heap.size = wr.heap.size + 1 by simp] at h)
        have HBS : Hid (w.heap.size ≤ ((wr.alloc (.cells #[.string (txt nm), .string ⟨#[]⟩] 52)).alloc (.cells #[.string (txt nm), .string ⟨#[]⟩] 52)).heap.size) := hHd (by have := HB.out.size; simp; omega)
        have HON : Hid (∀ u ∈ [Value.string (txt nm), .string ⟨#[]⟩], u.oneCell' = true) := hHd (by simp [Value.oneCell'])
        have HLA : Hid (Below w.heap.size w ((wr.alloc (.cells #[.string (txt nm), .string ⟨#[]⟩] 52)).alloc (.cells #[.string (txt nm), .string ⟨#[]⟩] 52))) := hHd (HB.out.trans ((bAl |>.alloc (by simp) _ : Below wr.heap.size wr ((wr.alloc (.cells #[.string (txt nm), .string ⟨#[]⟩] 52)).alloc (.cells #[.string (txt nm), .string ⟨#[]⟩] 52))).mono HB.out.size))
        clear HAL1
        have o6 : o.length ≤ 6 := HFF.out.2.2
        go_wp2_with (at_builtin; refine wpList_append_k (P := Tryz.prog) (ts := 53) Tryz.underlying53 Tryz.cellsSt szeroN (by omega) rfl _ _ rfl rfl w.heap.size (.slice A o.length c) o.length (stC o) rfl HOB.out (wr.heap.size + 1) rfl [.string (txt nm), .string ⟨#[]⟩] HBB.out rfl HON.out (by omega) (by omega) HBS.out ?_; intro v' w' hap)
        obtain ⟨A9, c9, rfl⟩ := OwnS.shape (own_snoc (x := (nm, [])) hap.1 : OwnS w.heap.size w' v' (o ++ [(nm, [])]))
        have HOW9 : Hid (OwnS w.heap.size w' (.slice A9 (o ++ [(nm, [])]).length c9) (o ++ [(nm, [])])) := hHd (own_snoc (x := (nm, [])) hap.1)
        have HB9 : Hid (Below w.heap.size w w') := hHd (HLA.out.trans (hap.below HOB.out HBS.out))
        clear hap
        go_wp2
        go_roundw
        case rel => exact ⟨o ++ [(nm, [])], e1, by omega, by go_num, HOW9, HNX, HB9⟩
        case measure => simp [intOf]; omega
      ·have HNX : Hid (PrL s (o ++ [(nm, [])]) e1) := hHd (by
        have h := at_plain HFF.out.1 HC.out H6.out (by rw [← HNM.out]; exact HI.out) (by rw [← HE1.out, List.getElem?_eq_none (by omega)]; intro e; cases e)
        rw [← HE1.out, ← HNM.out] at h
        exact PrL_next h HFF.out.2.1 (by omega) HFF.out.2.2 H6.out)
       have m1 : ¬ (e1 : Int) < (s.length : Int) := by omega
       have m2 : decide ((e1 : Int) < (s.length : Int)) = false := decide_eq_false m1
       have m4 : decide (e1 < s.length) = false := decide_eq_false hl1
       clear W1 I1 hl1
       have HOA : Hid (OwnS w.heap.size (wr.alloc (.cells #[.string (txt nm), .string ⟨#[]⟩] 52)) (.slice A o.length c) o) := hHd (HOW.out.below HAL.out)
       have HBA := hHd (Blk.new wr 52 #[.string (txt nm), .string ⟨#[]⟩])
       have HOB : Hid (OwnS w.heap.size ((wr.alloc (.cells #[.string (txt nm), .string ⟨#[]⟩] 52)).alloc (.cells #[.string (txt nm), .string ⟨#[]⟩] 52)) (.slice A o.length c) o) := hHd (HOA.out.below bAl)
       have HBB : Hid (Blk ((wr.alloc (.cells #[.string (txt nm), .string ⟨#[]⟩] 52)).alloc (.cells #[.string (txt nm), .string ⟨#[]⟩] 52)) (wr.heap.size + 1) 52 #[.string (txt nm), .string ⟨#[]⟩]) := hHd (by have h := Blk.new (wr.alloc (.cells #[.string (txt nm), .string ⟨#[]⟩] 52)) 52 #[.string (txt nm), .string ⟨#[]⟩]; rwa [show (wr.alloc (.cells #[.string (txt nm), .string ⟨#[]⟩] 52)).heap.size = wr.heap.size + 1 by simp] at h)
       have HBS : Hid (w.heap.size ≤ ((wr.alloc (.cells #[.string (txt nm), .string ⟨#[]⟩] 52)).alloc (.cells #[.string (txt nm), .string ⟨#[]⟩] 52)).heap.size) := hHd (by have := HB.out.size; simp; omega)
       have HON : Hid (∀ u ∈ [Value.string (txt nm), .string ⟨#[]⟩], u.oneCell' = true) := hHd (by simp [Value.oneCell'])
       have HLA : Hid (Below w.heap.size w ((wr.alloc (.cells #[.string (txt nm), .string ⟨#[]⟩] 52)).alloc (.cells #[.string (txt nm), .string ⟨#[]⟩] 52))) := hHd (HB.out.trans ((bAl |>.alloc (by simp) _ : Below wr.heap.size wr ((wr.alloc (.cells #[.string (txt nm), .string ⟨#[]⟩] 52)).alloc (.cells #[.string (txt nm), .string ⟨#[]⟩] 52))).mono HB.out.size))
       clear HAL1
       have o6 : o.length ≤ 6 := HFF.out.2.2
       go_wp2_with (at_builtin; refine wpList_append_k (P := Tryz.prog) (ts := 53) Tryz.underlying53 Tryz.cellsSt szeroN (by omega) rfl _ _ rfl rfl w.heap.size (.slice A o.length c) o.length (stC o) rfl HOB.out (wr.heap.size + 1) rfl [.string (txt nm), .string ⟨#[]⟩] HBB.out rfl HON.out (by omega) (by omega) HBS.out ?_; intro v' w' hap)
       obtain ⟨A9, c9, rfl⟩ := OwnS.shape (own_snoc (x := (nm, [])) hap.1 : OwnS w.heap.size w' v' (o ++ [(nm, [])]))
       have HOW9 : Hid (OwnS w.heap.size w' (.slice A9 (o ++ [(nm, [])]).length c9) (o ++ [(nm, [])])) := hHd (own_snoc (x := (nm, [])) hap.1)
       have HB9 : Hid (Below w.heap.size w w') := hHd (HLA.out.trans (hap.below HOB.out HBS.out))
       clear hap
       go_wp2
       go_roundw
       case rel => exact ⟨o ++ [(nm, [])], e1, by omega, by go_num, HOW9, HNX, HB9⟩
       case measure => simp [intOf]; omega
   ·have HF : Hid (parseX15 s = ([], 21, a)) := hHd (at_c hf hc h47)
    have n1 : ((ch.toNat : Int) == 47) = false := beq_eq_false_iff_ne.2 (fun e => h47 (by rw [← UInt8.toNat_inj]; show ch.toNat = 47; omega))
    have n2 : ((ch.toNat : Int) != 47) = true := by unfold bne; rw [n1]; rfl
    clear hf hf2 hc h47 HL HST
    generalize ch.toNat = m at hix n1 n2
    go_wp2
    go_ret3
    exact PrsN.bad HF.out rfl HB.out
  ·obtain rfl : a = s.length := by omega
   have HF := hHd HL.out.end_
   have i2 : ¬ (s.length : Int) < (s.length : Int) := by omega
   have i3 : ((s.length : Int) == 0) = false := beq_eq_false_iff_ne.2 (by omega)
   have i4 : (s.length == 0) = false := beq_eq_false_iff_ne.2 (by omega)
   clear HL HST hlt
   go_wp2
   go_ret3
   rw [HF.out]
   exact ⟨_, rfl, HOW.out.wayN, HB.out⟩
theorem rparse15n_any (s : List UInt8) (hs : s.length ≤ 9223372036854775806) (w : World) : Calls Tryz.prog 34 #[.string (txt s)] w (PrsN (parseX15 s) w) := by
 by_cases h0 : s = []
 ·subst h0; exact rparse15_none w
 by_cases h47 : s = [47]
 ·subst h47; exact rparse15_root w
 exact rparse15_some s h0 h47 hs w
end Go.Proofs.YtleidkpdpabkpaaGreatDoor
