/- PtvStr PtvStp -/
import Derived.Test.YtleidkpdpabkpaaGreatDoorAM23
set_option linter.unusedSimpArgs false
set_option linter.unusedVariables false
set_option maxRecDepth 100000
set_option maxHeartbeats 8000000
namespace Go.Proofs.YtleidkpdpabkpaaGreatDoor
open Go.RowKit
theorem nm_in (c : UInt8) : inNm.contains c = nmB c := by
 have h : ∀ n : Fin 256, inNm.contains (UInt8.ofNat n.val) = nmB (UInt8.ofNat n.val) := by decide +kernel
 have h2 := h ⟨c.toNat, c.toNat_lt⟩
 simp only [UInt8.ofNat_toNat] at h2
 exact h2
theorem drop_wl (s : List UInt8) : s.dropWhile nmB = s.drop (wl s) := by
 unfold wl
 induction s with
 | nil => rfl
 | cons c r ih =>
  rw [List.takeWhile_cons, List.dropWhile_cons]
  by_cases h : nmB c = true
  ·rw [if_pos h, if_pos h, List.length_cons, List.drop_succ_cons, ih]
  ·rw [if_neg h, if_neg h]; rfl
theorem take_wl (s : List UInt8) : s.takeWhile nmB = s.take (wl s) := by
 unfold wl
 have h := take_split s
 generalize s.takeWhile nmB = a at h ⊢
 rw [h, List.take_left]
theorem triml_any (s : List UInt8) (w : World) : Calls Tryz.prog 130 #[.string (txt s), .string (txt inNm)] w fun e w' => e = .returned (.string (txt (s.drop (wl s)))) ∧ Below w.heap.size w w' :=
 (Any.strings_TrimLeft_laid sl161 info_set (txt s) (txt inNm) w (by rw [txt_size]; decide) (ascii_of_all (by rw [txt_data]; decide))).mono fun e w' h => ⟨by
  rw [h.1, txt_data, txt_data, ← drop_wl]
  unfold Lib.trimLeftS
  rw [show (fun x => inNm.contains x) = nmB from funext nm_in]
  rfl, h.2⟩
theorem trims_any (s : List UInt8) (k : Nat) (hk : k ≤ s.length) (hs : s.length ≤ 9223372036854775807) (w : World) : Calls Tryz.prog 131 #[.string (txt s), .string (txt (s.drop k))] w fun e w' => e = .returned (.string (txt (s.take k))) ∧ w = w' :=
 (Any.strings_TrimSuffix sl102 (txt s) (txt (s.drop k)) w (by rw [txt_size]; exact hs)).mono fun e w' h => ⟨by
  have e1 : Lib.hasSuffix s (s.drop k) = true := by
   unfold Lib.hasSuffix
   rw [List.isSuffixOf_iff_suffix]
   exact List.drop_suffix k s
  rw [h.1, txt_data, txt_data]
  unfold Lib.trimSuffix
  rw [if_pos e1, List.length_drop, show s.length - (s.length - k) = k by omega]
  rfl, h.2.symm⟩
def cutS (c : UInt8) (s : List UInt8) : List UInt8 := if s.head? = some c then s.tail else s
theorem pre_one (s : List UInt8) (c : UInt8) : Lib.hasPrefix s [c] = decide (s.head? = some c) := by
 unfold Lib.hasPrefix
 cases s with
 | nil => rfl
 | cons d r =>
  by_cases h : c = d
  ·subst h; simp [List.isPrefixOf]
  ·have h2 : ¬ d = c := fun e => h e.symm
   simp [List.isPrefixOf, h, h2]
theorem hasp_any (s : List UInt8) (c : UInt8) (w : World) : Calls Tryz.prog 123 #[.string (txt s), .string (txt [c])] w fun e w' => e = .returned (.bool (decide (s.head? = some c))) ∧ w = w' :=
 (Any.strings_HasPrefix sl99 (txt s) (txt [c]) w).mono fun e w' h => ⟨by rw [h.1, txt_data, txt_data, pre_one], h.2.symm⟩
theorem cutp_any (s : List UInt8) (c : UInt8) (w : World) : Calls Tryz.prog 129 #[.string (txt s), .string (txt [c])] w fun e w' => e = .returned (.tuple #[.string (txt (cutS c s)), .bool (decide (s.head? = some c))]) ∧ w = w' :=
 (Any.strings_CutPrefix sl103 (txt s) (txt [c]) w).mono fun e w' h => ⟨by
  rw [h.1, txt_data, txt_data, pre_one]
  unfold Lib.trimPrefix cutS
  rw [pre_one]
  by_cases h1 : s.head? = some c
  ·rw [if_pos h1, if_pos (decide_eq_true h1)]
   cases s with
   | nil => cases h1
   | cons d r => rfl
  ·rw [if_neg h1, if_neg (by rw [decide_eq_false h1]; decide)]
   rfl, h.2.symm⟩
def RdS (w : World) (g : Nat) (l : List UInt8) : Prop := Blk w g 169 #[.string (txt l)]
def RdP (g : Nat) (l : List UInt8) (v : Value) (w : World) (r : Ending) (w' : World) : Prop := r = .returned v ∧ RdS w' g l ∧ w.grownBy w' (some g)
theorem sign_any (g : Nat) (s : List UInt8) (c : UInt8) (w : World) (h : RdS w g s) : Calls Tryz.prog 124 #[.pointer (some ⟨g, 0, none⟩), .string (txt [c])] w (RdP g (cutS c s) (.bool (decide (s.head? = some c))) w) := by
 have q0 : w.cell? ⟨g, 0, none⟩ = some (.string (txt s)) := by rw [h.cell]; rfl
 have f0 : w.frozen? ⟨g, 0, none⟩ = false := h.frozen 0
 have HC := hHd (cutp_any s c w)
 have HE : Hid (RdS (w.setCell ⟨g, 0, none⟩ (.string (txt (cutS c s)))) g (cutS c s)) := hHd (h.set_ 0 _)
 clear h
 generalize decide (s.head? = some c) = b at HC ⊢
 generalize cutS c s = l at HC HE ⊢
 go_enter Tryz.func124, Tryz.ntmps124
 go_wp2_with fail
 refine HC.out.mono ?_
 rintro r w1 ⟨rfl, rfl⟩
 clear HC
 go_wp2
 go_ret
 exact ⟨rfl, HE.out, gr_set ⟨g, 0, none⟩ _⟩
theorem name_ok (g : Nat) (s : List UInt8) (hs : s.length ≤ 9223372036854775807) (hi : identX (s.take (wl s)) = true) (w : World) (h : RdS w g s) : Calls Tryz.prog 125 #[.pointer (some ⟨g, 0, none⟩)] w (RdP g (s.drop (wl s)) (.tuple #[.string (txt (s.take (wl s))), .int .i64 0]) w) := by
 have q0 : w.cell? ⟨g, 0, none⟩ = some (.string (txt s)) := by rw [h.cell]; rfl
 have hw := wl_le s
 have HT := hHd (triml_any s w)
 have HH := hHd h
 have HL : Hid ((s.take (wl s)).length ≤ 9223372036854775807) := hHd (by rw [List.length_take]; omega)
 have HS : ∀ W, Hid (Calls Tryz.prog 131 #[.string (txt s), .string (txt (s.drop (wl s)))] W fun e w' => e = .returned (.string (txt (s.take (wl s)))) ∧ W = w') := fun W => hHd (trims_any s (wl s) hw hs W)
 have HI : ∀ W, Hid (Calls Tryz.prog 73 #[.string (txt (s.take (wl s)))] W fun e w' => e = .returned (.bool true) ∧ W = w') := fun W => hHd ((ident_any _ HL.out W).mono fun e w' k => ⟨by rw [k.1, hi], k.2⟩)
 clear h hw hi
 generalize s.drop (wl s) = l at HT HS ⊢
 generalize s.take (wl s) = n at HS HI ⊢
 clear HL
 go_enter Tryz.func125, Tryz.ntmps125
 go_wp2_with fail
 refine HT.out.mono ?_
 rintro r w1 ⟨rfl, hB⟩
 have hR1 : RdS w1 g s := HH.out.below hB HH.out.lt
 have q1 : w1.cell? ⟨g, 0, none⟩ = some (.string (txt s)) := by rw [hR1.cell]; rfl
 have f1 : w1.frozen? ⟨g, 0, none⟩ = false := hR1.frozen 0
 have HE : Hid (RdS (w1.setCell ⟨g, 0, none⟩ (.string (txt l))) g l) := hHd (hR1.set_ 0 _)
 have HG : Hid (w.grownBy (w1.setCell ⟨g, 0, none⟩ (.string (txt l))) (some g)) := hHd (gr_trans (gr_of hB (Nat.le_refl _) _) (gr_set ⟨g, 0, none⟩ _))
 clear hR1 hB HT
 go_wp2_with fail
 refine (HS _).out.mono ?_
 rintro r w2 ⟨rfl, rfl⟩
 go_wp2_with fail
 refine (HI _).out.mono ?_
 rintro r w2 ⟨rfl, rfl⟩
 clear HS HI
 go_wp2
 go_ret2
 exact ⟨rfl, HE.out, HG.out⟩
theorem name_bad (g : Nat) (s : List UInt8) (hs : s.length ≤ 9223372036854775807) (hi : identX (s.take (wl s)) = false) (w : World) (h : RdS w g s) : Calls Tryz.prog 125 #[.pointer (some ⟨g, 0, none⟩)] w (RdP g s (.tuple #[.string (txt []), .int .i64 22]) w) := by
 have q0 : w.cell? ⟨g, 0, none⟩ = some (.string (txt s)) := by rw [h.cell]; rfl
 have hw := wl_le s
 have HT := hHd (triml_any s w)
 have HH := hHd h
 have HL : Hid ((s.take (wl s)).length ≤ 9223372036854775807) := hHd (by rw [List.length_take]; omega)
 have HS : ∀ W, Hid (Calls Tryz.prog 131 #[.string (txt s), .string (txt (s.drop (wl s)))] W fun e w' => e = .returned (.string (txt (s.take (wl s)))) ∧ W = w') := fun W => hHd (trims_any s (wl s) hw hs W)
 have HI : ∀ W, Hid (Calls Tryz.prog 73 #[.string (txt (s.take (wl s)))] W fun e w' => e = .returned (.bool false) ∧ W = w') := fun W => hHd ((ident_any _ HL.out W).mono fun e w' k => ⟨by rw [k.1, hi], k.2⟩)
 clear h hw hi
 generalize s.drop (wl s) = l at HT HS
 generalize s.take (wl s) = n at HS HI
 clear HL
 go_enter Tryz.func125, Tryz.ntmps125
 go_wp2_with fail
 refine HT.out.mono ?_
 rintro r w1 ⟨rfl, hB⟩
 have hR1 : RdS w1 g s := HH.out.below hB HH.out.lt
 have q1 : w1.cell? ⟨g, 0, none⟩ = some (.string (txt s)) := by rw [hR1.cell]; rfl
 have HE := hHd hR1
 have HG : Hid (w.grownBy w1 (some g)) := hHd (gr_of hB (Nat.le_refl _) _)
 clear hR1 hB HT
 go_wp2_with fail
 refine (HS _).out.mono ?_
 rintro r w2 ⟨rfl, rfl⟩
 go_wp2_with fail
 refine (HI _).out.mono ?_
 rintro r w2 ⟨rfl, rfl⟩
 clear HS HI
 go_wp2
 go_ret2
 exact ⟨rfl, HE.out, HG.out⟩
def stepD (d : Nat) (r : List UInt8) : (Stp × Nat) ⊕ (Nat × Nat) := if r.head? ≠ some 47 then .inr (21, 0) else if d = 6 then .inr (13, 0) else stepX r
theorem runD {f : Nat} {o : List Stp} {a : Nat} {r : List UInt8} (hr : r ≠ []) : runX (f + 1) o a r = match stepD o.length r with | .inr (e, p) => ([], e, a + p) | .inl (s, n) => runX f (o ++ [s]) (a + n) (r.drop n) := by
 conv => lhs; unfold runX
 unfold stepD
 rw [if_neg hr]
 by_cases h : r.head? ≠ some 47
 ·rw [if_pos h, if_pos h]; rfl
 ·rw [if_neg h, if_neg h]
  by_cases h6 : o.length = 6
  ·rw [if_pos h6, if_pos h6]; rfl
  ·rw [if_neg h6, if_neg h6]
   cases stepX r with
   | inr p => obtain ⟨e, q⟩ := p; rfl
   | inl p => obtain ⟨e, q⟩ := p; rfl
theorem hd47 {r : List UInt8} (h : r.head? = some 47) : ∃ t, r = 47 :: t := by
 cases r with
 | nil => cases h
 | cons c t => injection h with h; subst h; exact ⟨t, rfl⟩
theorem sX_name {t : List UInt8} (h : identX (t.take (wl t)) = false) : stepX (47 :: t) = .inr (22, 1) := by
 unfold stepX
 simp only
 rw [take_wl, if_pos h]
theorem sX_wl {t : List UInt8} : (t.takeWhile nmB).length = wl t := rfl
theorem sX_plain {t : List UInt8} (h : identX (t.take (wl t)) = true) (hd : (t.drop (wl t)).head? ≠ some 91) : stepX (47 :: t) = .inl ((t.take (wl t), []), 1 + wl t) := by
 unfold stepX
 simp only
 rw [sX_wl, take_wl, if_neg (by rw [h]; simp)]
 cases hu : t.drop (wl t) with
 | nil => rfl
 | cons d v =>
  simp only
  rw [if_neg]
  intro e
  subst e
  rw [hu] at hd
  exact hd rfl
theorem sX_key {t v : List UInt8} (h : identX (t.take (wl t)) = true) (hd : t.drop (wl t) = 91 :: v) (hk : identX (v.take (wl v)) = false) : stepX (47 :: t) = .inr (22, 1 + wl t + 1) := by
 unfold stepX
 simp only
 rw [sX_wl, take_wl, if_neg (by rw [h]; simp), hd]
 simp only [if_true]
 rw [take_wl, if_pos hk]
theorem sX_open {t v : List UInt8} (h : identX (t.take (wl t)) = true) (hd : t.drop (wl t) = 91 :: v) (hk : identX (v.take (wl v)) = true) (hx : (v.drop (wl v)).head? ≠ some 93) : stepX (47 :: t) = .inr (21, 1 + wl t + 1 + wl v) := by
 unfold stepX
 simp only
 rw [sX_wl, take_wl, if_neg (by rw [h]; simp), hd]
 simp only [if_true]
 rw [sX_wl, take_wl, if_neg (by rw [hk]; simp)]
 cases hu : v.drop (wl v) with
 | nil => rfl
 | cons d y =>
  simp only
  rw [if_neg]
  intro e
  subst e
  rw [hu] at hx
  exact hx rfl
theorem sX_whole {t v y : List UInt8} (h : identX (t.take (wl t)) = true) (hd : t.drop (wl t) = 91 :: v) (hk : identX (v.take (wl v)) = true) (hx : v.drop (wl v) = 93 :: y) : stepX (47 :: t) = .inl ((t.take (wl t), v.take (wl v)), 1 + wl t + 1 + wl v + 1) := by
 unfold stepX
 simp only
 rw [sX_wl, take_wl, if_neg (by rw [h]; simp), hd]
 simp only [if_true]
 rw [sX_wl, take_wl, if_neg (by rw [hk]; simp), hx]
 rfl
theorem dr1 {t : List UInt8} {n : Nat} : (47 :: t : List UInt8).drop (1 + n) = t.drop n := by rw [Nat.add_comm, List.drop_succ_cons]
theorem dr2 {t v : List UInt8} {n m : Nat} (h : t.drop n = 91 :: v) : (47 :: t : List UInt8).drop (1 + n + 1 + m) = v.drop m := by
 rw [show 1 + n + 1 + m = 1 + (n + (1 + m)) by omega, dr1, ← List.drop_drop, h, Nat.add_comm, List.drop_succ_cons]
def st2 (w : World) (b : Nat) (x y : Value) : World := (w.setCell ⟨b, 0, none⟩ x).setCell ⟨b, 1, none⟩ y
def StS (w : World) (g : Nat) (W : World) (l : List UInt8) : Prop := g < w.heap.size ∧ RdS W g l ∧ Blk W w.heap.size 52 #[.string ⟨#[]⟩, .string ⟨#[]⟩] ∧ w.grownBy W (some g)
theorem StS.init {w : World} {g : Nat} {l : List UInt8} (h : RdS w g l) : StS w g (w.alloc (.cells #[.string ⟨#[]⟩, .string ⟨#[]⟩] 52)) l :=
 ⟨h.lt, h.alloc _, Blk.new w _ _, gr_of bAl (Nat.le_refl _) _⟩
theorem StS.go {w W W' : World} {g : Nat} {l l' : List UInt8} (h : StS w g W l) (hR : RdS W' g l') (hG : W.grownBy W' (some g)) : StS w g W' l' := by
 obtain ⟨h1, h2, h3, h4⟩ := h
 refine ⟨h1, hR, (hG.block _ h3.lt (fun e => ?_)).trans h3, gr_trans h4 hG⟩
 injection e with e
 omega
def StpP (g : Nat) (s : List UInt8) (d : Nat) (w : World) (r : Ending) (w' : World) : Prop :=
 match stepD d s with
 | .inl (x, n) => RdP g (s.drop n) (.tuple #[.agg #[.string (txt x.1), .string (txt x.2)], .int .i64 0]) w r w'
 | .inr (e, o) => ∃ a b, RdP g (s.drop o) (.tuple #[.agg #[.string (txt a), .string (txt b)], .int .i64 (e : Int)]) w r w'
theorem StS.end_ {w W : World} {g : Nat} {l : List UInt8} (h : StS w g W l) (x y : Value) : Blk (st2 W w.heap.size x y) w.heap.size 52 #[x, y] ∧ RdS (st2 W w.heap.size x y) g l ∧ w.grownBy (st2 W w.heap.size x y) (some g) := by
 obtain ⟨h1, h2, h3, h4⟩ := h
 refine ⟨(h3.set_ 0 x).set_ 1 y, ?_, gr_below h4 (((Below.refl w.heap.size W).setCell (p := ⟨w.heap.size, 0, none⟩) (Nat.le_refl _) _).setCell (p := ⟨w.heap.size, 1, none⟩) (Nat.le_refl _) _) (Nat.le_refl _)⟩
 exact ((Below.heap_setCell _ ⟨w.heap.size, 1, none⟩ y g (Nat.ne_of_lt h1)).trans (Below.heap_setCell _ ⟨w.heap.size, 0, none⟩ x g (Nat.ne_of_lt h1))).trans h2
theorem StpP.no {g : Nat} {s : List UInt8} {d e o : Nat} {w w' : World} {r : Ending} {a b : List UInt8} (h : stepD d s = .inr (e, o)) (k : RdP g (s.drop o) (.tuple #[.agg #[.string (txt a), .string (txt b)], .int .i64 (e : Int)]) w r w') : StpP g s d w r w' := by
 unfold StpP; rw [h]; exact ⟨a, b, k⟩
theorem StpP.yes {g : Nat} {s : List UInt8} {d n : Nat} {x : Stp} {w w' : World} {r : Ending} (h : stepD d s = .inl (x, n)) (k : RdP g (s.drop n) (.tuple #[.agg #[.string (txt x.1), .string (txt x.2)], .int .i64 0]) w r w') : StpP g s d w r w' := by
 unfold StpP; rw [h]; exact k
theorem sD_no {d : Nat} {s : List UInt8} (h : s.head? ≠ some 47) : stepD d s = .inr (21, 0) := by unfold stepD; rw [if_pos h]
theorem sD_6 {s : List UInt8} (h : s.head? = some 47) : stepD 6 s = .inr (13, 0) := by unfold stepD; rw [if_neg (by rw [h]; simp)]; rfl
theorem sD_go {d : Nat} {t : List UInt8} (h : d ≠ 6) : stepD d (47 :: t) = stepX (47 :: t) := by unfold stepD; rw [if_neg (by simp), if_neg h]
theorem step_6 (g : Nat) (s : List UInt8) (d : Nat) (hd : d = 6) (h47 : s.head? = some 47) (w : World) (h : RdS w g s) : Calls Tryz.prog 117 #[.pointer (some ⟨g, 0, none⟩), .int .i64 (d : Int)] w (StpP g s d w) := by
 have HF : Hid (∀ r w', RdP g s (.tuple #[.agg #[.string (txt []), .string (txt [])], .int .i64 13]) w r w' → StpP g s d w r w') := hHd (fun r w' k => by subst hd; exact .no (sD_6 h47) k)
 have j6 : ((d : Int) == 6) = true := beq_iff_eq.2 (by omega)
 have j7 : (d == 6) = true := beq_iff_eq.2 hd
 have HP : ∀ W, Hid (Calls Tryz.prog 123 #[.string (txt s), .string ⟨#[47]⟩] W fun e w' => e = .returned (.bool true) ∧ W = w') := fun W => hHd ((hasp_any s 47 W).mono fun e w' k => ⟨by rw [k.1, decide_eq_true h47], k.2⟩)
 have S0 := hHd (StS.init h)
 have q0 : (w.alloc (.cells #[.string ⟨#[]⟩, .string ⟨#[]⟩] 52)).cell? ⟨g, 0, none⟩ = some (.string (txt s)) := (S0.out.2.1.cell 0).trans rfl
 clear h hd h47
 go_enter Tryz.func117, Tryz.ntmps117
 go_wp2_with fail
 refine (HP _).out.mono ?_
 rintro r w1 ⟨rfl, rfl⟩
 clear HP
 go_wp2
 refine bodyPost_ret (res_cell_tmp rfl _ _ w.heap.size 52 _ (0, 0) _ rfl S0.out.2.2.1 Tryz.underlying52 rfl (by kernel_rfl)) rfl ?_
 exact HF.out _ _ ⟨rfl, S0.out.2.1, S0.out.2.2.2⟩
theorem step_no (g : Nat) (s : List UInt8) (d : Nat) (h47 : s.head? ≠ some 47) (w : World) (h : RdS w g s) : Calls Tryz.prog 117 #[.pointer (some ⟨g, 0, none⟩), .int .i64 (d : Int)] w (StpP g s d w) := by
 have HF : Hid (∀ r w', RdP g s (.tuple #[.agg #[.string (txt []), .string (txt [])], .int .i64 21]) w r w' → StpP g s d w r w') := hHd (fun r w' k => .no (sD_no h47) k)
 have HP : ∀ W, Hid (Calls Tryz.prog 123 #[.string (txt s), .string ⟨#[47]⟩] W fun e w' => e = .returned (.bool false) ∧ W = w') := fun W => hHd ((hasp_any s 47 W).mono fun e w' k => ⟨by rw [k.1, decide_eq_false h47], k.2⟩)
 have S0 := hHd (StS.init h)
 have SG : Hid (Calls Tryz.prog 124 #[.pointer (some ⟨g, 0, none⟩), .string ⟨#[47]⟩] (w.alloc (.cells #[.string ⟨#[]⟩, .string ⟨#[]⟩] 52)) (RdP g s (.bool false) (w.alloc (.cells #[.string ⟨#[]⟩, .string ⟨#[]⟩] 52)))) := hHd (by
  have k := sign_any g s 47 _ S0.out.2.1
  rw [decide_eq_false h47, show cutS 47 s = s from if_neg h47] at k
  exact k)
 have q0 : (w.alloc (.cells #[.string ⟨#[]⟩, .string ⟨#[]⟩] 52)).cell? ⟨g, 0, none⟩ = some (.string (txt s)) := (S0.out.2.1.cell 0).trans rfl
 clear h h47
 by_cases hd : d = 6
 ·have j6 : ((d : Int) == 6) = true := beq_iff_eq.2 (by omega)
  have j7 : (d == 6) = true := beq_iff_eq.2 hd
  clear hd
  go_enter Tryz.func117, Tryz.ntmps117
  go_wp2_with fail
  refine (HP _).out.mono ?_
  rintro r w1 ⟨rfl, rfl⟩
  clear HP
  go_wp2_with fail
  refine SG.out.mono ?_
  rintro r w1 ⟨rfl, hR, hG⟩
  have S1 := hHd (S0.out.go hR hG)
  have z0 : w1.cell? ⟨w.heap.size, 0, none⟩ = _ := (S1.out.2.2.1.cell 0).trans rfl
  have z1 : w1.cell? ⟨w.heap.size, 1, none⟩ = _ := (S1.out.2.2.1.cell 1).trans rfl
  have f0 : w1.frozen? ⟨w.heap.size, 0, none⟩ = false := S1.out.2.2.1.frozen 0
  have f1 : w1.frozen? ⟨w.heap.size, 1, none⟩ = false := S1.out.2.2.1.frozen 1
  have HEN := hHd (S1.out.end_ (.string ⟨#[]⟩) (.string ⟨#[]⟩))
  clear hR hG SG q0
  go_wp2
  refine bodyPost_ret (res_cell_tmp rfl _ _ w.heap.size 52 _ (0, 0) _ rfl HEN.out.1 Tryz.underlying52 rfl (by kernel_rfl)) rfl ?_
  exact HF.out _ _ ⟨rfl, HEN.out.2.1, HEN.out.2.2⟩
 ·have j6 : ((d : Int) == 6) = false := beq_eq_false_iff_ne.2 (by omega)
  have j7 : (d == 6) = false := beq_eq_false_iff_ne.2 hd
  clear hd
  go_enter Tryz.func117, Tryz.ntmps117
  go_wp2_with fail
  refine SG.out.mono ?_
  rintro r w1 ⟨rfl, hR, hG⟩
  have S1 := hHd (S0.out.go hR hG)
  have z0 : w1.cell? ⟨w.heap.size, 0, none⟩ = _ := (S1.out.2.2.1.cell 0).trans rfl
  have z1 : w1.cell? ⟨w.heap.size, 1, none⟩ = _ := (S1.out.2.2.1.cell 1).trans rfl
  have f0 : w1.frozen? ⟨w.heap.size, 0, none⟩ = false := S1.out.2.2.1.frozen 0
  have f1 : w1.frozen? ⟨w.heap.size, 1, none⟩ = false := S1.out.2.2.1.frozen 1
  have HEN := hHd (S1.out.end_ (.string ⟨#[]⟩) (.string ⟨#[]⟩))
  clear hR hG SG q0
  go_wp2
  refine bodyPost_ret (res_cell_tmp rfl _ _ w.heap.size 52 _ (0, 0) _ rfl HEN.out.1 Tryz.underlying52 rfl (by kernel_rfl)) rfl ?_
  exact HF.out _ _ ⟨rfl, HEN.out.2.1, HEN.out.2.2⟩
theorem step_go (g : Nat) (t : List UInt8) (d : Nat) (hd : d ≠ 6) (hs : t.length ≤ 9223372036854775807) (w : World) (h : RdS w g (47 :: t)) : Calls Tryz.prog 117 #[.pointer (some ⟨g, 0, none⟩), .int .i64 (d : Int)] w (StpP g (47 :: t) d w) := by
 have HNO : Hid (∀ e o a b r w', stepX (47 :: t) = .inr (e, o) → RdP g ((47 :: t).drop o) (.tuple #[.agg #[.string (txt a), .string (txt b)], .int .i64 (e : Int)]) w r w' → StpP g (47 :: t) d w r w') := hHd (fun e o a b r w' k1 k2 => .no ((sD_go hd).trans k1) k2)
 have HYE : Hid (∀ x n r w', stepX (47 :: t) = .inl (x, n) → RdP g ((47 :: t).drop n) (.tuple #[.agg #[.string (txt x.1), .string (txt x.2)], .int .i64 0]) w r w' → StpP g (47 :: t) d w r w') := hHd (fun x n r w' k1 k2 => .yes ((sD_go hd).trans k1) k2)
 have j6 : ((d : Int) == 6) = false := beq_eq_false_iff_ne.2 (by omega)
 have j7 : (d == 6) = false := beq_eq_false_iff_ne.2 hd
 have S0 := hHd (StS.init h)
 have SG : Hid (Calls Tryz.prog 124 #[.pointer (some ⟨g, 0, none⟩), .string ⟨#[47]⟩] (w.alloc (.cells #[.string ⟨#[]⟩, .string ⟨#[]⟩] 52)) (RdP g t (.bool true) (w.alloc (.cells #[.string ⟨#[]⟩, .string ⟨#[]⟩] 52)))) := hHd (sign_any g (47 :: t) 47 _ S0.out.2.1)
 clear h hd
 cases hn : identX (t.take (wl t)) with
 | false =>
  have HX := hHd (sX_name hn)
  have NM : ∀ W, RdS W g t → Hid (Calls Tryz.prog 125 #[.pointer (some ⟨g, 0, none⟩)] W (RdP g t (.tuple #[.string (txt []), .int .i64 22]) W)) := fun W k => hHd (name_bad g t hs hn W k)
  clear hn
  go_enter Tryz.func117, Tryz.ntmps117
  go_wp2_with fail
  refine SG.out.mono ?_
  rintro r w1 ⟨rfl, hR, hG⟩
  have S1 := hHd (S0.out.go hR hG)
  clear hR hG SG
  go_wp2_with fail
  refine (NM _ S1.out.2.1).out.mono ?_
  rintro r w2 ⟨rfl, hR, hG⟩
  have S2 := hHd (S1.out.go hR hG)
  have z0 : w2.cell? ⟨w.heap.size, 0, none⟩ = _ := (S2.out.2.2.1.cell 0).trans rfl
  have z1 : w2.cell? ⟨w.heap.size, 1, none⟩ = _ := (S2.out.2.2.1.cell 1).trans rfl
  have f0 : w2.frozen? ⟨w.heap.size, 0, none⟩ = false := S2.out.2.2.1.frozen 0
  have f1 : w2.frozen? ⟨w.heap.size, 1, none⟩ = false := S2.out.2.2.1.frozen 1
  have HEN := hHd (S2.out.end_ (.string (txt [])) (.string ⟨#[]⟩))
  clear hR hG NM
  go_wp2
  refine bodyPost_ret (res_cell_tmp rfl _ _ w.heap.size 52 _ (0, 0) _ rfl HEN.out.1 Tryz.underlying52 rfl (by kernel_rfl)) rfl ?_
  exact HNO.out _ _ [] [] _ _ HX.out ⟨rfl, HEN.out.2.1, HEN.out.2.2⟩
 | true =>
  have NM : ∀ W, RdS W g t → Hid (Calls Tryz.prog 125 #[.pointer (some ⟨g, 0, none⟩)] W (RdP g (t.drop (wl t)) (.tuple #[.string (txt (t.take (wl t))), .int .i64 0]) W)) := fun W k => hHd (name_ok g t hs hn W k)
  by_cases h91 : (t.drop (wl t)).head? = some 91
  ·obtain ⟨v, hv⟩ : ∃ v, t.drop (wl t) = 91 :: v := by
    cases hu : t.drop (wl t) with
    | nil => rw [hu] at h91; cases h91
    | cons c v => rw [hu] at h91; injection h91 with h91; subst h91; exact ⟨v, rfl⟩
   have hvl : v.length ≤ 9223372036854775807 := by
    have := congrArg List.length hv
    rw [List.length_drop, List.length_cons] at this
    omega
   have SO : ∀ W, RdS W g (t.drop (wl t)) → Hid (Calls Tryz.prog 124 #[.pointer (some ⟨g, 0, none⟩), .string ⟨#[91]⟩] W (RdP g v (.bool true) W)) := fun W k => hHd (by
    have k := sign_any g (t.drop (wl t)) 91 W k
    rw [decide_eq_true h91, hv] at k
    exact k)
   cases hk : identX (v.take (wl v)) with
   | false =>
    have HX := hHd (sX_key hn hv hk)
    have HDR : Hid ((47 :: t).drop (1 + wl t + 1) = v) := hHd (dr2 (m := 0) hv)
    have NK : ∀ W, RdS W g v → Hid (Calls Tryz.prog 125 #[.pointer (some ⟨g, 0, none⟩)] W (RdP g v (.tuple #[.string (txt []), .int .i64 22]) W)) := fun W k => hHd (name_bad g v hvl hk W k)
    clear hn hk hv h91
    generalize t.take (wl t) = nm at NM
    go_enter Tryz.func117, Tryz.ntmps117
    go_wp2_with fail
    refine SG.out.mono ?_
    rintro r w1 ⟨rfl, hR, hG⟩
    have S1 := hHd (S0.out.go hR hG)
    clear hR hG SG
    go_wp2_with fail
    refine (NM _ S1.out.2.1).out.mono ?_
    rintro r w2 ⟨rfl, hR, hG⟩
    have S2 := hHd (S1.out.go hR hG)
    clear hR hG NM
    go_wp2_with fail
    refine (SO _ S2.out.2.1).out.mono ?_
    rintro r w3 ⟨rfl, hR, hG⟩
    have S3 := hHd (S2.out.go hR hG)
    clear hR hG SO
    go_wp2_with fail
    refine (NK _ S3.out.2.1).out.mono ?_
    rintro r w4 ⟨rfl, hR, hG⟩
    have S4 := hHd (S3.out.go hR hG)
    have z0 : w4.cell? ⟨w.heap.size, 0, none⟩ = _ := (S4.out.2.2.1.cell 0).trans rfl
    have z1 : w4.cell? ⟨w.heap.size, 1, none⟩ = _ := (S4.out.2.2.1.cell 1).trans rfl
    have f0 : w4.frozen? ⟨w.heap.size, 0, none⟩ = false := S4.out.2.2.1.frozen 0
    have f1 : w4.frozen? ⟨w.heap.size, 1, none⟩ = false := S4.out.2.2.1.frozen 1
    have HEN := hHd (S4.out.end_ (.string (txt nm)) (.string (txt [])))
    clear hR hG NK
    go_wp2
    refine bodyPost_ret (res_cell_tmp rfl _ _ w.heap.size 52 _ (0, 0) _ rfl HEN.out.1 Tryz.underlying52 rfl (by kernel_rfl)) rfl ?_
    exact HNO.out _ _ nm [] _ _ HX.out ⟨rfl, by rw [HDR.out]; exact HEN.out.2.1, HEN.out.2.2⟩
   | true =>
    have NK : ∀ W, RdS W g v → Hid (Calls Tryz.prog 125 #[.pointer (some ⟨g, 0, none⟩)] W (RdP g (v.drop (wl v)) (.tuple #[.string (txt (v.take (wl v))), .int .i64 0]) W)) := fun W k => hHd (name_ok g v hvl hk W k)
    by_cases h93 : (v.drop (wl v)).head? = some 93
    ·obtain ⟨y, hy⟩ : ∃ y, v.drop (wl v) = 93 :: y := by
      cases hu : v.drop (wl v) with
      | nil => rw [hu] at h93; cases h93
      | cons c y => rw [hu] at h93; injection h93 with h93; subst h93; exact ⟨y, rfl⟩
     have SE : ∀ W, RdS W g (v.drop (wl v)) → Hid (Calls Tryz.prog 124 #[.pointer (some ⟨g, 0, none⟩), .string ⟨#[93]⟩] W (RdP g y (.bool true) W)) := fun W k => hHd (by
      have k := sign_any g (v.drop (wl v)) 93 W k
      rw [decide_eq_true h93, hy] at k
      exact k)
     have HX := hHd (sX_whole hn hv hk hy)
     have HDR : Hid ((47 :: t).drop (1 + wl t + 1 + wl v + 1) = y) := hHd (by
      rw [show 1 + wl t + 1 + wl v + 1 = 1 + wl t + 1 + (wl v + 1) by omega, dr2 hv, ← List.drop_drop, hy]; rfl)
     clear hn hk hv h91 hy h93
     generalize t.take (wl t) = nm at NM HX
     generalize v.take (wl v) = ky at NK HX
     go_enter Tryz.func117, Tryz.ntmps117
     go_wp2_with fail
     refine SG.out.mono ?_
     rintro r w1 ⟨rfl, hR, hG⟩
     have S1 := hHd (S0.out.go hR hG)
     clear hR hG SG
     go_wp2_with fail
     refine (NM _ S1.out.2.1).out.mono ?_
     rintro r w2 ⟨rfl, hR, hG⟩
     have S2 := hHd (S1.out.go hR hG)
     clear hR hG NM
     go_wp2_with fail
     refine (SO _ S2.out.2.1).out.mono ?_
     rintro r w3 ⟨rfl, hR, hG⟩
     have S3 := hHd (S2.out.go hR hG)
     clear hR hG SO
     go_wp2_with fail
     refine (NK _ S3.out.2.1).out.mono ?_
     rintro r w4 ⟨rfl, hR, hG⟩
     have S4 := hHd (S3.out.go hR hG)
     clear hR hG NK
     go_wp2_with fail
     refine (SE _ S4.out.2.1).out.mono ?_
     rintro r w5 ⟨rfl, hR, hG⟩
     have S5 := hHd (S4.out.go hR hG)
     have z0 : w5.cell? ⟨w.heap.size, 0, none⟩ = _ := (S5.out.2.2.1.cell 0).trans rfl
     have z1 : w5.cell? ⟨w.heap.size, 1, none⟩ = _ := (S5.out.2.2.1.cell 1).trans rfl
     have f0 : w5.frozen? ⟨w.heap.size, 0, none⟩ = false := S5.out.2.2.1.frozen 0
     have f1 : w5.frozen? ⟨w.heap.size, 1, none⟩ = false := S5.out.2.2.1.frozen 1
     have HEN := hHd (S5.out.end_ (.string (txt nm)) (.string (txt ky)))
     clear hR hG SE
     go_wp2
     refine bodyPost_ret (res_cell_tmp rfl _ _ w.heap.size 52 _ (0, 0) _ rfl HEN.out.1 Tryz.underlying52 rfl (by kernel_rfl)) rfl ?_
     exact HYE.out _ _ _ _ HX.out ⟨rfl, by rw [HDR.out]; exact HEN.out.2.1, HEN.out.2.2⟩
    ·have SE : ∀ W, RdS W g (v.drop (wl v)) → Hid (Calls Tryz.prog 124 #[.pointer (some ⟨g, 0, none⟩), .string ⟨#[93]⟩] W (RdP g (v.drop (wl v)) (.bool false) W)) := fun W k => hHd (by
      have k := sign_any g (v.drop (wl v)) 93 W k
      rw [decide_eq_false h93, show cutS 93 (v.drop (wl v)) = v.drop (wl v) from if_neg h93] at k
      exact k)
     have HX := hHd (sX_open hn hv hk h93)
     have HDR : Hid ((47 :: t).drop (1 + wl t + 1 + wl v) = v.drop (wl v)) := hHd (dr2 hv)
     clear hn hk hv h91 h93
     generalize t.take (wl t) = nm at NM
     generalize v.take (wl v) = ky at NK
     go_enter Tryz.func117, Tryz.ntmps117
     go_wp2_with fail
     refine SG.out.mono ?_
     rintro r w1 ⟨rfl, hR, hG⟩
     have S1 := hHd (S0.out.go hR hG)
     clear hR hG SG
     go_wp2_with fail
     refine (NM _ S1.out.2.1).out.mono ?_
     rintro r w2 ⟨rfl, hR, hG⟩
     have S2 := hHd (S1.out.go hR hG)
     clear hR hG NM
     go_wp2_with fail
     refine (SO _ S2.out.2.1).out.mono ?_
     rintro r w3 ⟨rfl, hR, hG⟩
     have S3 := hHd (S2.out.go hR hG)
     clear hR hG SO
     go_wp2_with fail
     refine (NK _ S3.out.2.1).out.mono ?_
     rintro r w4 ⟨rfl, hR, hG⟩
     have S4 := hHd (S3.out.go hR hG)
     clear hR hG NK
     go_wp2_with fail
     refine (SE _ S4.out.2.1).out.mono ?_
     rintro r w5 ⟨rfl, hR, hG⟩
     have S5 := hHd (S4.out.go hR hG)
     have z0 : w5.cell? ⟨w.heap.size, 0, none⟩ = _ := (S5.out.2.2.1.cell 0).trans rfl
     have z1 : w5.cell? ⟨w.heap.size, 1, none⟩ = _ := (S5.out.2.2.1.cell 1).trans rfl
     have f0 : w5.frozen? ⟨w.heap.size, 0, none⟩ = false := S5.out.2.2.1.frozen 0
     have f1 : w5.frozen? ⟨w.heap.size, 1, none⟩ = false := S5.out.2.2.1.frozen 1
     have HEN := hHd (S5.out.end_ (.string (txt nm)) (.string (txt ky)))
     clear hR hG SE
     go_wp2
     refine bodyPost_ret (res_cell_tmp rfl _ _ w.heap.size 52 _ (0, 0) _ rfl HEN.out.1 Tryz.underlying52 rfl (by kernel_rfl)) rfl ?_
     exact HNO.out _ _ nm ky _ _ HX.out ⟨rfl, by rw [HDR.out]; exact HEN.out.2.1, HEN.out.2.2⟩
  ·have SO : ∀ W, RdS W g (t.drop (wl t)) → Hid (Calls Tryz.prog 124 #[.pointer (some ⟨g, 0, none⟩), .string ⟨#[91]⟩] W (RdP g (t.drop (wl t)) (.bool false) W)) := fun W k => hHd (by
    have k := sign_any g (t.drop (wl t)) 91 W k
    rw [decide_eq_false h91, show cutS 91 (t.drop (wl t)) = t.drop (wl t) from if_neg h91] at k
    exact k)
   have HX := hHd (sX_plain hn h91)
   have HDR : Hid ((47 :: t).drop (1 + wl t) = t.drop (wl t)) := hHd dr1
   clear hn h91
   generalize t.take (wl t) = nm at NM HX
   go_enter Tryz.func117, Tryz.ntmps117
   go_wp2_with fail
   refine SG.out.mono ?_
   rintro r w1 ⟨rfl, hR, hG⟩
   have S1 := hHd (S0.out.go hR hG)
   clear hR hG SG
   go_wp2_with fail
   refine (NM _ S1.out.2.1).out.mono ?_
   rintro r w2 ⟨rfl, hR, hG⟩
   have S2 := hHd (S1.out.go hR hG)
   clear hR hG NM
   go_wp2_with fail
   refine (SO _ S2.out.2.1).out.mono ?_
   rintro r w3 ⟨rfl, hR, hG⟩
   have S3 := hHd (S2.out.go hR hG)
   have z0 : w3.cell? ⟨w.heap.size, 0, none⟩ = _ := (S3.out.2.2.1.cell 0).trans rfl
   have z1 : w3.cell? ⟨w.heap.size, 1, none⟩ = _ := (S3.out.2.2.1.cell 1).trans rfl
   have f0 : w3.frozen? ⟨w.heap.size, 0, none⟩ = false := S3.out.2.2.1.frozen 0
   have f1 : w3.frozen? ⟨w.heap.size, 1, none⟩ = false := S3.out.2.2.1.frozen 1
   have HEN := hHd (S3.out.end_ (.string (txt nm)) (.string ⟨#[]⟩))
   clear hR hG SO
   go_wp2
   refine bodyPost_ret (res_cell_tmp rfl _ _ w.heap.size 52 _ (0, 0) _ rfl HEN.out.1 Tryz.underlying52 rfl (by kernel_rfl)) rfl ?_
   exact HYE.out _ _ _ _ HX.out ⟨rfl, by rw [HDR.out]; exact HEN.out.2.1, HEN.out.2.2⟩
theorem step_any (g : Nat) (s : List UInt8) (d : Nat) (hs : s.length ≤ 9223372036854775807) (w : World) (h : RdS w g s) : Calls Tryz.prog 117 #[.pointer (some ⟨g, 0, none⟩), .int .i64 (d : Int)] w (StpP g s d w) := by
 by_cases h47 : s.head? = some 47
 ·by_cases hd : d = 6
  ·exact step_6 g s d hd h47 w h
  ·obtain ⟨t, rfl⟩ := hd47 h47
   exact step_go g t d hd (by rw [List.length_cons] at hs; omega) w h
 ·exact step_no g s d h47 w h
end Go.Proofs.YtleidkpdpabkpaaGreatDoor
