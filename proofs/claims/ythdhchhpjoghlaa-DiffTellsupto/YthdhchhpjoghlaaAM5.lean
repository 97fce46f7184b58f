/- DifRefA -/
import Derived.Test.YthdhchhpjoghlaaAM0
import Derived.Test.YthdhchhpjoghlaaAM2
import Derived.Test.YthdhchhpjoghlaaAM3
import Derived.Test.YthdhchhpjoghlaaAM4
set_option linter.unusedSimpArgs false
set_option linter.unusedVariables false
namespace Go.Proofs.Ythdhchhpjoghlaa
open Go.RowKit
attribute [local go_sem] Oper.semAt_some
abbrev Bel (w : World) : Nat → Prop := fun g => g < w.heap.size
theorem EdsV.below {w w' : World} {v : Value} {l : List EdD} (h : EdsV (Bel w) w v l) (hb : Below w.heap.size w w') : EdsV (Bel w') w' v l := h.keep (fun g hg => hb.block g hg) (fun g hg => Nat.lt_of_lt_of_le hg hb.size)
def FewE (l : List EdD) : Prop := l.length ≤ 1000000 ∧ ∀ e ∈ l, e.way.length ≤ 1000000 ∧ Few9 e.node ∧ Few9 e.old
theorem take_snocE {l : List EdD} {j : Nat} {e : EdD} (h : l[j]? = some e) : l.take (j + 1) = l.take j ++ [e] := by
 have hj : j < l.length := (List.getElem?_eq_some_iff.1 h).1
 rw [List.take_succ_eq_append_getElem hj]
 rw [List.getElem?_eq_getElem hj] at h
 injection h with h
 rw [h]
set_option maxRecDepth 100000 in
set_option maxHeartbeats 4000000 in
theorem runder16_any (l : List EdD) (m : List Stp) (v u : Value) (w : World) (hv : EdsV (Bel w) w v l) (hu : WayV w.heap.size w u m) (hl : FewE l) (hm : m.length ≤ 1000000) :
  Calls Try.prog 16 #[v, u] w (Ans9 (.int .i64 (undE l m : Int)) w) := by
 obtain ⟨A, c, rfl⟩ := hv.shape
 obtain ⟨B, d, rfl⟩ := hu.shape
 have HV := Lib.hid hv
 have HU := Lib.hid hu
 have HL := Lib.hid hl
 have l0 : l.length ≤ 1000000 := hl.1
 clear hv hu hl
 go_enter Try.func16, Try.ntmps16
 go_wp2
 go_loopw [5, 6] (fun n i wr => ∃ j k : Nat, j ≤ l.length ∧ i = .int .i64 (j : Int) ∧ n = .int .i64 (k : Int) ∧ k ≤ j ∧ Hid (k = undE (l.take j) m) ∧ Hid (Below w.heap.size w wr)) (fun _ i _ => l.length - (intOf i).toNat)
 case atStart => exact ⟨0, 0, Nat.zero_le _, rfl, rfl, Nat.le_refl _, Lib.hid rfl, Lib.hid (Below.refl _ _)⟩
 case round =>
  obtain ⟨j, k, hj, rfl, rfl, hkj, HK, HB⟩ := hrel
  have i1 : (0 : Int) ≤ (j : Int) := by omega
  by_cases hlt : j < l.length
  ·have i2 : (j : Int) < (l.length : Int) := by omega
   obtain ⟨e, he⟩ : ∃ e, l[j]? = some e := ⟨_, List.getElem?_eq_getElem hlt⟩
   obtain ⟨g, o, Aw, cw, An, cn, Ao, co, rfl, -, -, -, hw, -, -, hcl⟩ := (HV.out.below HB.out).at he
   have q1 : wr.cell? ⟨g, o + j * 14 + 1, none⟩ = some (.slice Aw e.way.length cw) := hcl 1 _ rfl
   have HC := Lib.hid (runder15_any e.way m _ _ wr hw (HU.out.below HB.out) (HL.out.2 e (List.mem_of_getElem? he)).1 hm)
   have hst : undE (l.take (j + 1)) m = undE (l.take j) m + (if underX e.way m = true then 1 else 0) := by
    rw [take_snocE he, und_app, und_cons]
    unfold underX
    by_cases hh : e.way.take m.length = m
    ·rw [if_pos hh, if_pos (by simpa using hh)]; rfl
    ·rw [if_neg hh, if_neg (by simpa using hh)]; rfl
   have n0 : j < l.length := hlt
   cases hx : underX e.way m with
   | true =>
    have HK2 : Hid (k + 1 = undE (l.take (j + 1)) m) := Lib.hid (by rw [hst, hx, ← HK.out]; rfl)
    have HX := Lib.hid hx
    clear hcl he hw hst hx
    go_wp2_with fail
    refine HC.out.mono ?_
    rintro r w2 ⟨rfl, hb⟩
    rw [HX.out]
    have HB2 := Lib.hid (HB.out.trans (hb.mono HB.out.size))
    clear hb
    go_wp2
    go_roundw
    case rel => exact ⟨j + 1, k + 1, by omega, by go_num, by go_num, by omega, HK2, HB2⟩
    case measure => simp [intOf]; omega
   | false =>
    have HK2 : Hid (k = undE (l.take (j + 1)) m) := Lib.hid (by rw [hst, hx, ← HK.out]; rfl)
    have HX := Lib.hid hx
    clear hcl he hw hst hx
    go_wp2_with fail
    refine HC.out.mono ?_
    rintro r w2 ⟨rfl, hb⟩
    rw [HX.out]
    have HB2 := Lib.hid (HB.out.trans (hb.mono HB.out.size))
    clear hb
    go_wp2
    go_roundw
    case rel => exact ⟨j + 1, k, by omega, by go_num, rfl, by omega, HK2, HB2⟩
    case measure => simp [intOf]; omega
  ·obtain rfl : j = l.length := by omega
   have i2 : ¬ (l.length : Int) < (l.length : Int) := by omega
   have HF : Hid (undE l m = k) := Lib.hid (by rw [HK.out, List.take_length])
   clear HK hlt
   go_wp2
   go_ret
   exact ⟨by rw [HF.out]; rfl, HB.out⟩
theorem inv_step {l : List EdD} {j : Nat} {e : EdD} (h : l[j]? = some e) : invX (l.drop j) = invX (l.drop (j + 1)) ++ (inv1 e).toList := by
 have hj : j < l.length := (List.getElem?_eq_some_iff.1 h).1
 have hd : l.drop j = e :: l.drop (j + 1) := by
  rw [List.drop_eq_getElem_cons hj]
  rw [List.getElem?_eq_getElem hj] at h
  injection h with h
  rw [h]
 rw [hd]
 unfold invX
 rw [List.reverse_cons, List.filterMap_append]
 have h2 : List.filterMap inv1 [e] = (inv1 e).toList := by cases hi : inv1 e <;> simp [hi]
 rw [h2]
theorem inv_len : ∀ l : List EdD, (invX l).length ≤ l.length := by
 intro l
 unfold invX
 exact Nat.le_trans (List.length_filterMap_le _ _) (by simp)
def InvP (l : List EdD) (w : World) (r : Ending) (w' : World) : Prop := ∃ v, r = .returned v ∧ EdsV (Bel w') w' v l ∧ Below w.heap.size w w'
theorem OwnE.bel {base : Nat} {S : Nat → Prop} {w : World} {v : Value} {l : List EdD} (h : OwnE base S w v l) : EdsV (Bel w) w v l := h.eds.keep (fun _ _ => rfl) (fun g hg => hg.elim (fun h' => (h.1 g h').1) (fun h' => (h.lt g h').2))
set_option maxRecDepth 100000 in
set_option maxHeartbeats 4000000 in
theorem rinv16_any (l : List EdD) (v : Value) (w : World) (hv : EdsV (Bel w) w v l) (hl : l.length ≤ 1000000) :
  Calls Try.prog 14 #[v] w (InvP (invX l) w) := by
 obtain ⟨A, c, rfl⟩ := hv.shape
 have HV := Lib.hid hv
 clear hv
 go_enter Try.func14, Try.ntmps14
 go_wp2
 go_loopw [3, 4, 5, 18, 19, 29, 39] (fun out i _ _ _ _ _ wr => ∃ j : Nat, j ≤ l.length ∧ i = .int .i64 ((j : Int) - 1) ∧ Hid (OwnE w.heap.size (Bel w) wr out (invX (l.drop j))) ∧ Hid (Below w.heap.size w wr)) (fun _ i _ _ _ _ _ _ => (intOf i + 1).toNat)
 case atStart => exact ⟨l.length, Nat.le_refl _, rfl, Lib.hid (by rw [List.drop_length]; exact OwnE.nil _ _ (fun g h => h)), Lib.hid (Below.refl _ _)⟩
 case round =>
  obtain ⟨j, hj, rfl, HO, HB⟩ := hrel
  obtain ⟨Aq, cq, rfl⟩ := HO.out.shape
  by_cases h0 : 0 < j
  ·obtain ⟨i, rfl⟩ : ∃ i, j = i + 1 := ⟨j - 1, by omega⟩
   rw [show (((i + 1 : Nat) : Int) - 1) = (i : Int) by omega]
   have i1 : (0 : Int) ≤ (i : Int) := by omega
   have i2 : (i : Int) < (l.length : Int) := by omega
   have n0 : i < l.length := by omega
   obtain ⟨e, he⟩ : ∃ e, l[i]? = some e := ⟨_, List.getElem?_eq_getElem n0⟩
   have hst := inv_step he
   obtain ⟨g, o, Aw, cw, An, cn, Ao, co, rfl, -, -, hgS, hw, hn, ho, hcl⟩ := HV.out.at he
   have hlen : (invX (l.drop (i + 1))).length ≤ 100000000 := Nat.le_trans (inv_len _) (by rw [List.length_drop]; omega)
   have hal : Below wr.heap.size wr (wr.alloc (.cells (edC e.kind (.slice Aw e.way.length cw) e.node.1 (.slice An e.node.2.len cn) e.old.1 (.slice Ao e.old.2.len co)).toArray 42)) := (Below.refl _ _).alloc (Nat.le_refl _) _
   have HOX : Hid (OwnE w.heap.size (Bel w) (wr.alloc (.cells (edC e.kind (.slice Aw e.way.length cw) e.node.1 (.slice An e.node.2.len cn) e.old.1 (.slice Ao e.old.2.len co)).toArray 42)) (.slice Aq (invX (l.drop (i + 1))).length cq) (invX (l.drop (i + 1)))) := Lib.hid (HO.out.below hal)
   have HBX : Hid (Below w.heap.size w (wr.alloc (.cells (edC e.kind (.slice Aw e.way.length cw) e.node.1 (.slice An e.node.2.len cn) e.old.1 (.slice Ao e.old.2.len co)).toArray 42))) := Lib.hid (HB.out.trans (hal.mono HB.out.size))
   have hkp : ∀ W, Below w.heap.size w W → ∀ k, Bel w k → W.heap[k]? = w.heap[k]? := fun W h k hk => h.block k hk
   have HW := Lib.hid hw
   have HN := Lib.hid hn
   have HOL := Lib.hid ho
   have HKP := Lib.hid hkp
   have q0 : wr.cell? ⟨g, o + i * 14, none⟩ = _ := (HB.out.cell (p := ⟨g, o + i * 14, none⟩) hgS).trans (hcl 0 _ rfl)
   have q1 := (HB.out.cell (p := ⟨g, o + i * 14 + 1, none⟩) hgS).trans (hcl 1 _ rfl)
   have q2 := (HB.out.cell (p := ⟨g, o + i * 14 + 2, none⟩) hgS).trans (hcl 2 _ rfl)
   have q3 := (HB.out.cell (p := ⟨g, o + i * 14 + 3, none⟩) hgS).trans (hcl 3 _ rfl)
   have q4 := (HB.out.cell (p := ⟨g, o + i * 14 + 4, none⟩) hgS).trans (hcl 4 _ rfl)
   have q5 := (HB.out.cell (p := ⟨g, o + i * 14 + 5, none⟩) hgS).trans (hcl 5 _ rfl)
   have q6 := (HB.out.cell (p := ⟨g, o + i * 14 + 6, none⟩) hgS).trans (hcl 6 _ rfl)
   have q7 := (HB.out.cell (p := ⟨g, o + i * 14 + 7, none⟩) hgS).trans (hcl 7 _ rfl)
   have q8 := (HB.out.cell (p := ⟨g, o + i * 14 + 8, none⟩) hgS).trans (hcl 8 _ rfl)
   have q9 := (HB.out.cell (p := ⟨g, o + i * 14 + 9, none⟩) hgS).trans (hcl 9 _ rfl)
   have q10 := (HB.out.cell (p := ⟨g, o + i * 14 + 10, none⟩) hgS).trans (hcl 10 _ rfl)
   have q11 := (HB.out.cell (p := ⟨g, o + i * 14 + 11, none⟩) hgS).trans (hcl 11 _ rfl)
   have q12 := (HB.out.cell (p := ⟨g, o + i * 14 + 12, none⟩) hgS).trans (hcl 12 _ rfl)
   have q13 := (HB.out.cell (p := ⟨g, o + i * 14 + 13, none⟩) hgS).trans (hcl 13 _ rfl)
   have hbx : Blk (wr.alloc (.cells (edC e.kind (.slice Aw e.way.length cw) e.node.1 (.slice An e.node.2.len cn) e.old.1 (.slice Ao e.old.2.len co)).toArray 42)) wr.heap.size 42 (edC e.kind (.slice Aw e.way.length cw) e.node.1 (.slice An e.node.2.len cn) e.old.1 (.slice Ao e.old.2.len co)).toArray := Blk.new wr 42 _
   have b0 := (hbx.cell 0).trans rfl
   have b1 := (hbx.cell 1).trans rfl
   have b2 := (hbx.cell 2).trans rfl
   have b3 := (hbx.cell 3).trans rfl
   have b4 := (hbx.cell 4).trans rfl
   have b5 := (hbx.cell 5).trans rfl
   have b6 := (hbx.cell 6).trans rfl
   have b7 := (hbx.cell 7).trans rfl
   have b8 := (hbx.cell 8).trans rfl
   have b9 := (hbx.cell 9).trans rfl
   have b10 := (hbx.cell 10).trans rfl
   have b11 := (hbx.cell 11).trans rfl
   have b12 := (hbx.cell 12).trans rfl
   have b13 := (hbx.cell 13).trans rfl
   have HST := Lib.hid hst
   have HLN := Lib.hid hlen
   have HSB : Hid (w.heap.size ≤ wr.heap.size) := Lib.hid HB.out.size
   clear hcl hgS hw hn ho hbx hal hst he hkp hlen HO
   by_cases c1 : e.kind = 1
   ·have k1 : (e.kind == 1) = true := beq_iff_eq.2 c1
    have HINV : Hid ((inv1 e).toList = [⟨2, e.way, noN, e.node⟩]) := Lib.hid (by unfold inv1; rw [if_pos c1]; rfl)
    clear c1
    have HBY : Hid (Below w.heap.size w ((wr.alloc (.cells (edC e.kind (.slice Aw e.way.length cw) e.node.1 (.slice An e.node.2.len cn) e.old.1 (.slice Ao e.old.2.len co)).toArray 42)).alloc (.cells ([.int .i64 2, .slice Aw e.way.length cw, .string ⟨#[]⟩, .string ⟨#[]⟩, .int .i64 0, .int .u64 0, .string ⟨#[]⟩, .slice none 0 0, .string (txt e.node.1.name), .string (txt e.node.1.key), .int .i64 e.node.1.kind, .int .u64 (e.node.1.num : Int), .string (txt e.node.1.text), .slice An e.node.2.len cn]).toArray 42))) := Lib.hid (HBX.out.alloc HBX.out.size _)
    have HOY : Hid (OwnE w.heap.size (Bel w) ((wr.alloc (.cells (edC e.kind (.slice Aw e.way.length cw) e.node.1 (.slice An e.node.2.len cn) e.old.1 (.slice Ao e.old.2.len co)).toArray 42)).alloc (.cells ([.int .i64 2, .slice Aw e.way.length cw, .string ⟨#[]⟩, .string ⟨#[]⟩, .int .i64 0, .int .u64 0, .string ⟨#[]⟩, .slice none 0 0, .string (txt e.node.1.name), .string (txt e.node.1.key), .int .i64 e.node.1.kind, .int .u64 (e.node.1.num : Int), .string (txt e.node.1.text), .slice An e.node.2.len cn]).toArray 42)) (.slice Aq (invX (l.drop (i + 1))).length cq) (invX (l.drop (i + 1)))) := Lib.hid (HOX.out.below ((Below.refl _ _).alloc (Nat.le_refl _) _))
    have HKY : Hid (Blk ((wr.alloc (.cells (edC e.kind (.slice Aw e.way.length cw) e.node.1 (.slice An e.node.2.len cn) e.old.1 (.slice Ao e.old.2.len co)).toArray 42)).alloc (.cells ([.int .i64 2, .slice Aw e.way.length cw, .string ⟨#[]⟩, .string ⟨#[]⟩, .int .i64 0, .int .u64 0, .string ⟨#[]⟩, .slice none 0 0, .string (txt e.node.1.name), .string (txt e.node.1.key), .int .i64 e.node.1.kind, .int .u64 (e.node.1.num : Int), .string (txt e.node.1.text), .slice An e.node.2.len cn]).toArray 42)) (wr.heap.size + 1) 42 ([.int .i64 2, .slice Aw e.way.length cw, .string ⟨#[]⟩, .string ⟨#[]⟩, .int .i64 0, .int .u64 0, .string ⟨#[]⟩, .slice none 0 0, .string (txt e.node.1.name), .string (txt e.node.1.key), .int .i64 e.node.1.kind, .int .u64 (e.node.1.num : Int), .string (txt e.node.1.text), .slice An e.node.2.len cn]).toArray) := Lib.hid (by have h := Blk.new (wr.alloc (.cells (edC e.kind (.slice Aw e.way.length cw) e.node.1 (.slice An e.node.2.len cn) e.old.1 (.slice Ao e.old.2.len co)).toArray 42)) 42 ([.int .i64 2, .slice Aw e.way.length cw, .string ⟨#[]⟩, .string ⟨#[]⟩, .int .i64 0, .int .u64 0, .string ⟨#[]⟩, .slice none 0 0, .string (txt e.node.1.name), .string (txt e.node.1.key), .int .i64 e.node.1.kind, .int .u64 (e.node.1.num : Int), .string (txt e.node.1.text), .slice An e.node.2.len cn]).toArray; rwa [show (wr.alloc (.cells (edC e.kind (.slice Aw e.way.length cw) e.node.1 (.slice An e.node.2.len cn) e.old.1 (.slice Ao e.old.2.len co)).toArray 42)).heap.size = wr.heap.size + 1 by simp] at h)
    have HEY : Hid (EdS (Bel w) ((wr.alloc (.cells (edC e.kind (.slice Aw e.way.length cw) e.node.1 (.slice An e.node.2.len cn) e.old.1 (.slice Ao e.old.2.len co)).toArray 42)).alloc (.cells ([.int .i64 2, .slice Aw e.way.length cw, .string ⟨#[]⟩, .string ⟨#[]⟩, .int .i64 0, .int .u64 0, .string ⟨#[]⟩, .slice none 0 0, .string (txt e.node.1.name), .string (txt e.node.1.key), .int .i64 e.node.1.kind, .int .u64 (e.node.1.num : Int), .string (txt e.node.1.text), .slice An e.node.2.len cn]).toArray 42)) ([.int .i64 2, .slice Aw e.way.length cw, .string ⟨#[]⟩, .string ⟨#[]⟩, .int .i64 0, .int .u64 0, .string ⟨#[]⟩, .slice none 0 0, .string (txt e.node.1.name), .string (txt e.node.1.key), .int .i64 e.node.1.kind, .int .u64 (e.node.1.num : Int), .string (txt e.node.1.text), .slice An e.node.2.len cn]) (⟨2, e.way, noN, e.node⟩)) := Lib.hid ⟨_, _, _, rfl, HW.out.keep (HKP.out _ HBY.out) (fun _ h => h), FrV.empty _ _ _, RowS.keep HN.out (HKP.out _ HBY.out) (fun _ h => h)⟩
    have HSY : Hid (w.heap.size ≤ ((wr.alloc (.cells (edC e.kind (.slice Aw e.way.length cw) e.node.1 (.slice An e.node.2.len cn) e.old.1 (.slice Ao e.old.2.len co)).toArray 42)).alloc (.cells ([.int .i64 2, .slice Aw e.way.length cw, .string ⟨#[]⟩, .string ⟨#[]⟩, .int .i64 0, .int .u64 0, .string ⟨#[]⟩, .slice none 0 0, .string (txt e.node.1.name), .string (txt e.node.1.key), .int .i64 e.node.1.kind, .int .u64 (e.node.1.num : Int), .string (txt e.node.1.text), .slice An e.node.2.len cn]).toArray 42)).heap.size) := Lib.hid HBY.out.size
    go_wp2_with (at_builtin; refine wpList_append_e (by rfl) (.tmp 21) (.tmp 27) (by rfl) (by rfl) (by rfl) HOY.out (g := wr.heap.size + 1) (by rfl) HKY.out HEY.out HLN.out HSY.out ?_; intro v' w' hap)
    obtain ⟨A9, c9, e9⟩ := hap.2.2
    have HO9 := Lib.hid hap.1
    have HB9 : Hid (Below w.heap.size w w') := Lib.hid (HBY.out.trans (hap.below HOY.out HSY.out))
    clear hap
    subst e9
    go_wp2
    go_roundw
    case rel => exact ⟨i, by omega, rfl, Lib.hid (by rw [HST.out, HINV.out]; exact HO9.out), HB9⟩
    case measure => simp [intOf]
   have k1 : (e.kind == 1) = false := beq_eq_false_iff_ne.2 c1
   by_cases c2 : e.kind = 2
   ·have k2 : (e.kind == 2) = true := beq_iff_eq.2 c2
    have HINV : Hid ((inv1 e).toList = [⟨1, e.way, e.old, noN⟩]) := Lib.hid (by unfold inv1; rw [if_neg c1, if_pos c2]; rfl)
    clear c1 c2
    have HBY : Hid (Below w.heap.size w ((wr.alloc (.cells (edC e.kind (.slice Aw e.way.length cw) e.node.1 (.slice An e.node.2.len cn) e.old.1 (.slice Ao e.old.2.len co)).toArray 42)).alloc (.cells ([.int .i64 1, .slice Aw e.way.length cw, .string (txt e.old.1.name), .string (txt e.old.1.key), .int .i64 e.old.1.kind, .int .u64 (e.old.1.num : Int), .string (txt e.old.1.text), .slice Ao e.old.2.len co, .string ⟨#[]⟩, .string ⟨#[]⟩, .int .i64 0, .int .u64 0, .string ⟨#[]⟩, .slice none 0 0]).toArray 42))) := Lib.hid (HBX.out.alloc HBX.out.size _)
    have HOY : Hid (OwnE w.heap.size (Bel w) ((wr.alloc (.cells (edC e.kind (.slice Aw e.way.length cw) e.node.1 (.slice An e.node.2.len cn) e.old.1 (.slice Ao e.old.2.len co)).toArray 42)).alloc (.cells ([.int .i64 1, .slice Aw e.way.length cw, .string (txt e.old.1.name), .string (txt e.old.1.key), .int .i64 e.old.1.kind, .int .u64 (e.old.1.num : Int), .string (txt e.old.1.text), .slice Ao e.old.2.len co, .string ⟨#[]⟩, .string ⟨#[]⟩, .int .i64 0, .int .u64 0, .string ⟨#[]⟩, .slice none 0 0]).toArray 42)) (.slice Aq (invX (l.drop (i + 1))).length cq) (invX (l.drop (i + 1)))) := Lib.hid (HOX.out.below ((Below.refl _ _).alloc (Nat.le_refl _) _))
    have HKY : Hid (Blk ((wr.alloc (.cells (edC e.kind (.slice Aw e.way.length cw) e.node.1 (.slice An e.node.2.len cn) e.old.1 (.slice Ao e.old.2.len co)).toArray 42)).alloc (.cells ([.int .i64 1, .slice Aw e.way.length cw, .string (txt e.old.1.name), .string (txt e.old.1.key), .int .i64 e.old.1.kind, .int .u64 (e.old.1.num : Int), .string (txt e.old.1.text), .slice Ao e.old.2.len co, .string ⟨#[]⟩, .string ⟨#[]⟩, .int .i64 0, .int .u64 0, .string ⟨#[]⟩, .slice none 0 0]).toArray 42)) (wr.heap.size + 1) 42 ([.int .i64 1, .slice Aw e.way.length cw, .string (txt e.old.1.name), .string (txt e.old.1.key), .int .i64 e.old.1.kind, .int .u64 (e.old.1.num : Int), .string (txt e.old.1.text), .slice Ao e.old.2.len co, .string ⟨#[]⟩, .string ⟨#[]⟩, .int .i64 0, .int .u64 0, .string ⟨#[]⟩, .slice none 0 0]).toArray) := Lib.hid (by have h := Blk.new (wr.alloc (.cells (edC e.kind (.slice Aw e.way.length cw) e.node.1 (.slice An e.node.2.len cn) e.old.1 (.slice Ao e.old.2.len co)).toArray 42)) 42 ([.int .i64 1, .slice Aw e.way.length cw, .string (txt e.old.1.name), .string (txt e.old.1.key), .int .i64 e.old.1.kind, .int .u64 (e.old.1.num : Int), .string (txt e.old.1.text), .slice Ao e.old.2.len co, .string ⟨#[]⟩, .string ⟨#[]⟩, .int .i64 0, .int .u64 0, .string ⟨#[]⟩, .slice none 0 0]).toArray; rwa [show (wr.alloc (.cells (edC e.kind (.slice Aw e.way.length cw) e.node.1 (.slice An e.node.2.len cn) e.old.1 (.slice Ao e.old.2.len co)).toArray 42)).heap.size = wr.heap.size + 1 by simp] at h)
    have HEY : Hid (EdS (Bel w) ((wr.alloc (.cells (edC e.kind (.slice Aw e.way.length cw) e.node.1 (.slice An e.node.2.len cn) e.old.1 (.slice Ao e.old.2.len co)).toArray 42)).alloc (.cells ([.int .i64 1, .slice Aw e.way.length cw, .string (txt e.old.1.name), .string (txt e.old.1.key), .int .i64 e.old.1.kind, .int .u64 (e.old.1.num : Int), .string (txt e.old.1.text), .slice Ao e.old.2.len co, .string ⟨#[]⟩, .string ⟨#[]⟩, .int .i64 0, .int .u64 0, .string ⟨#[]⟩, .slice none 0 0]).toArray 42)) ([.int .i64 1, .slice Aw e.way.length cw, .string (txt e.old.1.name), .string (txt e.old.1.key), .int .i64 e.old.1.kind, .int .u64 (e.old.1.num : Int), .string (txt e.old.1.text), .slice Ao e.old.2.len co, .string ⟨#[]⟩, .string ⟨#[]⟩, .int .i64 0, .int .u64 0, .string ⟨#[]⟩, .slice none 0 0]) (⟨1, e.way, e.old, noN⟩)) := Lib.hid ⟨_, _, _, rfl, HW.out.keep (HKP.out _ HBY.out) (fun _ h => h), RowS.keep HOL.out (HKP.out _ HBY.out) (fun _ h => h), FrV.empty _ _ _⟩
    have HSY : Hid (w.heap.size ≤ ((wr.alloc (.cells (edC e.kind (.slice Aw e.way.length cw) e.node.1 (.slice An e.node.2.len cn) e.old.1 (.slice Ao e.old.2.len co)).toArray 42)).alloc (.cells ([.int .i64 1, .slice Aw e.way.length cw, .string (txt e.old.1.name), .string (txt e.old.1.key), .int .i64 e.old.1.kind, .int .u64 (e.old.1.num : Int), .string (txt e.old.1.text), .slice Ao e.old.2.len co, .string ⟨#[]⟩, .string ⟨#[]⟩, .int .i64 0, .int .u64 0, .string ⟨#[]⟩, .slice none 0 0]).toArray 42)).heap.size) := Lib.hid HBY.out.size
    go_wp2_with (at_builtin; refine wpList_append_e (by rfl) (.tmp 31) (.tmp 37) (by rfl) (by rfl) (by rfl) HOY.out (g := wr.heap.size + 1) (by rfl) HKY.out HEY.out HLN.out HSY.out ?_; intro v' w' hap)
    obtain ⟨A9, c9, e9⟩ := hap.2.2
    have HO9 := Lib.hid hap.1
    have HB9 : Hid (Below w.heap.size w w') := Lib.hid (HBY.out.trans (hap.below HOY.out HSY.out))
    clear hap
    subst e9
    go_wp2
    go_roundw
    case rel => exact ⟨i, by omega, rfl, Lib.hid (by rw [HST.out, HINV.out]; exact HO9.out), HB9⟩
    case measure => simp [intOf]
   have k2 : (e.kind == 2) = false := beq_eq_false_iff_ne.2 c2
   by_cases c3 : e.kind = 3
   ·have k3 : (e.kind == 3) = true := beq_iff_eq.2 c3
    have HINV : Hid ((inv1 e).toList = [⟨3, e.way, e.old, e.node⟩]) := Lib.hid (by unfold inv1; rw [if_neg c1, if_neg c2, if_pos c3]; rfl)
    clear c1 c2 c3
    have HBY : Hid (Below w.heap.size w ((wr.alloc (.cells (edC e.kind (.slice Aw e.way.length cw) e.node.1 (.slice An e.node.2.len cn) e.old.1 (.slice Ao e.old.2.len co)).toArray 42)).alloc (.cells ([.int .i64 3, .slice Aw e.way.length cw, .string (txt e.old.1.name), .string (txt e.old.1.key), .int .i64 e.old.1.kind, .int .u64 (e.old.1.num : Int), .string (txt e.old.1.text), .slice Ao e.old.2.len co, .string (txt e.node.1.name), .string (txt e.node.1.key), .int .i64 e.node.1.kind, .int .u64 (e.node.1.num : Int), .string (txt e.node.1.text), .slice An e.node.2.len cn]).toArray 42))) := Lib.hid (HBX.out.alloc HBX.out.size _)
    have HOY : Hid (OwnE w.heap.size (Bel w) ((wr.alloc (.cells (edC e.kind (.slice Aw e.way.length cw) e.node.1 (.slice An e.node.2.len cn) e.old.1 (.slice Ao e.old.2.len co)).toArray 42)).alloc (.cells ([.int .i64 3, .slice Aw e.way.length cw, .string (txt e.old.1.name), .string (txt e.old.1.key), .int .i64 e.old.1.kind, .int .u64 (e.old.1.num : Int), .string (txt e.old.1.text), .slice Ao e.old.2.len co, .string (txt e.node.1.name), .string (txt e.node.1.key), .int .i64 e.node.1.kind, .int .u64 (e.node.1.num : Int), .string (txt e.node.1.text), .slice An e.node.2.len cn]).toArray 42)) (.slice Aq (invX (l.drop (i + 1))).length cq) (invX (l.drop (i + 1)))) := Lib.hid (HOX.out.below ((Below.refl _ _).alloc (Nat.le_refl _) _))
    have HKY : Hid (Blk ((wr.alloc (.cells (edC e.kind (.slice Aw e.way.length cw) e.node.1 (.slice An e.node.2.len cn) e.old.1 (.slice Ao e.old.2.len co)).toArray 42)).alloc (.cells ([.int .i64 3, .slice Aw e.way.length cw, .string (txt e.old.1.name), .string (txt e.old.1.key), .int .i64 e.old.1.kind, .int .u64 (e.old.1.num : Int), .string (txt e.old.1.text), .slice Ao e.old.2.len co, .string (txt e.node.1.name), .string (txt e.node.1.key), .int .i64 e.node.1.kind, .int .u64 (e.node.1.num : Int), .string (txt e.node.1.text), .slice An e.node.2.len cn]).toArray 42)) (wr.heap.size + 1) 42 ([.int .i64 3, .slice Aw e.way.length cw, .string (txt e.old.1.name), .string (txt e.old.1.key), .int .i64 e.old.1.kind, .int .u64 (e.old.1.num : Int), .string (txt e.old.1.text), .slice Ao e.old.2.len co, .string (txt e.node.1.name), .string (txt e.node.1.key), .int .i64 e.node.1.kind, .int .u64 (e.node.1.num : Int), .string (txt e.node.1.text), .slice An e.node.2.len cn]).toArray) := Lib.hid (by have h := Blk.new (wr.alloc (.cells (edC e.kind (.slice Aw e.way.length cw) e.node.1 (.slice An e.node.2.len cn) e.old.1 (.slice Ao e.old.2.len co)).toArray 42)) 42 ([.int .i64 3, .slice Aw e.way.length cw, .string (txt e.old.1.name), .string (txt e.old.1.key), .int .i64 e.old.1.kind, .int .u64 (e.old.1.num : Int), .string (txt e.old.1.text), .slice Ao e.old.2.len co, .string (txt e.node.1.name), .string (txt e.node.1.key), .int .i64 e.node.1.kind, .int .u64 (e.node.1.num : Int), .string (txt e.node.1.text), .slice An e.node.2.len cn]).toArray; rwa [show (wr.alloc (.cells (edC e.kind (.slice Aw e.way.length cw) e.node.1 (.slice An e.node.2.len cn) e.old.1 (.slice Ao e.old.2.len co)).toArray 42)).heap.size = wr.heap.size + 1 by simp] at h)
    have HEY : Hid (EdS (Bel w) ((wr.alloc (.cells (edC e.kind (.slice Aw e.way.length cw) e.node.1 (.slice An e.node.2.len cn) e.old.1 (.slice Ao e.old.2.len co)).toArray 42)).alloc (.cells ([.int .i64 3, .slice Aw e.way.length cw, .string (txt e.old.1.name), .string (txt e.old.1.key), .int .i64 e.old.1.kind, .int .u64 (e.old.1.num : Int), .string (txt e.old.1.text), .slice Ao e.old.2.len co, .string (txt e.node.1.name), .string (txt e.node.1.key), .int .i64 e.node.1.kind, .int .u64 (e.node.1.num : Int), .string (txt e.node.1.text), .slice An e.node.2.len cn]).toArray 42)) ([.int .i64 3, .slice Aw e.way.length cw, .string (txt e.old.1.name), .string (txt e.old.1.key), .int .i64 e.old.1.kind, .int .u64 (e.old.1.num : Int), .string (txt e.old.1.text), .slice Ao e.old.2.len co, .string (txt e.node.1.name), .string (txt e.node.1.key), .int .i64 e.node.1.kind, .int .u64 (e.node.1.num : Int), .string (txt e.node.1.text), .slice An e.node.2.len cn]) (⟨3, e.way, e.old, e.node⟩)) := Lib.hid ⟨_, _, _, rfl, HW.out.keep (HKP.out _ HBY.out) (fun _ h => h), RowS.keep HOL.out (HKP.out _ HBY.out) (fun _ h => h), RowS.keep HN.out (HKP.out _ HBY.out) (fun _ h => h)⟩
    have HSY : Hid (w.heap.size ≤ ((wr.alloc (.cells (edC e.kind (.slice Aw e.way.length cw) e.node.1 (.slice An e.node.2.len cn) e.old.1 (.slice Ao e.old.2.len co)).toArray 42)).alloc (.cells ([.int .i64 3, .slice Aw e.way.length cw, .string (txt e.old.1.name), .string (txt e.old.1.key), .int .i64 e.old.1.kind, .int .u64 (e.old.1.num : Int), .string (txt e.old.1.text), .slice Ao e.old.2.len co, .string (txt e.node.1.name), .string (txt e.node.1.key), .int .i64 e.node.1.kind, .int .u64 (e.node.1.num : Int), .string (txt e.node.1.text), .slice An e.node.2.len cn]).toArray 42)).heap.size) := Lib.hid HBY.out.size
    go_wp2_with (at_builtin; refine wpList_append_e (by rfl) (.tmp 41) (.tmp 49) (by rfl) (by rfl) (by rfl) HOY.out (g := wr.heap.size + 1) (by rfl) HKY.out HEY.out HLN.out HSY.out ?_; intro v' w' hap)
    obtain ⟨A9, c9, e9⟩ := hap.2.2
    have HO9 := Lib.hid hap.1
    have HB9 : Hid (Below w.heap.size w w') := Lib.hid (HBY.out.trans (hap.below HOY.out HSY.out))
    clear hap
    subst e9
    go_wp2
    go_roundw
    case rel => exact ⟨i, by omega, rfl, Lib.hid (by rw [HST.out, HINV.out]; exact HO9.out), HB9⟩
    case measure => simp [intOf]
   have k3 : (e.kind == 3) = false := beq_eq_false_iff_ne.2 c3
   have HINV : Hid ((inv1 e).toList = []) := Lib.hid (by unfold inv1; rw [if_neg c1, if_neg c2, if_neg c3]; rfl)
   clear c1 c2 c3
   go_wp2
   go_roundw
   case rel => exact ⟨i, by omega, rfl, Lib.hid (by rw [HST.out, HINV.out, List.append_nil]; exact HOX.out), HBX⟩
   case measure => simp [intOf]
  ·obtain rfl : j = 0 := by omega
   have HO0 : Hid (OwnE w.heap.size (Bel w) wr (.slice Aq (invX l).length cq) (invX l)) := HO
   clear HO
   go_wp2
   go_ret
   exact ⟨_, rfl, HO0.out.bel, HB.out⟩
end Go.Proofs.Ythdhchhpjoghlaa
