/- DifRefA TreBox TreGetR ForestC TreWithR TreSetR PatRefA -/
import Derived.Test.YthmobcaidhgeaaaAM5
set_option linter.unusedSimpArgs false
set_option linter.unusedVariables false
set_option maxRecDepth 100000
set_option maxHeartbeats 8000000
namespace Go.Proofs.Ythmobcaidhgeaaa
open Go.RowKit
section
attribute [local go_sem] Oper.semAt_some
abbrev Bel (w : World) : Nat → Prop := fun g => g < w.heap.size
theorem EdsV.below {w w' : World} {v : Value} {l : List EdD} (h : EdsV (Bel w) w v l) (hb : Below w.heap.size w w') : EdsV (Bel w') w' v l := h.keep (fun g hg => hb.block g hg) (fun g hg => Nat.lt_of_lt_of_le hg hb.size)
theorem inv_step {l : List EdD} {j : Nat} {e : EdD} (h : l[j]? = some e) : invX (l.drop j) = invX (l.drop (j + 1)) ++ (inv1 e).toList := by
 have hj : j < l.length := (List.getElem?_eq_some_iff.1 h).1
 have hd : l.drop j = e :: l.drop (j + 1) := by
  rw [List.drop_eq_getElem_cons hj]
  rw [List.getElem?_eq_getElem hj] at h
  injection h with h
  rw [h]
 rw [hd]
 unfold invX
 rw [List.reverse_cons, List.filterMap_append]
 have h2 : List.filterMap inv1 [e] = (inv1 e).toList := by cases hi : inv1 e <;> simp [hi]
 rw [h2]
theorem inv_len : ∀ l : List EdD, (invX l).length ≤ l.length := by
 intro l
 unfold invX
 exact Nat.le_trans (List.length_filterMap_le _ _) (by simp)
def InvP (l : List EdD) (w : World) (r : Ending) (w' : World) : Prop := ∃ v, r = .returned v ∧ EdsV (Bel w') w' v l ∧ Below w.heap.size w w'
theorem OwnE.bel {base : Nat} {S : Nat → Prop} {w : World} {v : Value} {l : List EdD} (h : OwnE base S w v l) : EdsV (Bel w) w v l := h.eds.keep (fun _ _ => rfl) (fun g hg => hg.elim (fun h' => (h.1 g h').1) (fun h' => (h.lt g h').2))
theorem rinv16_any (l : List EdD) (v : Value) (w : World) (hv : EdsV (Bel w) w v l) (hl : l.length ≤ 1000000) :
  Calls Try.prog 16 #[v] w (InvP (invX l) w) := by
 obtain ⟨A, c, rfl⟩ := hv.shape
 have HV := hHd hv
 clear hv
 go_enter Try.func16, Try.ntmps16
 go_wp2
 go_loopw [3, 4, 5, 18, 19, 29, 39] (fun out i _ _ _ _ _ wr => ∃ j : Nat, j ≤ l.length ∧ i = .int .i64 ((j : Int) - 1) ∧ Hid (OwnE w.heap.size (Bel w) wr out (invX (l.drop j))) ∧ Hid (Below w.heap.size w wr)) (fun _ i _ _ _ _ _ _ => (intOf i + 1).toNat)
 case atStart => exact ⟨l.length, Nat.le_refl _, rfl, hHd (by rw [List.drop_length]; exact OwnE.nil _ _ (fun g h => h)), hHd (Below.refl _ _)⟩
 case round =>
  obtain ⟨j, hj, rfl, HO, HB⟩ := hrel
  obtain ⟨Aq, cq, rfl⟩ := HO.out.shape
  by_cases h0 : 0 < j
  ·obtain ⟨i, rfl⟩ : ∃ i, j = i + 1 := ⟨j - 1, by omega⟩
   rw [show (((i + 1 : Nat) : Int) - 1) = (i : Int) by omega]
   have i1 : (0 : Int) ≤ (i : Int) := by omega
   have i2 : (i : Int) < (l.length : Int) := by omega
   have n0 : i < l.length := by omega
   obtain ⟨e, he⟩ : ∃ e, l[i]? = some e := ⟨_, List.getElem?_eq_getElem n0⟩
   have hst := inv_step he
   obtain ⟨g, o, Aw, cw, An, cn, Ao, co, rfl, -, -, hgS, hw, hn, ho, hcl⟩ := HV.out.at he
   have hlen : (invX (l.drop (i + 1))).length ≤ 100000000 := Nat.le_trans (inv_len _) (by rw [List.length_drop]; omega)
   have hal : Below wr.heap.size wr (wr.alloc (.cells (edC e.kind (.slice Aw e.way.length cw) e.node.1 (.slice An e.node.2.len cn) e.old.1 (.slice Ao e.old.2.len co)).toArray 37)) := bAl
   have HOX : Hid (OwnE w.heap.size (Bel w) (wr.alloc (.cells (edC e.kind (.slice Aw e.way.length cw) e.node.1 (.slice An e.node.2.len cn) e.old.1 (.slice Ao e.old.2.len co)).toArray 37)) (.slice Aq (invX (l.drop (i + 1))).length cq) (invX (l.drop (i + 1)))) := hHd (HO.out.below hal)
   have HBX : Hid (Below w.heap.size w (wr.alloc (.cells (edC e.kind (.slice Aw e.way.length cw) e.node.1 (.slice An e.node.2.len cn) e.old.1 (.slice Ao e.old.2.len co)).toArray 37))) := hHd (HB.out.trans (hal.mono HB.out.size))
   have hkp : ∀ W, Below w.heap.size w W → ∀ k, Bel w k → W.heap[k]? = w.heap[k]? := fun W h k hk => h.block k hk
   have HW := hHd hw
   have HN := hHd hn
   have HOL := hHd ho
   have HKP := hHd hkp
   have q0 : wr.cell? ⟨g, o + i * 14, none⟩ = _ := (HB.out.cell (p := ⟨g, o + i * 14, none⟩) hgS).trans (hcl 0 _ rfl)
   have q1 := (HB.out.cell (p := ⟨g, o + i * 14 + 1, none⟩) hgS).trans (hcl 1 _ rfl)
   have q2 := (HB.out.cell (p := ⟨g, o + i * 14 + 2, none⟩) hgS).trans (hcl 2 _ rfl)
   have q3 := (HB.out.cell (p := ⟨g, o + i * 14 + 3, none⟩) hgS).trans (hcl 3 _ rfl)
   have q4 := (HB.out.cell (p := ⟨g, o + i * 14 + 4, none⟩) hgS).trans (hcl 4 _ rfl)
   have q5 := (HB.out.cell (p := ⟨g, o + i * 14 + 5, none⟩) hgS).trans (hcl 5 _ rfl)
   have q6 := (HB.out.cell (p := ⟨g, o + i * 14 + 6, none⟩) hgS).trans (hcl 6 _ rfl)
   have q7 := (HB.out.cell (p := ⟨g, o + i * 14 + 7, none⟩) hgS).trans (hcl 7 _ rfl)
   have q8 := (HB.out.cell (p := ⟨g, o + i * 14 + 8, none⟩) hgS).trans (hcl 8 _ rfl)
   have q9 := (HB.out.cell (p := ⟨g, o + i * 14 + 9, none⟩) hgS).trans (hcl 9 _ rfl)
   have q10 := (HB.out.cell (p := ⟨g, o + i * 14 + 10, none⟩) hgS).trans (hcl 10 _ rfl)
   have q11 := (HB.out.cell (p := ⟨g, o + i * 14 + 11, none⟩) hgS).trans (hcl 11 _ rfl)
   have q12 := (HB.out.cell (p := ⟨g, o + i * 14 + 12, none⟩) hgS).trans (hcl 12 _ rfl)
   have q13 := (HB.out.cell (p := ⟨g, o + i * 14 + 13, none⟩) hgS).trans (hcl 13 _ rfl)
   have hbx : Blk (wr.alloc (.cells (edC e.kind (.slice Aw e.way.length cw) e.node.1 (.slice An e.node.2.len cn) e.old.1 (.slice Ao e.old.2.len co)).toArray 37)) wr.heap.size 37 (edC e.kind (.slice Aw e.way.length cw) e.node.1 (.slice An e.node.2.len cn) e.old.1 (.slice Ao e.old.2.len co)).toArray := Blk.new wr 37 _
   have b0 := (hbx.cell 0).trans rfl
   have b1 := (hbx.cell 1).trans rfl
   have b2 := (hbx.cell 2).trans rfl
   have b3 := (hbx.cell 3).trans rfl
   have b4 := (hbx.cell 4).trans rfl
   have b5 := (hbx.cell 5).trans rfl
   have b6 := (hbx.cell 6).trans rfl
   have b7 := (hbx.cell 7).trans rfl
   have b8 := (hbx.cell 8).trans rfl
   have b9 := (hbx.cell 9).trans rfl
   have b10 := (hbx.cell 10).trans rfl
   have b11 := (hbx.cell 11).trans rfl
   have b12 := (hbx.cell 12).trans rfl
   have b13 := (hbx.cell 13).trans rfl
   have HST := hHd hst
   have HLN := hHd hlen
   have HSB : Hid (w.heap.size ≤ wr.heap.size) := hHd HB.out.size
   clear hcl hgS hw hn ho hbx hal hst he hkp hlen HO
   by_cases c1 : e.kind = 1
   ·have k1 : (e.kind == 1) = true := beq_iff_eq.2 c1
    have HINV : Hid ((inv1 e).toList = [⟨2, e.way, noN, e.node⟩]) := hHd (by unfold inv1; rw [if_pos c1]; rfl)
    clear c1
    have HBY : Hid (Below w.heap.size w ((wr.alloc (.cells (edC e.kind (.slice Aw e.way.length cw) e.node.1 (.slice An e.node.2.len cn) e.old.1 (.slice Ao e.old.2.len co)).toArray 37)).alloc (.cells ([.int .i64 2, .slice Aw e.way.length cw, .string ⟨#[]⟩, .string ⟨#[]⟩, .int .i64 0, .int .u64 0, .string ⟨#[]⟩, .slice none 0 0, .string (txt e.node.1.name), .string (txt e.node.1.key), .int .i64 e.node.1.kind, .int .u64 (e.node.1.num : Int), .string (txt e.node.1.text), .slice An e.node.2.len cn]).toArray 37))) := hHd (HBX.out.alloc HBX.out.size _)
    have HOY : Hid (OwnE w.heap.size (Bel w) ((wr.alloc (.cells (edC e.kind (.slice Aw e.way.length cw) e.node.1 (.slice An e.node.2.len cn) e.old.1 (.slice Ao e.old.2.len co)).toArray 37)).alloc (.cells ([.int .i64 2, .slice Aw e.way.length cw, .string ⟨#[]⟩, .string ⟨#[]⟩, .int .i64 0, .int .u64 0, .string ⟨#[]⟩, .slice none 0 0, .string (txt e.node.1.name), .string (txt e.node.1.key), .int .i64 e.node.1.kind, .int .u64 (e.node.1.num : Int), .string (txt e.node.1.text), .slice An e.node.2.len cn]).toArray 37)) (.slice Aq (invX (l.drop (i + 1))).length cq) (invX (l.drop (i + 1)))) := hHd (HOX.out.below bAl)
    have HKY : Hid (Blk ((wr.alloc (.cells (edC e.kind (.slice Aw e.way.length cw) e.node.1 (.slice An e.node.2.len cn) e.old.1 (.slice Ao e.old.2.len co)).toArray 37)).alloc (.cells ([.int .i64 2, .slice Aw e.way.length cw, .string ⟨#[]⟩, .string ⟨#[]⟩, .int .i64 0, .int .u64 0, .string ⟨#[]⟩, .slice none 0 0, .string (txt e.node.1.name), .string (txt e.node.1.key), .int .i64 e.node.1.kind, .int .u64 (e.node.1.num : Int), .string (txt e.node.1.text), .slice An e.node.2.len cn]).toArray 37)) (wr.heap.size + 1) 37 ([.int .i64 2, .slice Aw e.way.length cw, .string ⟨#[]⟩, .string ⟨#[]⟩, .int .i64 0, .int .u64 0, .string ⟨#[]⟩, .slice none 0 0, .string (txt e.node.1.name), .string (txt e.node.1.key), .int .i64 e.node.1.kind, .int .u64 (e.node.1.num : Int), .string (txt e.node.1.text), .slice An e.node.2.len cn]).toArray) := hHd (by have h := Blk.new (wr.alloc (.cells (edC e.kind (.slice Aw e.way.length cw) e.node.1 (.slice An e.node.2.len cn) e.old.1 (.slice Ao e.old.2.len co)).toArray 37)) 37 ([.int .i64 2, .slice Aw e.way.length cw, .string ⟨#[]⟩, .string ⟨#[]⟩, .int .i64 0, .int .u64 0, .string ⟨#[]⟩, .slice none 0 0, .string (txt e.node.1.name), .string (txt e.node.1.key), .int .i64 e.node.1.kind, .int .u64 (e.node.1.num : Int), .string (txt e.node.1.text), .slice An e.node.2.len cn]).toArray; rwa [show (wr.alloc (.cells (edC e.kind (.slice Aw e.way.length cw) e.node.1 (.slice An e.node.2.len cn) e.old.1 (.slice Ao e.old.2.len co)).toArray 37)).heap.size = wr.heap.size + 1 by simp] at h)
    have HEY : Hid (EdS (Bel w) ((wr.alloc (.cells (edC e.kind (.slice Aw e.way.length cw) e.node.1 (.slice An e.node.2.len cn) e.old.1 (.slice Ao e.old.2.len co)).toArray 37)).alloc (.cells ([.int .i64 2, .slice Aw e.way.length cw, .string ⟨#[]⟩, .string ⟨#[]⟩, .int .i64 0, .int .u64 0, .string ⟨#[]⟩, .slice none 0 0, .string (txt e.node.1.name), .string (txt e.node.1.key), .int .i64 e.node.1.kind, .int .u64 (e.node.1.num : Int), .string (txt e.node.1.text), .slice An e.node.2.len cn]).toArray 37)) ([.int .i64 2, .slice Aw e.way.length cw, .string ⟨#[]⟩, .string ⟨#[]⟩, .int .i64 0, .int .u64 0, .string ⟨#[]⟩, .slice none 0 0, .string (txt e.node.1.name), .string (txt e.node.1.key), .int .i64 e.node.1.kind, .int .u64 (e.node.1.num : Int), .string (txt e.node.1.text), .slice An e.node.2.len cn]) (⟨2, e.way, noN, e.node⟩)) := hHd ⟨_, _, _, rfl, HW.out.keep (HKP.out _ HBY.out) (fun _ h => h), FrV.empty _ _ _, RowS.keep HN.out (HKP.out _ HBY.out) (fun _ h => h)⟩
    have HSY : Hid (w.heap.size ≤ ((wr.alloc (.cells (edC e.kind (.slice Aw e.way.length cw) e.node.1 (.slice An e.node.2.len cn) e.old.1 (.slice Ao e.old.2.len co)).toArray 37)).alloc (.cells ([.int .i64 2, .slice Aw e.way.length cw, .string ⟨#[]⟩, .string ⟨#[]⟩, .int .i64 0, .int .u64 0, .string ⟨#[]⟩, .slice none 0 0, .string (txt e.node.1.name), .string (txt e.node.1.key), .int .i64 e.node.1.kind, .int .u64 (e.node.1.num : Int), .string (txt e.node.1.text), .slice An e.node.2.len cn]).toArray 37)).heap.size) := hHd HBY.out.size
    go_wp2_with (at_builtin; refine wpList_append_e (by rfl) (.tmp 21) (.tmp 27) (by rfl) (by rfl) (by rfl) HOY.out (g := wr.heap.size + 1) (by rfl) HKY.out HEY.out HLN.out HSY.out ?_; intro v' w' hap)
    obtain ⟨A9, c9, e9⟩ := hap.2.2
    have HO9 := hHd hap.1
    have HB9 : Hid (Below w.heap.size w w') := hHd (HBY.out.trans (hap.below HOY.out HSY.out))
    clear hap
    subst e9
    go_wp2
    go_roundw
    case rel => exact ⟨i, by omega, rfl, hHd (by rw [HST.out, HINV.out]; exact HO9.out), HB9⟩
    case measure => simp [intOf]
   have k1 : (e.kind == 1) = false := beq_eq_false_iff_ne.2 c1
   by_cases c2 : e.kind = 2
   ·have k2 : (e.kind == 2) = true := beq_iff_eq.2 c2
    have HINV : Hid ((inv1 e).toList = [⟨1, e.way, e.old, noN⟩]) := hHd (by unfold inv1; rw [if_neg c1, if_pos c2]; rfl)
    clear c1 c2
    have HBY : Hid (Below w.heap.size w ((wr.alloc (.cells (edC e.kind (.slice Aw e.way.length cw) e.node.1 (.slice An e.node.2.len cn) e.old.1 (.slice Ao e.old.2.len co)).toArray 37)).alloc (.cells ([.int .i64 1, .slice Aw e.way.length cw, .string (txt e.old.1.name), .string (txt e.old.1.key), .int .i64 e.old.1.kind, .int .u64 (e.old.1.num : Int), .string (txt e.old.1.text), .slice Ao e.old.2.len co, .string ⟨#[]⟩, .string ⟨#[]⟩, .int .i64 0, .int .u64 0, .string ⟨#[]⟩, .slice none 0 0]).toArray 37))) := hHd (HBX.out.alloc HBX.out.size _)
    have HOY : Hid (OwnE w.heap.size (Bel w) ((wr.alloc (.cells (edC e.kind (.slice Aw e.way.length cw) e.node.1 (.slice An e.node.2.len cn) e.old.1 (.slice Ao e.old.2.len co)).toArray 37)).alloc (.cells ([.int .i64 1, .slice Aw e.way.length cw, .string (txt e.old.1.name), .string (txt e.old.1.key), .int .i64 e.old.1.kind, .int .u64 (e.old.1.num : Int), .string (txt e.old.1.text), .slice Ao e.old.2.len co, .string ⟨#[]⟩, .string ⟨#[]⟩, .int .i64 0, .int .u64 0, .string ⟨#[]⟩, .slice none 0 0]).toArray 37)) (.slice Aq (invX (l.drop (i + 1))).length cq) (invX (l.drop (i + 1)))) := hHd (HOX.out.below bAl)
    have HKY : Hid (Blk ((wr.alloc (.cells (edC e.kind (.slice Aw e.way.length cw) e.node.1 (.slice An e.node.2.len cn) e.old.1 (.slice Ao e.old.2.len co)).toArray 37)).alloc (.cells ([.int .i64 1, .slice Aw e.way.length cw, .string (txt e.old.1.name), .string (txt e.old.1.key), .int .i64 e.old.1.kind, .int .u64 (e.old.1.num : Int), .string (txt e.old.1.text), .slice Ao e.old.2.len co, .string ⟨#[]⟩, .string ⟨#[]⟩, .int .i64 0, .int .u64 0, .string ⟨#[]⟩, .slice none 0 0]).toArray 37)) (wr.heap.size + 1) 37 ([.int .i64 1, .slice Aw e.way.length cw, .string (txt e.old.1.name), .string (txt e.old.1.key), .int .i64 e.old.1.kind, .int .u64 (e.old.1.num : Int), .string (txt e.old.1.text), .slice Ao e.old.2.len co, .string ⟨#[]⟩, .string ⟨#[]⟩, .int .i64 0, .int .u64 0, .string ⟨#[]⟩, .slice none 0 0]).toArray) := hHd (by have h := Blk.new (wr.alloc (.cells (edC e.kind (.slice Aw e.way.length cw) e.node.1 (.slice An e.node.2.len cn) e.old.1 (.slice Ao e.old.2.len co)).toArray 37)) 37 ([.int .i64 1, .slice Aw e.way.length cw, .string (txt e.old.1.name), .string (txt e.old.1.key), .int .i64 e.old.1.kind, .int .u64 (e.old.1.num : Int), .string (txt e.old.1.text), .slice Ao e.old.2.len co, .string ⟨#[]⟩, .string ⟨#[]⟩, .int .i64 0, .int .u64 0, .string ⟨#[]⟩, .slice none 0 0]).toArray; rwa [show (wr.alloc (.cells (edC e.kind (.slice Aw e.way.length cw) e.node.1 (.slice An e.node.2.len cn) e.old.1 (.slice Ao e.old.2.len co)).toArray 37)).heap.size = wr.heap.size + 1 by simp] at h)
    have HEY : Hid (EdS (Bel w) ((wr.alloc (.cells (edC e.kind (.slice Aw e.way.length cw) e.node.1 (.slice An e.node.2.len cn) e.old.1 (.slice Ao e.old.2.len co)).toArray 37)).alloc (.cells ([.int .i64 1, .slice Aw e.way.length cw, .string (txt e.old.1.name), .string (txt e.old.1.key), .int .i64 e.old.1.kind, .int .u64 (e.old.1.num : Int), .string (txt e.old.1.text), .slice Ao e.old.2.len co, .string ⟨#[]⟩, .string ⟨#[]⟩, .int .i64 0, .int .u64 0, .string ⟨#[]⟩, .slice none 0 0]).toArray 37)) ([.int .i64 1, .slice Aw e.way.length cw, .string (txt e.old.1.name), .string (txt e.old.1.key), .int .i64 e.old.1.kind, .int .u64 (e.old.1.num : Int), .string (txt e.old.1.text), .slice Ao e.old.2.len co, .string ⟨#[]⟩, .string ⟨#[]⟩, .int .i64 0, .int .u64 0, .string ⟨#[]⟩, .slice none 0 0]) (⟨1, e.way, e.old, noN⟩)) := hHd ⟨_, _, _, rfl, HW.out.keep (HKP.out _ HBY.out) (fun _ h => h), RowS.keep HOL.out (HKP.out _ HBY.out) (fun _ h => h), FrV.empty _ _ _⟩
    have HSY : Hid (w.heap.size ≤ ((wr.alloc (.cells (edC e.kind (.slice Aw e.way.length cw) e.node.1 (.slice An e.node.2.len cn) e.old.1 (.slice Ao e.old.2.len co)).toArray 37)).alloc (.cells ([.int .i64 1, .slice Aw e.way.length cw, .string (txt e.old.1.name), .string (txt e.old.1.key), .int .i64 e.old.1.kind, .int .u64 (e.old.1.num : Int), .string (txt e.old.1.text), .slice Ao e.old.2.len co, .string ⟨#[]⟩, .string ⟨#[]⟩, .int .i64 0, .int .u64 0, .string ⟨#[]⟩, .slice none 0 0]).toArray 37)).heap.size) := hHd HBY.out.size
    go_wp2_with (at_builtin; refine wpList_append_e (by rfl) (.tmp 31) (.tmp 37) (by rfl) (by rfl) (by rfl) HOY.out (g := wr.heap.size + 1) (by rfl) HKY.out HEY.out HLN.out HSY.out ?_; intro v' w' hap)
    obtain ⟨A9, c9, e9⟩ := hap.2.2
    have HO9 := hHd hap.1
    have HB9 : Hid (Below w.heap.size w w') := hHd (HBY.out.trans (hap.below HOY.out HSY.out))
    clear hap
    subst e9
    go_wp2
    go_roundw
    case rel => exact ⟨i, by omega, rfl, hHd (by rw [HST.out, HINV.out]; exact HO9.out), HB9⟩
    case measure => simp [intOf]
   have k2 : (e.kind == 2) = false := beq_eq_false_iff_ne.2 c2
   by_cases c3 : e.kind = 3
   ·have k3 : (e.kind == 3) = true := beq_iff_eq.2 c3
    have HINV : Hid ((inv1 e).toList = [⟨3, e.way, e.old, e.node⟩]) := hHd (by unfold inv1; rw [if_neg c1, if_neg c2, if_pos c3]; rfl)
    clear c1 c2 c3
    have HBY : Hid (Below w.heap.size w ((wr.alloc (.cells (edC e.kind (.slice Aw e.way.length cw) e.node.1 (.slice An e.node.2.len cn) e.old.1 (.slice Ao e.old.2.len co)).toArray 37)).alloc (.cells ([.int .i64 3, .slice Aw e.way.length cw, .string (txt e.old.1.name), .string (txt e.old.1.key), .int .i64 e.old.1.kind, .int .u64 (e.old.1.num : Int), .string (txt e.old.1.text), .slice Ao e.old.2.len co, .string (txt e.node.1.name), .string (txt e.node.1.key), .int .i64 e.node.1.kind, .int .u64 (e.node.1.num : Int), .string (txt e.node.1.text), .slice An e.node.2.len cn]).toArray 37))) := hHd (HBX.out.alloc HBX.out.size _)
    have HOY : Hid (OwnE w.heap.size (Bel w) ((wr.alloc (.cells (edC e.kind (.slice Aw e.way.length cw) e.node.1 (.slice An e.node.2.len cn) e.old.1 (.slice Ao e.old.2.len co)).toArray 37)).alloc (.cells ([.int .i64 3, .slice Aw e.way.length cw, .string (txt e.old.1.name), .string (txt e.old.1.key), .int .i64 e.old.1.kind, .int .u64 (e.old.1.num : Int), .string (txt e.old.1.text), .slice Ao e.old.2.len co, .string (txt e.node.1.name), .string (txt e.node.1.key), .int .i64 e.node.1.kind, .int .u64 (e.node.1.num : Int), .string (txt e.node.1.text), .slice An e.node.2.len cn]).toArray 37)) (.slice Aq (invX (l.drop (i + 1))).length cq) (invX (l.drop (i + 1)))) := hHd (HOX.out.below bAl)
    have HKY : Hid (Blk ((wr.alloc (.cells (edC e.kind (.slice Aw e.way.length cw) e.node.1 (.slice An e.node.2.len cn) e.old.1 (.slice Ao e.old.2.len co)).toArray 37)).alloc (.cells ([.int .i64 3, .slice Aw e.way.length cw, .string (txt e.old.1.name), .string (txt e.old.1.key), .int .i64 e.old.1.kind, .int .u64 (e.old.1.num : Int), .string (txt e.old.1.text), .slice Ao e.old.2.len co, .string (txt e.node.1.name), .string (txt e.node.1.key), .int .i64 e.node.1.kind, .int .u64 (e.node.1.num : Int), .string (txt e.node.1.text), .slice An e.node.2.len cn]).toArray 37)) (wr.heap.size + 1) 37 ([.int .i64 3, .slice Aw e.way.length cw, .string (txt e.old.1.name), .string (txt e.old.1.key), .int .i64 e.old.1.kind, .int .u64 (e.old.1.num : Int), .string (txt e.old.1.text), .slice Ao e.old.2.len co, .string (txt e.node.1.name), .string (txt e.node.1.key), .int .i64 e.node.1.kind, .int .u64 (e.node.1.num : Int), .string (txt e.node.1.text), .slice An e.node.2.len cn]).toArray) := hHd (by have h := Blk.new (wr.alloc (.cells (edC e.kind (.slice Aw e.way.length cw) e.node.1 (.slice An e.node.2.len cn) e.old.1 (.slice Ao e.old.2.len co)).toArray 37)) 37 ([.int .i64 3, .slice Aw e.way.length cw, .string (txt e.old.1.name), .string (txt e.old.1.key), .int .i64 e.old.1.kind, .int .u64 (e.old.1.num : Int), .string (txt e.old.1.text), .slice Ao e.old.2.len co, .string (txt e.node.1.name), .string (txt e.node.1.key), .int .i64 e.node.1.kind, .int .u64 (e.node.1.num : Int), .string (txt e.node.1.text), .slice An e.node.2.len cn]).toArray; rwa [show (wr.alloc (.cells (edC e.kind (.slice Aw e.way.length cw) e.node.1 (.slice An e.node.2.len cn) e.old.1 (.slice Ao e.old.2.len co)).toArray 37)).heap.size = wr.heap.size + 1 by simp] at h)
    have HEY : Hid (EdS (Bel w) ((wr.alloc (.cells (edC e.kind (.slice Aw e.way.length cw) e.node.1 (.slice An e.node.2.len cn) e.old.1 (.slice Ao e.old.2.len co)).toArray 37)).alloc (.cells ([.int .i64 3, .slice Aw e.way.length cw, .string (txt e.old.1.name), .string (txt e.old.1.key), .int .i64 e.old.1.kind, .int .u64 (e.old.1.num : Int), .string (txt e.old.1.text), .slice Ao e.old.2.len co, .string (txt e.node.1.name), .string (txt e.node.1.key), .int .i64 e.node.1.kind, .int .u64 (e.node.1.num : Int), .string (txt e.node.1.text), .slice An e.node.2.len cn]).toArray 37)) ([.int .i64 3, .slice Aw e.way.length cw, .string (txt e.old.1.name), .string (txt e.old.1.key), .int .i64 e.old.1.kind, .int .u64 (e.old.1.num : Int), .string (txt e.old.1.text), .slice Ao e.old.2.len co, .string (txt e.node.1.name), .string (txt e.node.1.key), .int .i64 e.node.1.kind, .int .u64 (e.node.1.num : Int), .string (txt e.node.1.text), .slice An e.node.2.len cn]) (⟨3, e.way, e.old, e.node⟩)) := hHd ⟨_, _, _, rfl, HW.out.keep (HKP.out _ HBY.out) (fun _ h => h), RowS.keep HOL.out (HKP.out _ HBY.out) (fun _ h => h), RowS.keep HN.out (HKP.out _ HBY.out) (fun _ h => h)⟩
    have HSY : Hid (w.heap.size ≤ ((wr.alloc (.cells (edC e.kind (.slice Aw e.way.length cw) e.node.1 (.slice An e.node.2.len cn) e.old.1 (.slice Ao e.old.2.len co)).toArray 37)).alloc (.cells ([.int .i64 3, .slice Aw e.way.length cw, .string (txt e.old.1.name), .string (txt e.old.1.key), .int .i64 e.old.1.kind, .int .u64 (e.old.1.num : Int), .string (txt e.old.1.text), .slice Ao e.old.2.len co, .string (txt e.node.1.name), .string (txt e.node.1.key), .int .i64 e.node.1.kind, .int .u64 (e.node.1.num : Int), .string (txt e.node.1.text), .slice An e.node.2.len cn]).toArray 37)).heap.size) := hHd HBY.out.size
    go_wp2_with (at_builtin; refine wpList_append_e (by rfl) (.tmp 41) (.tmp 49) (by rfl) (by rfl) (by rfl) HOY.out (g := wr.heap.size + 1) (by rfl) HKY.out HEY.out HLN.out HSY.out ?_; intro v' w' hap)
    obtain ⟨A9, c9, e9⟩ := hap.2.2
    have HO9 := hHd hap.1
    have HB9 : Hid (Below w.heap.size w w') := hHd (HBY.out.trans (hap.below HOY.out HSY.out))
    clear hap
    subst e9
    go_wp2
    go_roundw
    case rel => exact ⟨i, by omega, rfl, hHd (by rw [HST.out, HINV.out]; exact HO9.out), HB9⟩
    case measure => simp [intOf]
   have k3 : (e.kind == 3) = false := beq_eq_false_iff_ne.2 c3
   have HINV : Hid ((inv1 e).toList = []) := hHd (by unfold inv1; rw [if_neg c1, if_neg c2, if_neg c3]; rfl)
   clear c1 c2 c3
   go_wp2
   go_roundw
   case rel => exact ⟨i, by omega, rfl, hHd (by rw [HST.out, HINV.out, List.append_nil]; exact HOX.out), HBX⟩
   case measure => simp [intOf]
  ·obtain rfl : j = 0 := by omega
   have HO0 : Hid (OwnE w.heap.size (Bel w) wr (.slice Aq (invX l).length cq) (invX l)) := HO
   clear HO
   go_wp2
   go_ret
   exact ⟨_, rfl, HO0.out.bel, HB.out⟩
end
theorem res_ct9 {P : Program} {fn : Func} {p u : Tmp} {ty : TypeId} (h : fn.results = #[.cell p ty, .tmp u]) (tmps : Array Value) (w : World) (g : Nat) (t : TypeId) (cs : Array Value) (fr : Nat × Nat) (d : TypeDesc)
  (hp : tmps.getD p undef = .pointer (some ⟨g, 0, none⟩)) (hg : w.heap[g]? = some (.cells cs t fr))
  (hu : P.underlying ty = some d) (hd : (match d with | .struct _ | .array _ _ => true | _ => false) = true) (hi : (P.info? ty).map (·.size) = some cs.size) :
  (results fn tmps).run P w = .ok (.tuple #[.agg cs, tmps.getD u undef]) w := by
 rw [results_cell_tmp h, hp]
 simp [asAddr, run_loadVar_row w g t ty cs fr d hg hu hd hi, Result.andThen]
def set6 (w : World) (b : Nat) (x0 x1 x2 x3 x4 x5 : Value) : World := (((((w.setCell ⟨b, 0, none⟩ x0).setCell ⟨b, 1, none⟩ x1).setCell ⟨b, 2, none⟩ x2).setCell ⟨b, 3, none⟩ x3).setCell ⟨b, 4, none⟩ x4).setCell ⟨b, 5, none⟩ x5
theorem Blk.set6 {w : World} {b : Nat} {t : TypeId} {y0 y1 y2 y3 y4 y5 : Value} (h : Blk w b t #[y0, y1, y2, y3, y4, y5]) (x0 x1 x2 x3 x4 x5 : Value) : Blk (set6 w b x0 x1 x2 x3 x4 x5) b t #[x0, x1, x2, x3, x4, x5] := by
 have h2 := ((((((h).set_ 0 x0).set_ 1 x1).set_ 2 x2).set_ 3 x3).set_ 4 x4).set_ 5 x5
 simp only [layS] at h2
 exact h2
theorem set6_below {B : Nat} {w : World} {b : Nat} {x0 x1 x2 x3 x4 x5 : Value} (h : B ≤ b) : Below B w (set6 w b x0 x1 x2 x3 x4 x5) :=
 ((((((Below.refl B w).setCell (p := ⟨b, 0, none⟩) h x0).setCell (p := ⟨b, 1, none⟩) h x1).setCell (p := ⟨b, 2, none⟩) h x2).setCell (p := ⟨b, 3, none⟩) h x3).setCell (p := ⟨b, 4, none⟩) h x4).setCell (p := ⟨b, 5, none⟩) h x5
theorem set6_other {w : World} {b g : Nat} {x0 x1 x2 x3 x4 x5 : Value} (h : g ≠ b) : (set6 w b x0 x1 x2 x3 x4 x5).heap[g]? = w.heap[g]? := by
 unfold set6
 rw [Below.heap_setCell _ _ _ _ h, Below.heap_setCell _ _ _ _ h, Below.heap_setCell _ _ _ _ h, Below.heap_setCell _ _ _ _ h, Below.heap_setCell _ _ _ _ h, Below.heap_setCell _ _ _ _ h]
theorem set6_size {w : World} {b : Nat} {x0 x1 x2 x3 x4 x5 : Value} : (set6 w b x0 x1 x2 x3 x4 x5).heap.size = w.heap.size := by simp [set6, World.setCell]
theorem LieB.row {b : Nat} {w : World} {a : NdD} {f : NdF} {v : Value} (h : LieB b w (ndC a v) (a, f)) : RowT b w v f := by
 obtain ⟨A, c, e, h2⟩ := h.shape
 have e2 : v = .slice A f.len c := by
  have := congrArg (fun l => l[5]?) e
  simpa using this
 rw [e2]
 exact h2
theorem LieP.set6 {b B g : Nat} {w : World} {cs : List Value} {x : Nd} (h : LieP b B w cs x) (hg : b ≤ g) (hB : g < B) (x0 x1 x2 x3 x4 x5 : Value) : LieP b B (set6 w g x0 x1 x2 x3 x4 x5) cs x :=
 h.keep (fun k hk => set6_other (by omega)) (fun k hk => by rw [set6_size]; exact hk)
theorem LieP.after {b B B' : Nat} {w : World} {cs : List Value} {x : Nd} (h : LieP b B w cs x) (hB : B' ≤ B) : LieP b B' w cs x :=
 h.keep (fun _ _ => rfl) (fun k hk => by rcases hk with h | h; exact .inl h; exact .inr ⟨by omega, h.2⟩)
theorem LieP.below {b B : Nat} {w w' : World} {cs : List Value} {x : Nd} (h : LieP b B w cs x) (hb : Below w.heap.size w w') (hbw : b ≤ w.heap.size) : LieP b B w' cs x :=
 h.keep (fun k hk => hb.block k (by rcases hk with h | h <;> omega)) (fun k hk => by have := hb.size; rcases hk with h | h; exact .inl h; exact .inr ⟨h.1, by omega⟩)
theorem GetX_nil (x : Nd) : GetX x [] = (x, true) := rfl
def Stp0 (w : World) (g o : Nat) (s : Stp) : Prop := w.cell? ⟨g, o, none⟩ = some (.string (txt s.1)) ∧ w.cell? ⟨g, o + 1, none⟩ = some (.string (txt s.2))
theorem Stp0.below {w w' : World} {g o B : Nat} {s : Stp} (h : Stp0 w g o s) (hg : g < B) (hb : Below B w w') : Stp0 w' g o s := ⟨(hb.cell (p := ⟨g, o, none⟩) hg).trans h.1, (hb.cell (p := ⟨g, o + 1, none⟩) hg).trans h.2⟩
theorem get_boxes (a : NdD) (f : NdF) (A : Option Addr) (c : Nat) (w : World) (hx : LieN w (ndC a (.slice A f.len c)) (a, f)) :
  Blk ((w.alloc (.cells (cN a (.slice A f.len c)) 27)).alloc (.cells #[.string ⟨#[]⟩, .string ⟨#[]⟩, .int .i64 0, .int .u64 0, .string ⟨#[]⟩, .slice none 0 0] 27)) w.heap.size 27 (cN a (.slice A f.len c)) ∧ Blk ((w.alloc (.cells (cN a (.slice A f.len c)) 27)).alloc (.cells #[.string ⟨#[]⟩, .string ⟨#[]⟩, .int .i64 0, .int .u64 0, .string ⟨#[]⟩, .slice none 0 0] 27)) (w.heap.size + 1) 27 #[.string ⟨#[]⟩, .string ⟨#[]⟩, .int .i64 0, .int .u64 0, .string ⟨#[]⟩, .slice none 0 0] ∧ Below w.heap.size w ((w.alloc (.cells (cN a (.slice A f.len c)) 27)).alloc (.cells #[.string ⟨#[]⟩, .string ⟨#[]⟩, .int .i64 0, .int .u64 0, .string ⟨#[]⟩, .slice none 0 0] 27)) ∧ LieN ((w.alloc (.cells (cN a (.slice A f.len c)) 27)).alloc (.cells #[.string ⟨#[]⟩, .string ⟨#[]⟩, .int .i64 0, .int .u64 0, .string ⟨#[]⟩, .slice none 0 0] 27)).drew (ndC a (.slice A f.len c)) (a, f) := by
 have hb2 : Blk ((w.alloc (.cells (cN a (.slice A f.len c)) 27)).alloc (.cells #[.string ⟨#[]⟩, .string ⟨#[]⟩, .int .i64 0, .int .u64 0, .string ⟨#[]⟩, .slice none 0 0] 27)) (w.heap.size + 1) 27 #[.string ⟨#[]⟩, .string ⟨#[]⟩, .int .i64 0, .int .u64 0, .string ⟨#[]⟩, .slice none 0 0] := by
  have h := Blk.new (w.alloc (.cells (cN a (.slice A f.len c)) 27)) 27 #[.string ⟨#[]⟩, .string ⟨#[]⟩, .int .i64 0, .int .u64 0, .string ⟨#[]⟩, .slice none 0 0]
  rw [show (w.alloc (.cells (cN a (.slice A f.len c)) 27)).heap.size = w.heap.size + 1 by simp] at h
  exact h
 have hB : Below w.heap.size w ((w.alloc (.cells (cN a (.slice A f.len c)) 27)).alloc (.cells #[.string ⟨#[]⟩, .string ⟨#[]⟩, .int .i64 0, .int .u64 0, .string ⟨#[]⟩, .slice none 0 0] 27)) := bAl.alloc (by simp) _
 exact ⟨(Blk.new _ _ _).alloc _, hb2, hB, LieB.below hx hB.drew⟩
section
variable {α : Type} {D : RdOf α} {e : TypeId} {K p : Nat} {w w' : World} {base : Nat} {S S' N N' : Nat → Prop} {v : Value} {f g : Fr α}
theorem FrAt.take (n : Nat) : ∀ {f : Fr α} {b o : Nat}, FrAt D K p w S N f b o → FrAt D K p w S N (Fr.take n f) b o := by
 induction n with
 | zero => intro f b o h; cases f <;> trivial
 | succ n ih =>
  intro f b o h
  cases f with
  | nil => trivial
  | cons a k r => exact ⟨h.1, ih h.2⟩
theorem FrV.front {A : Option Addr} {L c n : Nat} (hn : n ≤ f.len) (h : FrV D K p w S N (.slice A L c) f) : FrV D K p w S N (.slice A n c) (Fr.take n f) := by
 obtain ⟨A', c', e, h1, h2⟩ := h
 injection e with e1 e2 e3
 subst e1 e2 e3
 have hl := Fr.len_take n f hn
 refine ⟨A, c, by rw [hl], by omega, fun h0 => ?_⟩
 obtain ⟨b, o, h3, h4, h5⟩ := h2 (by omega)
 exact ⟨b, o, h3, h4, h5.take n⟩
theorem FrV.back {b o L c n : Nat} (hn : n ≤ f.len) (h : FrV D K p w S N (.slice (some ⟨b, o, none⟩) L c) f) : FrV D K p w S N (.slice (some ⟨b, o + n * K, none⟩) (f.len - n) (c - n)) (Fr.drop n f) := by
 obtain ⟨A', c', e, h1, h2⟩ := h
 injection e with e1 e2 e3
 subst e2 e3
 have hl := Fr.len_drop n f
 refine ⟨_, _, by rw [hl], by omega, fun h0 => ?_⟩
 obtain ⟨b', o', h3, h4, h5⟩ := h2 (by omega)
 rw [← e1] at h3
 injection h3 with h3
 injection h3 with e4 e5 _
 subst e4 e5
 exact ⟨b, _, rfl, h4, h5.drop n⟩
theorem FrV.none_ (A : Option Addr) (c : Nat) : FrV D K p w S N (.slice A 0 c) (.nil : Fr α) := ⟨A, c, rfl, Nat.zero_le _, fun h => absurd h (by simp [Fr.len])⟩
def AppGs (D : RdOf α) (e : TypeId) (K p : Nat) (base : Nat) (S N : Nat → Prop) (w : World) (v : Value) (f : Fr α) (v' : Value) (w' : World) : Prop :=
 OwnG D e K p w' base S N v' f ∧ w.grownBy w' v.ownBlock ∧ (v'.ownBlock = v.ownBlock ∨ v'.ownBlock = some w.heap.size)
theorem AppGs.below {v' : Value} {g : Fr α} (h : AppGs D e K p base S N w v g v' w') (hown : OwnG D e K p w base S N v f) (hb : base ≤ w.heap.size) : Below base w w' :=
 (Below.refl _ _).grown h.2.1 hb fun b e => (hown.lt b e).1
theorem run_append_gs {P : Program} (hD : StayD D) (hO : OneD D) {ts : TypeId} {z : Value} {bytes : Nat} (hu : P.underlying ts = some (.slice e))
  (hinfo : (P.info? e).map (fun i => (i.zero, i.size, i.bytes)) = some (some z, K, bytes)) (hz : z.cells.size = K) (hk : 0 < K) (w : World) (v : Value) (hown : OwnG D e K p w base S N v f) (u : Value) (hs : FrV D K p w S N u g)
  (hb : (f.len + g.len) * bytes ≤ 140737488355328) (hlen : f.len + g.len ≤ 140737488355328) (hbase : base ≤ w.heap.size) :
  ∃ v' w', (Builtin.append_ #[ts, ts] ts #[v, u]).run P w = .ok v' w' ∧ AppGs D e K p base S N w v (f.app g) v' w' := by
 obtain ⟨hS, hN, xs, h1, h2⟩ := hown
 have hown : OwnG D e K p w base S N v f := ⟨hS, hN, xs, h1, h2⟩
 obtain ⟨i, hi, hz0, hz1, hz2⟩ := info_parts hinfo
 obtain ⟨A, c, rfl, hlc, hsrc⟩ := hs
 rcases A with _ | ad
 ·have hl : g = .nil := by
   cases g with
   | nil => rfl
   | cons a k r =>
    obtain ⟨_, _, he, _⟩ := hsrc (by simp [Fr.len])
    cases he
  subst hl
  refine ⟨v, w, ?_, by rw [Fr.app_nil]; exact hown, World.grownBy.refl w _, .inl rfl⟩
  rcases h1.2 with ⟨rfl, _⟩ | ⟨b, cap, cur, rfl, _, _, hnc, _⟩
  ·simp [Builtin.append_, run_underlying hu, sizeOf, typeInfo, hi, Builtin.lenOf, Builtin.firstCells, Fr.len]
  ·simp [Builtin.append_, run_underlying hu, sizeOf, typeInfo, hi, Builtin.lenOf, Builtin.firstCells, hnc, storeCells, Fr.len]
 ·obtain ⟨ys, hy, hc⟩ : ∃ ys, rowG D K p w S N ys g ∧ ∀ j x, ys[j]? = some x → w.cell? (ad.add j) = some x := by
   by_cases h0 : 0 < g.len
   ·obtain ⟨b, o, he, _, hat⟩ := hsrc h0
    injection he with he
    subst he
    obtain ⟨ys, h3, h4⟩ := hat.row
    refine ⟨ys, h3, fun j x hj => ?_⟩
    have e1 : (⟨b, o, none⟩ : Addr).add j = ⟨b, o + j, none⟩ := by unfold Addr.add; split <;> simp_all
    rw [e1]
    exact h4 j x hj
   ·cases g with
    | nil => exact ⟨[], rfl, fun j x hj => by simp at hj⟩
    | cons => simp [Fr.len] at h0
  obtain ⟨v', w', hrun, k1, k2, _, k3⟩ := run_append_own_at (P := P) (w := w) base ts ts e i z K bytes hu hi hz0 hz1 hz2 hz hk v f.len xs h1 ad g.len c ys hy.len hc (hy.oneCell hO) (by unfold maxLen; omega) hb hbase
  exact ⟨v', w', hrun, hown.app hD h2 (by rw [Fr.len_app]; exact k1) k2 k3 hy, k2, k3⟩
theorem wp_append_gs {P : Program} (hD : StayD D) (hO : OneD D) {ts : TypeId} {z : Value} {bytes : Nat} (hu : P.underlying ts = some (.slice e))
  (hinfo : (P.info? e).map (fun i => (i.zero, i.size, i.bytes)) = some (some z, K, bytes)) (hz : z.cells.size = K) (hk : 0 < K) {o : Oper} {a : Act} {K' : Act → World → Prop} {Q : Exit → Act → World → Prop} (s x : Operand)
  (ho : o.op = .call { callee := .builtin .append, args := #[s, x], argTypes := #[ts, ts] }) (hty : o.type = ts)
  (hs : a.eval s = v) (hown : OwnG D e K p w base S N v f) {u : Value} (hx : a.eval x = u) (hs2 : FrV D K p w S N u g)
  (hb : (f.len + g.len) * bytes ≤ 140737488355328) (hlen : f.len + g.len ≤ 140737488355328) (hbase : base ≤ w.heap.size)
  (hK : ∀ v' w', AppGs D e K p base S N w v (f.app g) v' w' → K' (a.put o.dst v') w') : o.wp P a w K' Q := by
 obtain ⟨v', w', hrun, h2⟩ := run_append_gs hD hO hu hinfo hz hk w v hown u hs2 hb hlen hbase
 unfold Oper.wp execOp
 simp only [ho, hty, resolve, invoke, builtin, Sem.run_bind, Sem.run_pure, Result.andThen_ok, List.map_toArray, List.map_cons, List.map_nil, hs, hx, hrun]
 exact hK v' w' h2
theorem wpList_append_gs {P : Program} (hD : StayD D) (hO : OneD D) {ts : TypeId} {z : Value} {bytes : Nat} (hu : P.underlying ts = some (.slice e))
  (hinfo : (P.info? e).map (fun i => (i.zero, i.size, i.bytes)) = some (some z, K, bytes)) (hz : z.cells.size = K) (hk : 0 < K) {ops : Array Oper} {rest : List Oper} {o : Oper} {a : Act} {Q : Exit → Act → World → Prop} (hgd : o.guard = none) (s x : Operand)
  (ho : o.op = .call { callee := .builtin .append, args := #[s, x], argTypes := #[ts, ts] }) (hty : o.type = ts)
  (hs : a.eval s = v) (hown : OwnG D e K p w base S N v f) {u : Value} (hx : a.eval x = u) (hs2 : FrV D K p w S N u g)
  (hb : (f.len + g.len) * bytes ≤ 140737488355328) (hlen : f.len + g.len ≤ 140737488355328) (hbase : base ≤ w.heap.size)
  (hK : ∀ v' w', AppGs D e K p base S N w v (f.app g) v' w' → wpList P ops Q rest (a.put o.dst v') w') : wpList P ops Q (o :: rest) a w :=
 wpList_plain hgd fun _ hK' => wp_append_gs hD hO hu hinfo hz hk s x ho hty hs hown hx hs2 hb hlen hbase fun v' w' hp => hK' _ _ (hK v' w' hp)
end
theorem Try.cellsNd : (Try.prog.info? 27).map (fun i => (i.zero, i.size, i.bytes)) = some (some (.agg #[.string ⟨#[]⟩, .string ⟨#[]⟩, .int .i64 0, .int .u64 0, .string ⟨#[]⟩, .slice none 0 0]), 6, 88) := by kernel_rfl
abbrev Zone (d B T : Nat) : Nat → Prop := fun g => g < d ∨ (B ≤ g ∧ g < T)
theorem row_one {D : RdOf NdD} {W : World} {S : Nat → Prop} {a : NdD} {f : NdF} {v : Value} (hD : FrN D 6 5 W S noB (ndC a v) a f) {g : Nat} {t : TypeId} (hS : S g) (hb : Blk W g t (ndC a v).toArray) : FrV D 6 5 W S noB (.slice (some ⟨g, 0, none⟩) 1 1) (oneF (a, f)) :=
 FrV.lit hS hb (rowG.one hD) (Nat.le_refl _)
def Bx3 (w : World) (b2 b3 b4 : Nat) (X Y Z : Array Value) (W : World) : Prop := Below w.heap.size w W ∧ Blk W b2 27 X ∧ Blk W b3 37 Y ∧ Blk W b4 27 Z ∧ w.heap.size ≤ b4
theorem Bx3.go {w : World} {b2 b3 b4 : Nat} {X Y Z : Array Value} {W W' : World} (h : Bx3 w b2 b3 b4 X Y Z W) (hb : Below W.heap.size W W') : Bx3 w b2 b3 b4 X Y Z W' :=
 ⟨h.1.trans (hb.mono h.1.size), h.2.1.below hb h.2.1.lt, h.2.2.1.below hb h.2.2.1.lt, h.2.2.2.1.below hb h.2.2.2.1.lt, h.2.2.2.2⟩
theorem Bx3.end_ {w : World} {b2 b3 b4 : Nat} {X Y : Array Value} {W : World} (h : Bx3 w b2 b3 b4 X Y #[.string ⟨#[]⟩, .string ⟨#[]⟩, .int .i64 0, .int .u64 0, .string ⟨#[]⟩, .slice none 0 0] W) (x0 x1 x2 x3 x4 x5 : Value) : Blk (set6 W b4 x0 x1 x2 x3 x4 x5) b4 27 #[x0, x1, x2, x3, x4, x5] ∧ Below w.heap.size w (set6 W b4 x0 x1 x2 x3 x4 x5) :=
 ⟨h.2.2.2.1.set6 _ _ _ _ _ _, h.1.trans (set6_below h.2.2.2.2)⟩
theorem lie_zero17 (w : World) : LieN w (ndC zeroT (.slice none 0 0)) noN := by
 refine ⟨rfl, ⟨_, rfl, rfl⟩, _, rfl, ?_⟩
 exact ⟨none, 0, rfl, Nat.le_refl _, fun h => absurd h (by simp [Fr.len])⟩
theorem last_at {l : List Stp} (h : l ≠ []) : ∃ s, l[l.length - 1]? = some s ∧ l.getLast? = some s := by
 rw [List.getLast?_eq_getElem?]
 have : 0 < l.length := List.length_pos_iff.2 h
 obtain ⟨s, hs⟩ : ∃ s, l[l.length - 1]? = some s := ⟨_, List.getElem?_eq_getElem (by omega)⟩
 exact ⟨s, hs, hs⟩
end Go.Proofs.Ythmobcaidhgeaaa
