/- VadIsd VadRut SpvNum -/
import Derived.Test.YtodlhgflfcadmaaGreatUM21
set_option linter.unusedSimpArgs false
set_option linter.unusedVariables false
set_option maxRecDepth 100000
set_option maxHeartbeats 8000000
namespace Go.Proofs.YtodlhgflfcadmaaGreat
open Go.RowKit
section
attribute [local go_sem] Oper.semAt_some
theorem Tryz.infoI : (Tryz.prog.info? 3).map (fun i => (i.zero, i.size, i.bytes)) = some (some (.int .i64 0), 1, 8) := by kernel_rfl
theorem made_cnt (L : Nat) : madeCells #[Value.int .i64 0] (L * 1) = cntC (List.replicate L 0) := by
 apply Array.toList_inj.1
 rw [toList_madeCells_one]
 unfold cntC
 simp
theorem run_had (w : World) (L : Nat) (hL : L ≤ 1000000) : (Instr.makeSlice 43 (.int .i64 (L : Int)) (.int .i64 (L : Int))).run Tryz.prog w = .ok (.slice (some ⟨w.heap.size, 0, none⟩) L L) (w.alloc (.cells (cntC (List.replicate L 0)) 3)) := by
 obtain ⟨i, hi, hz0, hz1, hz2⟩ := info_parts Tryz.infoI
 have h := run_make (P := Tryz.prog) w 43 3 i (.int .i64 0) Tryz.underlying43 hi hz0 .i64 .i64 (L : Int) (L : Int) (by omega) (by omega) (by rw [hz2]; omega) (by omega)
 rw [hz1] at h
 simp only [Int.toNat_natCast] at h
 rw [h]
 have e : (Value.int .i64 0).cells = #[Value.int .i64 0] := rfl
 rw [e, made_cnt]
theorem kidProblems_any (cs : Array Value) (s : SpD) (nv kv : Value) (y : NdD) (u : Value) (hA : Option Addr) (n1 n2 : Nat) (w : World) :
  Calls Tryz.prog 84 #[.agg (spC s nv kv).toArray, .agg (cN y u), .slice hA n1 n2] w fun r w' => r = .returned (.func (.func 105) #[] #[.pointer (some ⟨w.heap.size, 0, none⟩), .pointer (some ⟨w.heap.size + 1, 0, none⟩), .pointer (some ⟨w.heap.size + 2, 0, none⟩)]) ∧
   w' = ((w.alloc (.cells (spC s nv kv).toArray 61)).alloc (.cells (cN y u) 27)).alloc (.cells #[.slice hA n1 n2] 43) := by
 unfold spC
 go_enter Tryz.func84, Tryz.ntmps84
 go_wp2
 go_ret
 exact ⟨rfl, rfl⟩
theorem scan_drop {f : NdF} {i : Nat} {a : NdD} {k : NdF} (h : f.get? i = some (a, k)) (s : SpF) (c : List Nat) : scanF (Fr.drop i f) s c = match under a (kidO10 s a k c) with
  | some b => some b
  | none => scanF (Fr.drop (i + 1) f) s (kidC10 s a c) := by
 rw [(Fr.get_drop h).1]
 unfold kidO10 kidC10
 cases hf : findX a.name s with
 | none => rw [scan_name hf]; rfl
 | some j =>
  obtain ⟨y, hy, _⟩ := sp_get hf
  rw [scan_cons hf hy]
  simp only [hy]
  cases under a (kidX1 y a k (c.getD j 0)) <;> rfl
theorem kidC_len (s : SpF) (a : NdD) (c : List Nat) : (kidC10 s a c).length = c.length := by
 unfold kidC10
 split
 ·rfl
 ·exact bump_len _ _
theorem kidC_le (s : SpF) (a : NdD) (c : List Nat) {m : Nat} (hl : c.length = s.len) (h : ∀ j, c.getD j 0 ≤ m) : ∀ j, (kidC10 s a c).getD j 0 ≤ m + 1 := by
 intro j
 unfold kidC10
 split
 ·have := h j; omega
 ·rename_i i hi
  obtain ⟨y, _, _, hlt⟩ := sp_get hi
  rw [bump_get j (by omega)]
  split
  ·have := h i; omega
  ·have := h j; omega
theorem cast0 : ((0 : Nat) : Int) = 0 := rfl
theorem drop0 (f : NdF) : Fr.drop 0 f = f := by cases f <;> rfl
theorem inside_zero (s : SpF) (f : NdF) : insideX s f = scanF (Fr.drop 0 f) s (List.replicate s.len 0) := by
 rw [drop0]
 rfl
theorem lack_drop {s : SpF} {c : List Nat} {j : Nat} {d : SpD} {k : SpF} (h : s.get? j = some (d, k)) : lackX (Fr.drop j s) (c.drop j) = if d.must = true ∧ c.getD j 0 = 0 then some (25, [(d.name, [])]) else lackX (Fr.drop (j + 1) s) (c.drop (j + 1)) := by
 rw [(Fr.get_drop h).1]
 show (if d.must = true ∧ (c.drop j).headD 0 = 0 then _ else lackX _ (c.drop j).tail) = _
 rw [List.tail_drop, List.headD_eq_head?_getD, List.head?_drop, List.getD_eq_getElem?_getD]
structure IsdR (f : NdF) (sf : SpF) (l : Nat) (W : World) (i : Nat) (cnt : List Nat) (ds : List Deferred) (V : World) : Prop where
 le : i ≤ f.len
 len : cnt.length = sf.len
 scan : insideX sf f = scanF (Fr.drop i f) sf cnt
 bel : Below W.heap.size W V
 yb : Blk V W.heap.size 93 #[.func (.yield l) #[] #[]]
 hb : Blk V (W.heap.size + 1) 3 (cntC cnt)
 cnt : ∀ j, cnt.getD j 0 ≤ i
 marks : Marks W.heap.size V ds
def IsdA (o : Option Bad) (B kb l : Nat) (W V : World) (bx : Array Value) (tm : Array Value) (a : Act) (V' : World) : Prop := ∃ (b : Bad) (A : Option Addr) (c Bx : Nat), o = some b ∧ Blk V' Bx 92 #[.int .i64 (b.1 : Int), .slice A b.2.length c] ∧ OwnS B V' (.slice A b.2.length c) b.2 ∧ (B ≤ Bx ∧ ∀ g, (Value.slice A b.2.length c).ownBlock = some g → g < Bx) ∧
 Blk V' W.heap.size 93 #[.func (.yield l) #[] #[]] ∧ Blk V' kb 27 bx ∧ Below W.heap.size W V' ∧ KeepsFrom W.heap.size V V' ∧
 a = { tmps := (tm.setIfInBounds 25 (.agg #[.int .i64 (b.1 : Int), .slice A b.2.length c])).setIfInBounds 7 (.pointer (some ⟨Bx, 0, none⟩)), defers := [] }
theorem isdA_own (o : Option Bad) (B kb l : Nat) (W V : World) (bx : Array Value) (tm : Array Value) (a : Act) (hW : W.heap.size ≤ B) (hV : V.heap.size ≤ B) : OwnFrom B (fun (_ : Unit) V' => IsdA o B kb l W V bx tm a V') := by
 rintro s X Y row ⟨b, A, c, Bx, h1, h2, h3, h4, h5, h6, h7, h8, h9⟩ hg hr
 have hc : ∀ r, row = some r → ∃ o : Obj, X.heap[r]? = some o ∧ o.isCells = false := fun r e => (hr r e).2
 exact ⟨b, A, c, Bx, h1, h2.obj hg hc, h3.obj hg hc, h4, h5.obj hg hc, h6.obj hg hc, below_obj h7 hg (fun r e => by have := (hr r e).1; omega) (Nat.le_refl _), ownFrom_keepsFrom (β := Unit) hV () X Y row h8 hg hr, h9⟩
theorem inside1_in (f : NdF) (hkids : ∀ n a k, f.get? n = some (a, k) → InsideP k) (sd : SpD) (sf : SpF) (cs : List Value) (a : NdD) (A : Option Addr) (c b g1 g2 l : Nat) (Jx : World → Prop) (W : World)
  (hs : SpL b W cs (sd, sf)) (hso : SpOk sf) (hsl : sf.len ≤ 1000000) (hrow : RowT b W (.slice A f.len c) f) (hb1 : Blk W g1 61 cs.toArray) (hb2 : Blk W g2 27 (cN a (.slice A f.len c))) (hbW : b ≤ W.heap.size) (hf : f.size ≤ 1000000) (hok : OkF f)
  (hJx : OwnFrom W.heap.size (fun (_ : Unit) V => Jx V)) (hY : YldP (insideX sf f) l Jx W) :
  CallsIn Fence.wide 9 Tryz.prog 83 #[.func (.yield l) #[] #[], .pointer (some ⟨g1, 0, none⟩), .pointer (some ⟨g2, 0, none⟩)] W (PrbP (insideX sf f) Jx W) := by
 obtain ⟨B0, m0, A0, c0, d0, rfl, -, -, hsrow⟩ := SpN.shape (x := (sd, sf)) hs
 have hlen : f.len ≤ 1000000 := by have := Fr.len_size f; omega
 have HS := hHd (And.intro hs (And.intro hso hsrow))
 have HK := hHd hkids
 have HROW := hHd hrow
 have HBB := hHd (And.intro hb1 hb2)
 have HBW := hHd hbW
 have HSZ := hHd (And.intro hf hok)
 have HJX := hHd hJx
 have HY := hHd hY
 have hal : Below W.heap.size W (W.alloc (.cells #[.func (.yield l) #[] #[]] 93)) := bAl
 have s8 := ((hb1.below hal hb1.lt).cell 8).trans rfl
 have hal3 : Below W.heap.size W ((W.alloc (.cells #[.func (.yield l) #[] #[]] 93)).alloc (.cells (cntC (List.replicate sf.len 0)) 3)) := hal.alloc hal.size _
 have n5 := ((hb2.below hal3 hb2.lt).cell 5).trans rfl
 have hmk := run_had (W.alloc (.cells #[.func (.yield l) #[] #[]] 93)) sf.len hsl
 have HYB : Hid (Blk ((W.alloc (.cells #[.func (.yield l) #[] #[]] 93)).alloc (.cells (cntC (List.replicate sf.len 0)) 3)) W.heap.size 93 #[.func (.yield l) #[] #[]]) := hHd ((Blk.new W 93 #[.func (.yield l) #[] #[]]).alloc _)
 have HHB : Hid (Blk ((W.alloc (.cells #[.func (.yield l) #[] #[]] 93)).alloc (.cells (cntC (List.replicate sf.len 0)) 3)) (W.heap.size + 1) 3 (cntC (List.replicate sf.len 0))) := hHd (Blk.newA (w := (W.alloc (.cells #[.func (.yield l) #[] #[]] 93))) (by simp) _ _)
 have HAL := hHd hal3
 have hsl3 : (sf.len : Int) ≤ 1000000 := by omega
 have hfl3 : (f.len : Int) ≤ 1000000 := by omega
 clear hkids hs hso hrow hb1 hb2 hbW hf hok hJx hY hal hal3 hsrow
 refine callsIn_of_wp_marks Tryz.func83 rfl trivial ?_ rfl
 simp only [Tryz.ntmps83, List.size_toArray, List.length_cons, List.length_nil, Nat.reduceAdd, Nat.reduceSub, Array.replicate_succ, Array.replicate_zero, List.push_toArray, List.append_toArray, List.nil_append, List.cons_append]
 gi_wp2_with fail
 refine wpIn_act ?_
 intro act hact
 have HACT := hHd hact
 refine wpIn_loop (fun a' V => ∃ (i : Nat) (cnt : List Nat) (ds : List Deferred) (u6 u18 u19 u20 u21 u22 u23 u24 u32 : Value), IsdR f sf l W i cnt ds V ∧ a' = { tmps := (((((((((act.tmps.setIfInBounds 6 u6).setIfInBounds 17 (.int .i64 (i : Int))).setIfInBounds 18 u18).setIfInBounds 19 u19).setIfInBounds 20 u20).setIfInBounds 21 u21).setIfInBounds 22 u22).setIfInBounds 23 u23).setIfInBounds 24 u24).setIfInBounds 32 u32, defers := ds }) (fun a' _ => f.len - (intOf (a'.tmps.getD 17 undef)).toNat) ?start ?round
 case start =>
  refine ⟨0, List.replicate sf.len 0, [], undef, undef, undef, undef, undef, undef, undef, undef, undef, ⟨Nat.zero_le _, by simp, inside_zero sf f, HAL.out, HYB.out, HHB.out, fun j => ?_, .nil⟩, by rw [HACT.out]; simp only [List.setIfInBounds_toArray, List.set_cons_succ, List.set_cons_zero, cast0]⟩
  rw [List.getD_eq_getElem?_getD, List.getElem?_replicate]
  split <;> simp
 case round =>
  rintro a' V ⟨i, cnt, ds, u6, u18, u19, u20, u21, u22, u23, u24, u32, HR, rfl⟩
  clear hact s8 n5 hmk
  rw [HACT.out]
  simp only [List.setIfInBounds_toArray, List.set_cons_succ, List.set_cons_zero]
  have HR := hHd HR
  have i0 : (0 : Int) ≤ (i : Int) := by omega
  by_cases hlt : i < f.len
  ·obtain ⟨y, k, hg⟩ := Fr.get_some hlt
   obtain ⟨g, o, Ay, cy, rfl, -, hnc, hgb, hrk, hcell⟩ := HROW.out.at hg
   have hco : ∀ j u, (ndC y (.slice Ay k.len cy))[j]? = some u → V.cell? ⟨g, o + i * 6 + j, none⟩ = some u := fun j u hu => (World.cell?_of_block (w := W) (a := ⟨g, o + i * 6 + j, none⟩) (HR.out.bel.block g (by have := HBW.out; omega))).trans (hcell j u hu)
   have q0 : (V).cell? ⟨g, o + i * 6, none⟩ = _ := hco 0 _ rfl
   have q1 : (V).cell? ⟨g, o + i * 6 + 1, none⟩ = _ := hco 1 _ rfl
   have q2 : (V).cell? ⟨g, o + i * 6 + 2, none⟩ = _ := hco 2 _ rfl
   have q3 : (V).cell? ⟨g, o + i * 6 + 3, none⟩ = _ := hco 3 _ rfl
   have q4 : (V).cell? ⟨g, o + i * 6 + 4, none⟩ = _ := hco 4 _ rfl
   have q5 : (V).cell? ⟨g, o + i * 6 + 5, none⟩ = _ := hco 5 _ rfl
   have q0' : V.cell? ⟨g, o + i * 6, none⟩ = some (.string (txt y.name)) := q0
   have i2 : (i : Int) < (f.len : Int) := by omega
   have hal1 : Below V.heap.size V (V.alloc (.cells (cN y (.slice Ay k.len cy)) 27)) := bAl
   have hs1 := HBB.out.1.below (HR.out.bel.mono (Nat.le_refl _)) HBB.out.1.lt |>.below hal1 (Nat.lt_of_lt_of_le HBB.out.1.lt HR.out.bel.size)
   obtain ⟨z0, z1, z2, z3, z4, z5, z6, z7, z8⟩ := cl9 hs1
   have HKB := hHd (Blk.new V 27 (cN y (.slice Ay k.len cy)))
   have hksz := Fr.size_get hg
   have hkok := HSZ.out.2.at hg
   have HG := hHd (And.intro hg (And.intro hrk (And.intro hksz hkok)))
   have HLT := hHd hlt
   clear hcell hco hrk hg hksz hkok hlt hs1 hal1
   obtain ⟨r0, r1, r2, r3, r4, r5⟩ := cl6 HKB.out
   gi_wp2_with fail
   refine ⟨trivial, calls_wideR (ro := none) ((kidProblems_any #[] sd (.slice B0 sd.names.length m0) (.slice A0 sf.len c0) y (.slice Ay k.len cy) _ _ _ _).mono ?_)⟩
   rintro r w4 ⟨rfl, hw4⟩
   have HE4 : Hid (Below V.heap.size V w4 ∧ Blk w4 V.heap.size 27 (cN y (.slice Ay k.len cy)) ∧ KidH (sd, sf) (spC sd (.slice B0 sd.names.length m0) (.slice A0 sf.len c0)) y k Ay cy b (V.heap.size + 1) (V.heap.size + 1 + 1) (V.heap.size + 1 + 2) (W.heap.size + 1) cnt w4) := hHd (by
    have hb : Below V.heap.size V w4 := by rw [hw4]; exact ((bAl.alloc (by simp) _).alloc (by simp <;> omega) _).alloc (by simp <;> omega) _
    have hWV := HR.out.bel
    have hW4 : Below W.heap.size W w4 := hWV.trans (hb.mono hWV.size)
    have hlt := HR.out.hb.lt
    have hbw := HBW.out
    refine ⟨hb, by rw [hw4]; exact ((HKB.out.alloc _).alloc _).alloc _, ⟨HS.out.1.keep (fun g hg => hW4.block g (Nat.lt_of_lt_of_le hg hbw)) (Nat.le_refl _), HS.out.2.1, hsl, HG.out.2.1.under hW4 hbw (Nat.le_refl _), ?_, ?_, ?_, HR.out.hb.below hb hlt, HR.out.len, by omega, by omega, by omega, by omega, fun j => ?_, ?_, HG.out.2.2.2.1, HG.out.2.2.2.2⟩⟩
    ·rw [hw4]; exact ((Blk.newA (w := (V.alloc (.cells (cN y (.slice Ay k.len cy)) 27))) (by simp) _ _).alloc _).alloc _
    ·rw [hw4]; exact (Blk.newA (by simp <;> omega) _ _).alloc _
    ·rw [hw4]; exact Blk.newA (by simp <;> omega) _ _
    ·have := HR.out.cnt j; omega
    ·have := HG.out.2.2.1; have := HSZ.out.1; omega)
   clear q0 q1 q2 q3 q4 q5 q0' z0 z1 z2 z3 z4 z5 z6 z7 z8 r0 r1 r2 r3 r4 r5 hw4
   gi_wp2_with fail
   refine wpIn_act ?_
   intro act2 hact2
   have HACT2 := hHd hact2
   have hlt4 : W.heap.size + 1 < w4.heap.size := Nat.lt_of_lt_of_le HR.out.hb.lt HE4.out.1.size
   refine wpIn_range_oneH (h := W.heap.size + 1) (t := 3) (cs := cntC (kidC10 sf y cnt)) hlt4 (by decide) (by rw [hact2]; rfl) (Go.Proofs.enters_of Tryz.func105 (by kernel_rfl) rfl) (kidp_seq sd sf _ y k Ay cy b _ _ _ (W.heap.size + 1) cnt w4 HE4.out.2.2 (HK.out _ _ _ HG.out.1)) (Below.refl _ _) (fun B args W h => h.size) (fun B B' args W hb h => h.mono hb)
    (fun cd V' => cd = .ret ∧ Jx V' ∧ KeepsFrom W.heap.size w4 V') ?hX (fun a' V' => IsdA (kidO10 sf y k cnt) w4.heap.size V.heap.size l W w4 (cN y (.slice Ay k.len cy)) act2.tmps a' V') ?hAx ?assign ?body ?done ?stop
   all_goals clear hact2
   case hX =>
    rintro cd s X Y row ⟨h1, h2, h3⟩ hg hr
    exact ⟨h1, OwnFrom.le HJX.out (by omega) () X Y row h2 hg hr, ownFrom_keepsFrom (β := Unit) (Nat.le_refl _) () X Y row h3 hg hr⟩
   case hAx => exact fun a' => isdA_own _ _ _ _ _ _ _ _ a' (by omega) (Nat.le_refl _)
   case assign =>
    rintro l' args W5 K hg ⟨bb, ho, v, rfl, hown⟩ hK
    obtain ⟨A5, c5, rfl⟩ := hown.shape
    rw [HACT2.out] at hK ⊢
    gi_wp2
    have hal : Below W5.heap.size W5 (W5.alloc (.cells #[.int .i64 (bb.1 : Int), .slice A5 bb.2.length c5] 92)) := bAl
    have hyr : Blk W5 W.heap.size 93 #[.func (.yield l) #[] #[]] := (hg.block _ (by omega) (fun e => by injection e with e; omega)).trans (HR.out.yb.below HE4.out.1 HR.out.yb.lt)
    have hkr : Blk W5 V.heap.size 27 (cN y (.slice Ay k.len cy)) := (hg.block _ HE4.out.2.1.lt (fun e => by injection e with e; have := HR.out.hb.lt; omega)).trans HE4.out.2.1
    have hb4 : Below W.heap.size W w4 := HR.out.bel.trans (HE4.out.1.mono HR.out.bel.size)
    have hb5 : Below W.heap.size W W5 := hb4.trans ⟨hg.os, hg.tape, hg.output, hg.size, fun j hj => hg.block j (by omega) (fun e => by injection e with e; omega)⟩
    refine hK _ _ ((KeepsOthers.alloc _ _).from _) ⟨bb, A5, c5, W5.heap.size, ho, Blk.new _ _ _, hown.below hal, ⟨hg.size, fun g hg => (hown.lt g hg).2⟩, hyr.below hal hyr.lt, hkr.below hal hkr.lt, hb5.trans (hal.mono hb5.size), (keeps_grown hg (fun r e => by injection e with e; subst e; exact ⟨_, HE4.out.2.2.bh, rfl⟩)).trans (keeps_below hal), ?_⟩
    simp only [List.setIfInBounds_toArray, List.set_cons_succ, List.set_cons_zero]
   case body =>
    rintro l' a' W5 hl ⟨bb, A5, c5, Bx, ho, hbx, hown, hBx, hyb, hkb, hbel, hkf, rfl⟩
    rw [HACT2.out]
    simp only [List.setIfInBounds_toArray, List.set_cons_succ, List.set_cons_zero]
    have HYV : Hid (insideX sf f = some (bb.1, stp y :: bb.2)) := hHd (by rw [HR.out.scan, scan_drop HG.out.1, ho]; rfl)
    have HWL : Hid (bb.2.length ≤ 1000000) := hHd (by
     have h1 := (scan_err (f := f) (show scanF f sf (zeros sf) = _ from HYV.out)).2
     simp only [List.length_cons] at h1
     have := HSZ.out.1
     omega)
    have hd5 : Below W5.heap.size W5 W5.drew := (Below.refl _ _).drew
    have HS0 : Hid (Blk W5.drew W.heap.size 93 #[.func (.yield l) #[] #[]] ∧ Blk W5.drew Bx 92 #[.int .i64 (bb.1 : Int), .slice A5 bb.2.length c5] ∧ Blk W5.drew V.heap.size 27 (cN y (.slice Ay k.len cy))) := hHd ⟨hyb.below hd5 hyb.lt, hbx.below hd5 hbx.lt, hkb.below hd5 hkb.lt⟩
    have HOW := hHd hown
    have HB0 := hHd hbel
    have HKF := hHd hkf
    have HBX := hHd (And.intro hBx (And.intro hd5 (show w4.heap.size ≤ W5.heap.size from hkf.size)))
    clear hbx hown hBx hyb hkb hbel hkf hd5
    gi_wp2_with fail
    refine wpIn_region_calm (ro := (some l')) ?_
    refine wpIn_region_heldI [4] (S := fun _ => True) (by kernel_rfl) trivial (fun hS => ?_)
    refine heldI_more (S' := fun w' => Blk w' W.heap.size 93 #[.func (.yield l) #[] #[]] ∧ Blk w' Bx 92 #[.int .i64 (bb.1 : Int), .slice A5 bb.2.length c5] ∧ Blk w' V.heap.size 27 (cN y (.slice Ay k.len cy))) (fun _ _ => trivial) _ _ _ _ ?_
    replace hS := HS0.out
    refine tkI 0 [0, 4, 5] hS ?_ (hy := fun w hSw => by have y0 := (hSw.1.cell 0).trans rfl; (go_simp <;> with_reducible rfl))
    refine tkI 1 [1, 3, 4, 5] hS ?_ (hy := fun w hSw => by have y0 := (hSw.2.1.cell 0).trans rfl; have y1 := (hSw.2.1.cell 1).trans rfl; (go_simp <;> with_reducible rfl))
    refine tkI 2 [2, 3, 4, 5] hS ?_ (hy := fun w hSw => by obtain ⟨q0, q1, q2, q3, q4, q5⟩ := cl6 hSw.2.2; (go_simp <;> with_reducible rfl))
    refine rdyI [3] (riC (fun K hK => ?_) .nil)
    refine opIn_of (by kernel_rfl) ?_
    go_simp
    refine (below_any bb.1 (.slice A5 bb.2.length c5) bb.2 y (.slice Ay k.len cy) w4.heap.size _ (HOW.out.below HBX.out.2.1) HWL.out (Nat.le_trans HBX.out.2.2 HBX.out.2.1.size)).mono ?_
    rintro r w6 ⟨v6, rfl, ho6, hg6⟩
    obtain ⟨A6, c6, e6⟩ := ho6.shape
    simp only [List.length_cons] at e6
    subst e6
    have hown6 : ∀ g, (Value.slice A5 bb.2.length c5).ownBlock = some g → w4.heap.size ≤ g := fun g hg => (HOW.out.lt g hg).1
    have HS6 : Hid (Blk w6 W.heap.size 93 #[.func (.yield l) #[] #[]] ∧ Blk w6 Bx 92 #[.int .i64 (bb.1 : Int), .slice A5 bb.2.length c5] ∧ Blk w6 V.heap.size 27 (cN y (.slice Ay k.len cy))) := hHd ⟨(hg6.block _ HS0.out.1.lt (fun e => by have h1 := hown6 _ e.symm; have h2 := hlt4; omega)).trans HS0.out.1, (hg6.block _ HS0.out.2.1.lt (fun e => by have h1 := HBX.out.1.2 _ e.symm; omega)).trans HS0.out.2.1, (hg6.block _ HS0.out.2.2.lt (fun e => by have h1 := hown6 _ e.symm; have h2 := HE4.out.2.1.lt; omega)).trans HS0.out.2.2⟩
    have HB6 : Hid (Below W.heap.size W w6) := hHd (by
     have h1 : Below W.heap.size W W5.drew := HB0.out.trans (HBX.out.2.1.mono HB0.out.size)
     exact h1.trans ⟨hg6.os, hg6.tape, hg6.output, hg6.size, fun j hj => hg6.block j (by have := h1.size; omega) (fun e => by have h3 := hown6 _ e.symm; omega)⟩)
    have HK6 : Hid (∀ B, KeepsFrom B W5 w6) := hHd (fun B => (keeps_below HBX.out.2.1).trans (keeps_grown hg6 (HOW.out.below HBX.out.2.1).cells))
    have HO6 := hHd ho6
    clear ho6 hg6 hown6
    go_wp2_with fail
    refine hK.out _ _ ?sr_0 (fun hS => ?_)
    case sr_0 => (exact HS6.out)
    clear hK K
    (try simp only [Act.put, layS])
    refine rdyI [4] (riD (fun K hK => ?_) .nil)
    have HYC := hHd (HY.out #[.agg #[.int .i64 (bb.1 : Int), .slice A6 (bb.2.length + 1) c6]] w6 HB6.out ⟨(bb.1, stp y :: bb.2), HYV.out, _, rfl, HO6.out.mono (by omega)⟩)
    refine opIn_yield (by kernel_rfl) (fun fn tmps assign body h => by simp [execOp, resolve, invoke, go_sem, h]) HYC.out (fun e w7 he => ?_)
    obtain ⟨rfl, hj7, hk7⟩ := stop_bool he
    have HJ7 := hHd hj7
    have HK7 := hHd hk7
    clear he hj7 hk7
    refine ⟨_, rfl, ?_⟩
    refine hK.out _ _ ?_
    have hS : True := trivial
    clear hK K
    (try simp only [Act.put, layS])
    refine tkI 5 [5] hS ?_
    refine heldI_done (by kernel_rfl) ?_ _
    refine NoPanic.normal ?_
    clear hS
    gi_wp2
    exact ⟨(HK6.out _).trans (keepsFrom_mono HK7.out (by omega)), rfl, HJ7.out, HKF.out.trans ((HK6.out _).trans HK7.out)⟩
   case done =>
    rintro hno D W5 hD hg hbl hdef
    rw [HACT2.out]
    have HNX : Hid (IsdR f sf l W (i + 1) (kidC10 sf y cnt) ({ target := .collected D, args := #[] } :: ds) W5) := hHd (by
     have hb4 : Below W.heap.size W w4 := HR.out.bel.trans (HE4.out.1.mono HR.out.bel.size)
     refine ⟨HLT.out, (kidC_len _ _ _).trans HR.out.len, ?_, hb4.trans ⟨hg.os, hg.tape, hg.output, hg.size, fun j hj => hg.block j (by omega) (fun e => by injection e with e; omega)⟩, (hg.block _ (by omega) (fun e => by injection e with e; omega)).trans (HR.out.yb.below HE4.out.1 HR.out.yb.lt), hbl, kidC_le sf y cnt HR.out.len HR.out.cnt, HR.out.marks.push ((keeps_below HE4.out.1).trans (keeps_grown hg (fun r e => by injection e with e; subst e; exact ⟨_, HE4.out.2.2.bh, rfl⟩))) (by omega) (Nat.le_trans HE4.out.1.size hD) hdef⟩
     have hs := scan_drop HG.out.1 sf cnt
     cases ho : kidO10 sf y k cnt with
     | some b => rw [ho] at hno; cases hno
     | none => rw [HR.out.scan, hs, ho]; rfl)
    clear hg hbl hdef
    gi_wp2_with fail
    refine ⟨⟨i + 1, kidC10 sf y cnt, { target := .collected D, args := #[] } :: ds, _, _, _, _, _, _, _, _, _, HNX.out, rfl⟩, ?_⟩
    show f.len - ((i : Int) + 1).toNat < f.len - (i : Int).toNat
    have := HLT.out
    omega
   case stop =>
    rintro hhas D cd W5 hD ⟨rfl, hj, hk⟩ hdef
    rw [HACT2.out]
    have HM : Hid (Marks W.heap.size W5 ({ target := .collected D, args := #[] } :: ds)) := hHd (HR.out.marks.push ((keeps_below HE4.out.1).trans hk) (by omega) (Nat.le_trans HE4.out.1.size hD) hdef)
    have HJ := hHd hj
    have HHAS : Hid ((insideX sf f).isSome = true) := hHd (by
     rw [HR.out.scan, scan_drop HG.out.1]
     cases ho : kidO10 sf y k cnt with
     | none => rw [ho] at hhas; cases hhas
     | some b => rfl)
    clear hk hj hdef hhas
    gi_wp2_with fail
    refine leaves_marks (v := undef) Jx (fun V' D' hD' hd' hj' => OwnFrom.putObj HJX.out (s := ()) (o' := .deferred none) hj' hD' hd' rfl) (fun V' hj' => ⟨_, results_none rfl _ _ _, ⟨_, rfl⟩, ?_⟩) _ _ HM.out HJ.out
    rw [if_pos HHAS.out]
    exact hj'
  ·have hi : i = f.len := by have := HR.out.le; omega
   have i2 : ¬ (i : Int) < (f.len : Int) := by omega
   have HB0 := hHd HR.out.bel
   have HYV := hHd HR.out.yb
   have HHV := hHd HR.out.hb
   have HM := hHd HR.out.marks
   have HCL : Hid (cnt.length = sf.len ∧ ∀ j, cnt.getD j 0 ≤ 1000000) := hHd ⟨HR.out.len, fun j => by have := HR.out.cnt j; omega⟩
   have HSC : Hid (insideX sf f = lackX sf cnt) := hHd (by
    rw [HR.out.scan, hi, Fr.drop_all f]
    exact scan_nil ..)
   have hs1 := HBB.out.1.below HR.out.bel HBB.out.1.lt
   have z8 := (hs1.cell 8).trans rfl
   clear HR hlt hs1 HROW HK HHB HYB HAL
   have HCA : Hid (∀ j, j < sf.len → (cntC cnt)[j]? = some (.int .i64 ((cnt.getD j 0 : Nat) : Int))) := hHd (fun j hj => cnt_at (by rw [HCL.out.1]; exact hj))
   gi_wp2_with fail
   clear z8 hi i2
   gi_loopw [36] (fun v wr => ∃ j : Nat, j ≤ sf.len ∧ v = .int .i64 (j : Int) ∧ Hid (lackX sf cnt = lackX (Fr.drop j sf) (cnt.drop j)) ∧ Hid (Below V.heap.size V wr)) (fun v _ => sf.len - (intOf v).toNat)
   case atStart => exact ⟨0, Nat.zero_le _, rfl, hHd (by rw [List.drop_zero]; cases sf <;> rfl), hHd (Below.refl _ _)⟩
   case round =>
    obtain ⟨j, hj, rfl, HE, HB⟩ := hrel
    have i1 : (0 : Int) ≤ (j : Int) := by omega
    have HWR : Hid (Below W.heap.size W wr) := hHd (HB0.out.trans (HB.out.mono HB0.out.size))
    by_cases hlt : j < sf.len
    ·obtain ⟨yd, yf, hg⟩ := Fr.get_some hlt
     obtain ⟨nm, kd, ty, lo, up, ns, mu, mo⟩ := yd
     obtain ⟨g, o, c', cs', e, -, hgb, hN, hcl⟩ := HS.out.2.2.at hg
     injection e with e1 e2 e3
     subst e1 e3
     obtain ⟨B1, m1, A1, c1, d1, rfl, -, -, -⟩ := SpN.shape (x := ((⟨nm, kd, ty, lo, up, ns, mu, mo⟩ : SpD), yf)) hN
     have hcl' : ∀ j' u, ((cT nm kd ty lo up ns mu mo B1 m1 A1 yf.len c1) : Array Value).toList[j']? = some u → wr.cell? ⟨g, o + j * 9 + j', none⟩ = some u := fun j' u hu =>
      (World.cell?_of_block (w := W) (a := ⟨g, o + j * 9 + j', none⟩) (HWR.out.block g (Nat.lt_of_lt_of_le hgb HBW.out))).trans (hcl j' u (by simpa using hu))
     have c0' : wr.cell? ⟨g, o + j * 9, none⟩ = some (.string (txt nm)) := hcl' 0 _ rfl
     have c1' := hcl' 1 _ rfl
     have c2' := hcl' 2 _ rfl
     have c3' := hcl' 3 _ rfl
     have c4' := hcl' 4 _ rfl
     have c5' := hcl' 5 _ rfl
     have c6' := hcl' 6 _ rfl
     have c7' := hcl' 7 _ rfl
     have c8' := hcl' 8 _ rfl
     have i2 : (j : Int) < (sf.len : Int) := by omega
     have hal : Below wr.heap.size wr (wr.alloc (.cells (cT nm kd ty lo up ns mu mo B1 m1 A1 yf.len c1) 61)) := bAl
     have hbv : Below V.heap.size V (wr.alloc (.cells (cT nm kd ty lo up ns mu mo B1 m1 A1 yf.len c1) 61)) := HB.out.trans (hal.mono HB.out.size)
     have p0 := ((Blk.new wr 61 (cT nm kd ty lo up ns mu mo B1 m1 A1 yf.len c1)).cell 0).trans rfl
     have p6 := ((Blk.new wr 61 (cT nm kd ty lo up ns mu mo B1 m1 A1 yf.len c1)).cell 6).trans rfl
     have t0 := ((HYV.out.below hbv HYV.out.lt).cell 0).trans rfl
     have HCNT : Hid (∃ x : Nat, x = cnt.getD j 0 ∧ x ≤ 1000000) := hHd ⟨_, rfl, HCL.out.2 j⟩
     obtain ⟨x, hx, hx1⟩ := HCNT.out
     have th : (wr.alloc (.cells (cT nm kd ty lo up ns mu mo B1 m1 A1 yf.len c1) 61)).cell? ⟨W.heap.size + 1, j, none⟩ = some (.int .i64 (x : Int)) := by rw [hx]; exact ((HHV.out.below hbv HHV.out.lt).cell j).trans (HCA.out j hlt)
     have HLD : Hid (lackX sf cnt = if mu = true ∧ x = 0 then some (25, [(nm, [])]) else lackX (Fr.drop (j + 1) sf) (cnt.drop (j + 1))) := hHd (by rw [HE.out, lack_drop hg, hx])
     have HBV := hHd hbv
     have HJ1 : Hid (j + 1 ≤ sf.len) := hHd hlt
     clear hcl hcl' hN hg hgb hal hbv hlt hj e2 hx
     cases mu with
     | false =>
      gi_wp2
      go_roundw
      case rel => exact ⟨j + 1, HJ1.out, by go_num, hHd (by rw [HLD.out]; simp), HBV⟩
      case measure => have := HJ1.out; simp [intOf]; omega
     | true =>
      by_cases h0 : x = 0
      ·have k0 : ((x : Int) == 0) = true := beq_iff_eq.2 (by omega)
       have HIN : Hid (insideX sf f = some (25, [(nm, [])])) := hHd (by rw [HSC.out, HLD.out, if_pos ⟨rfl, h0⟩])
       have hb3 : Below W.heap.size W ((wr.alloc (.cells (cT nm kd ty lo up ns true mo B1 m1 A1 yf.len c1) 61)).alloc (.cells #[.string (txt nm), .string ⟨#[]⟩] 125)) := (HB0.out.trans (HBV.out.mono HB0.out.size)).alloc (by have := HB0.out.size; have := HBV.out.size; omega) _
       obtain ⟨fn, tmps, assign, body, hy, hR⟩ := HY.out #[.agg #[.int .i64 25, .slice (some ⟨(wr.alloc (.cells (cT nm kd ty lo up ns true mo B1 m1 A1 yf.len c1) 61)).heap.size, 0, none⟩) 1 1]] ((wr.alloc (.cells (cT nm kd ty lo up ns true mo B1 m1 A1 yf.len c1) 61)).alloc (.cells #[.string (txt nm), .string ⟨#[]⟩] 125)) hb3 ⟨(25, [(nm, [])]), HIN.out, _, rfl, OwnS.one (w := (wr.alloc (.cells (cT nm kd ty lo up ns true mo B1 m1 A1 yf.len c1) 61))) (nm, []) (by have := HB0.out.size; have := HBV.out.size; omega)⟩ (9 - 1)
       simp only [World.size_alloc] at hy hR
       clear hb3
       gi_wp2
       refine RoundIn.mono hR ?_
       rintro e Zz ⟨rfl, hj3, hk3⟩
       have HJ3 := hHd hj3
       have HM3 : Hid (Marks W.heap.size Zz ds) := hHd ((HM.out.keep (keeps_below (HBV.out.alloc HBV.out.size _))).keep hk3)
       clear hk3 hj3 hR hy
       gi_wp2
       refine leaves_marks (v := undef) Jx (fun V' D' hD' hd' hj' => OwnFrom.putObj HJX.out (s := ()) (o' := .deferred none) hj' hD' hd' rfl) (fun V' hj' => ⟨_, results_none rfl _ _ _, ⟨_, rfl⟩, ?_⟩) _ _ HM3.out HJ3.out
       rw [HIN.out]
       exact hj'
      ·have k0 : ((x : Int) == 0) = false := beq_eq_false_iff_ne.2 (by omega)
       gi_wp2
       go_roundw
       case rel => exact ⟨j + 1, HJ1.out, by go_num, hHd (by rw [HLD.out, if_neg (by intro h; exact h0 h.2)]), HBV⟩
       case measure => have := HJ1.out; simp [intOf]; omega
    ·have i2 : ¬ (j : Int) < (sf.len : Int) := by omega
     have HIN : Hid (insideX sf f = none) := hHd (by rw [HSC.out, HE.out, show j = sf.len by omega, Fr.drop_all]; rfl)
     gi_wp2_with fail
     refine leaves_marks (v := undef) (fun V' => Below W.heap.size W V') (fun V' D' hD' _ hb' => hb'.trans (below_put _ _ _ hD')) (fun V' hb' => ⟨_, results_none rfl _ _ _, ⟨_, rfl⟩, ?_⟩) _ _ (HM.out.keep (keeps_below HB.out)) HWR.out
     rw [HIN.out]
     exact hb'
theorem insideP : ∀ f : NdF, InsideP f := by
 refine Fr.byKids fun f ih => ?_
 intro s cs a A c b g1 g2 w hs hso hsl hrow hb1 hb2 hbW hf hok
 obtain ⟨sd, sf⟩ := s
 exact fun l Jx W hW hJx hY => (callsIn_wide (n := 9)).1 (inside1_in f (fun n a' k hg => ih n a' k hg) sd sf cs a A c b g1 g2 l Jx W (hs.keep (fun g hg => hW.block g (by omega)) (Nat.le_refl _)) hso hsl (hrow.under hW hbW (Nat.le_refl _)) (hb1.below hW hb1.lt) (hb2.below hW hb2.lt) (Nat.le_trans hbW hW.size) hf hok hJx hY)
end
section
attribute [local go_sem] Oper.semAt_some
theorem step_eq0 (a : NdD) (W : World) : (binOp .eql 125 (.agg #[.string (txt a.name), .string (txt a.key)]) (.agg #[.string ⟨#[]⟩, .string ⟨#[]⟩])).run Tryz.prog W = .ok (.bool (decide (a.name = [] ∧ a.key = []))) W := by
 rw [show Value.string ⟨#[]⟩ = Value.string (txt []) from rfl, run_eql_struct, show (10000 : Nat) = 9999 + 1 from rfl, run_equalIn_agg W 9999 125 _ _ (by simp only [Program.fieldsOf, Tryz.underlying125]) (by kernel_rfl)]
 simp only [Program.fieldsOf, Tryz.underlying125]
 simp only [Op.eqFields]
 go_simp
 simp only [txt_toList]
 by_cases h1 : a.name = [] <;> by_cases h2 : a.key = [] <;> simp [h1, h2]
theorem val_eq0 (a : NdD) (W : World) : (binOp .eql 24 (.agg #[.int .i64 a.kind, .int .u64 (a.num : Int), .string (txt a.text)]) (.agg #[.int .i64 0, .int .u64 0, .string ⟨#[]⟩])).run Tryz.prog W = .ok (.bool (decide (a.kind = 0 ∧ a.num = 0 ∧ a.text = []))) W := by
 rw [show Value.string ⟨#[]⟩ = Value.string (txt []) from rfl, run_eql_struct, show (10000 : Nat) = 9999 + 1 from rfl, run_equalIn_agg W 9999 24 _ _ (by simp only [Program.fieldsOf, Tryz.underlying24]) (by kernel_rfl)]
 simp only [Program.fieldsOf, Tryz.underlying24]
 simp only [Op.eqFields]
 go_simp
 simp only [txt_toList]
 by_cases h1 : a.kind = 0 <;> by_cases h2 : a.num = 0 <;> by_cases h3 : a.text = [] <;> simp [h1, h2, h3]
theorem root_dec (a : NdD) (f : NdF) (h : rgtX (a, f) = true) : rootB (a, f) = (decide (a.name = [] ∧ a.key = []) && decide (a.kind = 0 ∧ a.num = 0 ∧ a.text = [])) := by
 unfold rootB
 rw [h, Bool.true_and]
 have e : ((a, f) : Nd).1 = zeroT ↔ (a.name = [] ∧ a.key = []) ∧ a.kind = 0 ∧ a.num = 0 ∧ a.text = [] := by
  obtain ⟨nm, ky, kd, nu, tx⟩ := a
  simp only [zeroT, NdD.mk.injEq]
  constructor
  ·rintro ⟨h1, h2, h3, h4, h5⟩; exact ⟨⟨h1, h2⟩, h3, h4, h5⟩
  ·rintro ⟨⟨h1, h2⟩, h3, h4, h5⟩; exact ⟨h1, h2, h3, h4, h5⟩
 rw [← Bool.decide_and]
 exact decide_eq_decide.2 e
theorem visroot_any (a : NdD) (f : NdF) (A : Option Addr) (c : Nat) (w : World) (hrow : RowT w.heap.size w (.slice A f.len c) f) (hf : f.size ≤ 1000000) :
  Calls Tryz.prog 51 #[.agg (cN a (.slice A f.len c))] w (Ans9 (.bool (rootB (a, f))) w) := by
 have hal : Below w.heap.size w (w.alloc (.cells (cN a (.slice A f.len c)) 27)) := bAl
 have HBK := hHd (Blk.new w 27 (cN a (.slice A f.len c)))
 have HR := hHd (drightf_any f a A c (w.alloc (.cells (cN a (.slice A f.len c)) 27)) (hrow.under hal (Nat.le_refl _) hal.size) hf)
 have HAL := hHd hal
 have e1 := fun W => step_eq0 a W
 have e2 := fun W => val_eq0 a W
 clear hrow hf hal
 obtain ⟨q0, q1, q2, q3, q4, q5⟩ := cl6 HBK.out
 go_enter Tryz.func51, Tryz.ntmps51
 go_wp2_with fail
 refine HR.out.mono ?_
 rintro r w2 ⟨rfl, hb2⟩
 clear q0 q1 q2 q3 q4 q5
 have HB2 := hHd (HAL.out.trans (hb2.mono HAL.out.size))
 have HBK2 := hHd (HBK.out.below hb2 HBK.out.lt)
 clear hb2
 cases hr : rgtX (a, f) with
 | false =>
  have HX : Hid (rootB (a, f) = false) := hHd (by unfold rootB; rw [hr]; rfl)
  clear hr
  go_wp2
  go_ret
  exact ⟨by rw [HX.out]; rfl, HB2.out⟩
 | true =>
  have HX := hHd (root_dec a f hr)
  clear hr
  obtain ⟨q0, q1, q2, q3, q4, q5⟩ := cl6 HBK2.out
  go_wp2_with fail
  refine (vstepof_any a (.slice A f.len c) _).mono ?_
  rintro r w3 ⟨rfl, hb3⟩
  clear q0 q1 q2 q3 q4 q5
  have HB3 := hHd (HB2.out.trans (hb3.mono HB2.out.size))
  have HBK3 := hHd (HBK2.out.below hb3 HBK2.out.lt)
  clear hb3
  obtain ⟨q0, q1, q2, q3, q4, q5⟩ := cl6 HBK3.out
  cases h1 : decide (a.name = [] ∧ a.key = []) with
  | false =>
   rw [h1] at HX
   simp only [h1] at e1
   clear h1
   go_wp2
   go_ret
   exact ⟨by rw [HX.out]; rfl, HB3.out⟩
  | true =>
   rw [h1, Bool.true_and] at HX
   simp only [h1] at e1
   clear h1
   go_wp2
   go_ret
   exact ⟨by rw [HX.out, Bool.decide_and, Bool.decide_and]; rfl, HB3.out⟩
end
structure ChD where
 kind : Nat
 name : List UInt8
 kid : SpD
abbrev ChF := Fr ChD
def supdF (i : Nat) (y : Sp) (f : SpF) : SpF := (Fr.take i f).app (.cons y.1 y.2 (Fr.drop (i + 1) f))
theorem supdF_len {i : Nat} {y : Sp} {f : SpF} (h : i < f.len) : (supdF i y f).len = f.len := by
 unfold supdF
 rw [Fr.len_app, Fr.len_take i f (by omega), Fr.len_cons, Fr.len_drop]
 omega
def runC : ChF → Sp → Sp
 | .nil, x => x
 | .cons d k r, x => runC r (
   if d.kind = 0 then ({ x.1 with name := d.name }, x.2)
   else if d.kind = 1 then (x.1, x.2.app (.cons d.kid .nil .nil))
   else match findX d.name x.2 with
    | none => x
    | some i => match x.2.get? i with
     | none => x
     | some y => (x.1, supdF i (runC k y) x.2))
def stepC (d : ChD) (k : ChF) (x : Sp) : Sp :=
 if d.kind = 0 then ({ x.1 with name := d.name }, x.2)
 else if d.kind = 1 then (x.1, x.2.app (.cons d.kid .nil .nil))
 else match findX d.name x.2 with
  | none => x
  | some i => match x.2.get? i with
   | none => x
   | some y => (x.1, supdF i (runC k y) x.2)
def okC : ChF → Sp → Bool
 | .nil, x => decide (x.2.len ≤ 100)
 | .cons d k r, x => decide (x.2.len ≤ 100) && (
   if d.kind = 0 then true
   else if d.kind = 1 then (match findX d.name x.2 with
    | none => false
    | some i => decide (i + 1 = x.2.len))
   else match findX d.name x.2 with
    | none => false
    | some i => match x.2.get? i with
     | none => false
     | some y => decide (k.len ≤ 1000) && okC k y) && okC r (stepC d k x)
theorem okC_few {f : ChF} {x : Sp} (h : okC f x = true) : x.2.len ≤ 100 := by
 cases f with
 | nil => simpa [okC] using h
 | cons d k r => simp only [okC, Bool.and_eq_true, decide_eq_true_eq] at h; exact h.1.1
theorem okC_cons {d : ChD} {k r : ChF} {x : Sp} (h : okC (.cons d k r) x = true) : okC r (stepC d k x) = true := by
 simp only [okC, Bool.and_eq_true, decide_eq_true_eq] at h; exact h.2
theorem okC_one {d : ChD} {k r : ChF} {x : Sp} (h : okC (.cons d k r) x = true) (h1 : d.kind = 1) : ∃ i, findX d.name x.2 = some i ∧ i + 1 = x.2.len ∧ stepC d k x = (x.1, x.2.app (.cons d.kid .nil .nil)) := by
 simp only [okC, Bool.and_eq_true, decide_eq_true_eq] at h
 obtain ⟨⟨_, h⟩, _⟩ := h
 rw [if_neg (by omega), if_pos h1] at h
 cases e : findX d.name x.2 with
 | none => rw [e] at h; cases h
 | some i =>
  rw [e] at h
  exact ⟨i, rfl, by simpa using h, by unfold stepC; rw [if_neg (by omega), if_pos h1]⟩
theorem okC_two {d : ChD} {k r : ChF} {x : Sp} (h : okC (.cons d k r) x = true) (h1 : d.kind ≠ 0) (h2 : d.kind ≠ 1) : ∃ i y, findX d.name x.2 = some i ∧ x.2.get? i = some y ∧ (k.len ≤ 1000 ∧ okC k y = true) ∧ stepC d k x = (x.1, supdF i (runC k y) x.2) := by
 simp only [okC, Bool.and_eq_true, decide_eq_true_eq] at h
 obtain ⟨⟨_, h⟩, _⟩ := h
 rw [if_neg h1, if_neg h2] at h
 cases e : findX d.name x.2 with
 | none => rw [e] at h; cases h
 | some i =>
  rw [e] at h
  simp only at h
  cases e2 : x.2.get? i with
  | none => rw [e2] at h; cases h
  | some y =>
   rw [e2] at h
   exact ⟨i, y, rfl, e2, by simpa using h, by unfold stepC; rw [if_neg h1, if_neg h2, e]; simp only [e2]⟩
theorem stepC_zero {d : ChD} {k : ChF} {x : Sp} (h : d.kind = 0) : stepC d k x = ({ x.1 with name := d.name }, x.2) := by unfold stepC; rw [if_pos h]
def chAfter (n : List UInt8) (a : SpD) (r : ChF) : ChF := .cons ⟨1, n, a⟩ .nil r
def chIn (n : List UInt8) (k r : ChF) : ChF := .cons ⟨2, n, zeroD⟩ k r
def chNamed (n : List UInt8) (r : ChF) : ChF := .cons ⟨0, n, zeroD⟩ .nil r
def chSecond : ChF := chIn nPort (chIn nClass (chAfter nLimit (leafD nShaped 3 true) .nil) (chAfter nDefault kindD .nil)) .nil
def chThird : ChF := chIn nPort (chIn nClass (chIn nLimit (chNamed nDepth .nil) .nil) .nil) (chAfter nPort ⟨nWait, 1, 1, 1, 1000, [], false, 0⟩ .nil)
theorem second_is : runC chSecond (rootD, rootF 1) = (rootD, rootF 2) := by decide
theorem third_is : runC chThird (rootD, rootF 2) = (rootD, rootF 3) := by decide
theorem second_ok : okC chSecond (rootD, rootF 1) = true := by decide
theorem third_ok : okC chThird (rootD, rootF 2) = true := by decide
end Go.Proofs.YtodlhgflfcadmaaGreat
