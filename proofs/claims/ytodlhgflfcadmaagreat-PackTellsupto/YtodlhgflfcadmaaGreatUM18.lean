/- VadRfs -/
import Derived.Test.YtodlhgflfcadmaaGreatUM17
import Derived.Laws.EntriesVeiled
set_option linter.unusedSimpArgs false
set_option linter.unusedVariables false
set_option maxRecDepth 100000
set_option maxHeartbeats 8000000
namespace Go.Proofs.YtodlhgflfcadmaaGreat
open Go.RowKit
section
attribute [local go_sem] Oper.semAt_some
abbrev Rf := List Stp × List UInt8
def refO (ahead : List Stp) : Option Nd → List Rf
 | none => []
 | some y => [(ahead ++ [stp y.1], y.1.text)]
def refR (y : Nd) : List Rf := refO [stp y.1] (kidO nClass y.2)
def refsL (k : NdF) : List Rf := refO [] (kidO nDefault k) ++ (kidsOf nRule k).flatMap refR
def EncR (B : Nat) (x : Rf) (args : Array Value) (W : World) : Prop := ∃ v, args = #[v, .string (txt x.2)] ∧ OwnS B W v x.1
theorem goY_bool {α : Type} {B : Nat} {N : Nat → Prop} {J Jx : List α → World → Prop} {xs : List α} {W1 W' : World} {e : Ending} (h : GoY B N J Jx xs W1 e W') :
  ∃ bb, e = .returned (.bool bb) ∧ (bb = true → J xs W' ∧ KeepN N B W1 W') ∧ (bb = false → Jx xs W' ∧ KeepsFrom B W1 W') := by
 rcases h with ⟨h1, h2, h3⟩ | ⟨h1, h2, h3⟩
 ·exact ⟨true, h1, fun _ => ⟨h2, h3⟩, fun h => (by cases h)⟩
 ·exact ⟨false, h1, fun h => (by cases h), fun _ => ⟨h2, h3⟩⟩
theorem keepN_st {N : Nat → Prop} {m : Nat} {A : World} {B : Nat} (hB : A.heap.size ≤ B) : StB B (fun V => KeepN N m A V) := fun X Y h hb =>
 ⟨hb.os.trans h.os, hb.tape.trans h.tape, hb.output.trans h.output, Nat.le_trans h.size hb.size, fun k hk hn => (hb.block k (by omega)).trans (h.block k hk hn)⟩
theorem OwnFrom.le {β : Type} {B B' : Nat} {I : β → World → Prop} (h : OwnFrom B I) (hb : B ≤ B') : OwnFrom B' I := fun s X Y row hs hg hr => h s X Y row hs hg (fun r e => ⟨Nat.le_trans hb (hr r e).1, (hr r e).2⟩)
theorem refs_any (a : NdD) (u : Value) (w : World) :
  Calls Tryz.prog 89 #[.agg (cN a u)] w fun r w' => r = .returned (.func (.func 109) #[] #[.pointer (some ⟨w.heap.size, 0, none⟩)]) ∧ w' = w.alloc (.cells (cN a u) 27) := by
 go_enter Tryz.func89, Tryz.ntmps89
 go_wp2
 go_ret
 exact ⟨rfl, rfl⟩
theorem LieB.row9 {b : Nat} {w : World} {a : NdD} {f : NdF} {A : Option Addr} {c : Nat} (h : LieB b w (ndC a (.slice A f.len c)) (a, f)) : RowT b w (.slice A f.len c) f := LieB.row h
def RfsA (b B : Nat) (tm : Array Value) (x : Nd) (a : Act) (V : World) : Prop := ∃ (Bx c : Nat) (A : Option Addr), B ≤ Bx ∧ Blk V Bx 27 (ndC x.1 (.slice A x.2.len c)).toArray ∧ LieB b V (ndC x.1 (.slice A x.2.len c)) x ∧
 a = { tmps := (tm.setIfInBounds 27 (.agg (ndC x.1 (.slice A x.2.len c)).toArray)).setIfInBounds 5 (.pointer (some ⟨Bx, 0, none⟩)), defers := [] }
theorem rfsA_own (b B : Nat) (tm : Array Value) (x : Nd) (a : Act) (hb : b ≤ B) : OwnFrom B (fun (_ : Unit) V => RfsA b B tm x a V) := by
 rintro s X Y row ⟨Bx, c, A, h1, h2, h3, h4⟩ hg hr
 exact ⟨Bx, c, A, h1, h2.obj hg (fun r e => (hr r e).2), h3.keep (fun g hg' => hg.block g (by have := h2.lt; omega) (fun e => by have := (hr g e.symm).1; omega)) (Nat.le_refl _), h4⟩
def RfsP (f : NdF) (J Jx : List Rf → World → Prop) (e : Ending) (W' : World) : Prop := (∃ v, e = .returned v) ∧ (J (refsL f) W' ∨ ∃ pre x post, refsL f = pre ++ x :: post ∧ Jx (pre ++ [x]) W')
structure RfsH (b g1 l : Nat) (f : NdF) (N : Nat → Prop) (J Jx : List Rf → World → Prop) (W : World) : Prop where
 n0 : ∀ k, k < b → N k
 n1 : N g1
 bw : b ≤ W.heap.size
 few : f.size ≤ 1000000
 st : ∀ s, StB W.heap.size (J s)
 own : OwnFrom W.heap.size Jx
 yl : ∀ pre x post args W1, refsL f = pre ++ x :: post → J pre W1 → EncR W.heap.size x args W1 → ∀ m, YieldAt Fence.wide m Tryz.prog l args W1 (GoY W.heap.size N J Jx (pre ++ [x]) W1)
theorem wpIn_act {F : Fence} {n : Nat} {P : Program} {c : Code} {Q : Exit → Act → World → Prop} {a : Act} {w : World} (h : ∀ act, act = a → c.wpIn F n P Q act w) : c.wpIn F n P Q a w := h a rfl
theorem refs_cut {f : NdF} {pre post : List Nd} {x : Nd} (h : kidsOf nRule f = pre ++ x :: post) : refsL f = (refO [] (kidO nDefault f) ++ pre.flatMap refR) ++ (refR x ++ post.flatMap refR) := by
 unfold refsL
 rw [h]
 simp
theorem refs1_none (a : NdD) (f : NdF) (A : Option Addr) (c b g1 l : Nat) (N : Nat → Prop) (J Jx : List Rf → World → Prop) (W : World)
  (hrow : RowT b W (.slice A f.len c) f) (hb1 : Blk W g1 27 (cN a (.slice A f.len c))) (hh : RfsH b g1 l f N J Jx W) (h0 : J [] W) (hd : kidO nDefault f = none) :
  CallsIn Fence.wide 9 Tryz.prog 109 #[.func (.yield l) #[] #[], .pointer (some ⟨g1, 0, none⟩)] W (RfsP f J Jx) := by
 obtain ⟨HN, HN1, HBW, hfew, HJ, HJx, HY⟩ := hh
 have HNN := hHd (And.intro HN HN1)
 replace HJ := hHd HJ
 replace HY := hHd HY
 replace HJx := hHd HJx
 replace HBW := hHd HBW
 have HFEW := hHd hfew
 have HROW := hHd hrow
 have HB1 := hHd hb1
 have hal : Below W.heap.size W (W.alloc (.cells #[.func (.yield l) #[] #[]] 156)) := bAl
 have HYB := hHd (Blk.new W 156 #[.func (.yield l) #[] #[]])
 have HBA := hHd (hb1.below hal hb1.lt)
 have HKEY := hHd (keyless_any nDefault a f A c (W.alloc (.cells #[.func (.yield l) #[] #[]] 156)) (hrow.under hal HBW.out (Nat.le_trans HBW.out hal.size)) hfew)
 have HAL := hHd hal
 clear HN HN1 hrow hb1 hfew hal
 obtain ⟨q0, q1, q2, q3, q4, q5⟩ := cl6 HBA.out
 refine callsIn_of_wp_marks Tryz.func109 rfl trivial ?_ rfl
 simp only [Tryz.ntmps109, List.size_toArray, List.length_cons, List.length_nil, Nat.reduceAdd, Nat.reduceSub, Array.replicate_succ, Array.replicate_zero, List.push_toArray, List.append_toArray, List.nil_append, List.cons_append]
 gi_wp2_with fail
 refine ⟨trivial, calls_wideR (ro := none) (HKEY.out.mono ?_)⟩
 intro r W2 hr
 rw [hd] at hr
 obtain ⟨A2, c2, rfl, hl2, hb2⟩ := RTreP.flat (a := zeroT) (f := .nil) hr
 clear hr hl2
 clear q0 q1 q2 q3 q4 q5
 gi_wp2_with fail
 have HA2 := hHd (HAL.out.trans (hb2.mono HAL.out.size))
 have HY2 := hHd (HYB.out.below hb2 HYB.out.lt)
 clear hb2
 refine wpIn_region_calm (ro := none) ?_
 refine wpIn_region_heldI [] (S := fun _ => True) (by kernel_rfl) trivial (fun hS => ?_)
 refine tkI 0 [0, 1, 2, 3, 4, 5, 6, 7, 8, 9, 10, 11] hS ?_
 refine tkI 1 [1, 2, 3, 4, 5, 6, 7, 8, 9, 10, 11] hS ?_
 refine tkIo 2 [2, 9, 10, 11] hS ?_
 refine tkIo 3 [3, 4, 5, 9, 10, 11] hS ?_
 refine tkIo 4 [4, 5, 9, 10, 11] hS ?_
 refine tkIo 5 [5, 9, 10, 11] hS ?_
 refine tkIo 6 [6, 7, 8, 9, 10, 11] hS ?_
 refine tkIo 7 [7, 8, 9, 10, 11] hS ?_
 refine tkIo 8 [8, 9, 10, 11] hS ?_
 refine tkIo 9 [9, 10, 11] hS ?_
 refine tkIo 10 [10, 11] hS ?_
 refine tkI 11 [11] hS ?_
 refine heldI_done (by kernel_rfl) ?_ _
 refine NoPanic.normal ?_
 clear hS
 have hst : Below W.heap.size W (W2.alloc (.cells #[.string (txt []), .string (txt []), .int .i64 0, .int .u64 0, .string (txt []), .slice A2 (Fr.nil (α := NdD)).len c2] 27)).drew := ((HA2.out.alloc HA2.out.size _)).drew
 have HKT0 : Hid (KeepN N W.heap.size W (W2.alloc (.cells #[.string (txt []), .string (txt []), .int .i64 0, .int .u64 0, .string (txt []), .slice A2 (Fr.nil (α := NdD)).len c2] 27)).drew) := hHd (KeepN.below hst)
 have H1560 : Hid (Blk (W2.alloc (.cells #[.string (txt []), .string (txt []), .int .i64 0, .int .u64 0, .string (txt []), .slice A2 (Fr.nil (α := NdD)).len c2] 27)).drew W.heap.size 156 #[.func (.yield l) #[] #[]]) := hHd (HY2.out.alloc _)
 have HJT0 : Hid (J [] (W2.alloc (.cells #[.string (txt []), .string (txt []), .int .i64 0, .int .u64 0, .string (txt []), .slice A2 (Fr.nil (α := NdD)).len c2] 27)).drew) := hHd (HJ.out _ _ _ h0 hst)
 clear hst
 obtain ⟨Wt, hWt⟩ : ∃ Wt, Wt = (W2.alloc (.cells #[.string (txt []), .string (txt []), .int .i64 0, .int .u64 0, .string (txt []), .slice A2 (Fr.nil (α := NdD)).len c2] 27)).drew := ⟨_, rfl⟩
 rw [← hWt] at HKT0 HJT0 H1560 ⊢
 clear hWt
 have HBT := hHd (HKT0.out.blk HB1.out HNN.out.2)
 obtain ⟨q0, q1, q2, q3, q4, q5⟩ := cl6 HBT.out
 gi_wp2_with fail
 refine ⟨trivial, calls_wideR (ro := none) ((vnamed_any _ _ nRule _).mono ?_)⟩
 rintro e w' ⟨rfl, rfl⟩
 clear q0 q1 q2 q3 q4 q5
 gi_wp2_with fail
 refine wpIn_act ?_
 intro act hact
 obtain ⟨V0, hV0⟩ : ∃ V0, V0 = (Wt.alloc (.cells (cN a (.slice A f.len c)) 27)).alloc (.cells #[.string (txt nRule)] 9) := ⟨_, rfl⟩
 rw [← hV0]
 have hs : V0.heap.size = Wt.heap.size + 2 := by rw [hV0]; simp
 have hbt : Below Wt.heap.size Wt V0 := by rw [hV0]; exact bAl.alloc (by simp) _
 have hKV : KeepN N W.heap.size W V0 := HKT0.out.trans (KeepN.below hbt)
 have hbV : b ≤ V0.heap.size := Nat.le_trans HBW.out hKV.size
 have hJV : J ([] : List Rf) V0 := HJ.out _ _ _ HJT0.out (hbt.mono HKT0.out.size)
 have hYV := H1560.out.below hbt H1560.out.lt
 have hgA : Blk V0 Wt.heap.size 27 (cN a (.slice A f.len c)) := by rw [hV0]; exact (Blk.new Wt _ _).alloc _
 have hgB : Blk V0 (Wt.heap.size + 1) 9 #[.string (txt nRule)] := by rw [hV0]; exact Blk.newA (by simp) _ _
 have hrV : RowT b V0 (.slice A f.len c) f := HROW.out.keep (fun g hg => hKV.at (HNN.out.1 g hg) (by have := HBW.out; omega)) (Nat.le_refl _)
 have hseq := named_seq nRule a f A c b Wt.heap.size (Wt.heap.size + 1) (fun k => k < b ∨ k = Wt.heap.size ∨ k = Wt.heap.size + 1) V0 hrV hgA hgB (fun k hk => .inl hk) (.inr (.inl rfl)) (.inr (.inr rfl)) hbV (by have := Fr.len_size f; have := HFEW.out; omega)
 have HACT := hHd hact
 have HS := hHd hs
 have HKV := hHd hKV
 have HYV := hHd hYV
 have HBV := hHd hbV
 have HD := hHd hd
 have hWV : W.heap.size ≤ V0.heap.size := hKV.size
 have HWV := hHd hWV
 refine wpIn_range_go (by decide) (by rw [hact]; rfl) (Go.Proofs.enters_of Tryz.func108 (by kernel_rfl) rfl) hseq (Below.refl _ _) (by intro k hk; omega) (fun B x args W h => by obtain ⟨cs, rfl, _⟩ := h; rfl) (fun B B' x args W _ h => h)
  (fun pre V => J (([] : List Rf) ++ pre.flatMap refR) V ∧ KeepN N W.heap.size V0 V) (fun c pre V => c = .ret ∧ ∃ p x q, refsL f = p ++ x :: q ∧ Jx (p ++ [x]) V)
  (fun s X Y h hb => ⟨HJ.out _ _ _ h.1 (hb.mono hWV), keepN_st (Nat.le_refl _) X Y h.2 hb⟩) (fun c s X Y row h hg hr => ⟨h.1, by obtain ⟨p, x, q, h2, h3⟩ := h.2; exact ⟨p, x, q, h2, OwnFrom.le HJx.out hWV _ X Y row h3 hg hr⟩⟩) ⟨by simpa using hJV, KeepN.refl _ _ _⟩
  (RfsA b V0.heap.size act.tmps) (fun x a' => rfsA_own b V0.heap.size act.tmps x a' hbV) ?assign ?body ?done ?stop
 all_goals clear hact hV0 hs hbt hKV hbV hJV hYV hgA hgB hrV hseq hWV h0
 case assign =>
  rintro l' pre x args V K hI ⟨cs, rfl, hx⟩ hK
  obtain ⟨A', c', rfl, hr'⟩ := hx.shape
  obtain ⟨y, k⟩ := x
  rw [HACT.out] at hK ⊢
  gi_wp2
  have hal : Below V.heap.size V (V.alloc (.cells (ndC y (.slice A' k.len c')).toArray 27)) := bAl
  refine hK _ _ ((KeepsOthers.alloc _ _).from _) (KeepN.below hal) ⟨HJ.out _ _ _ hI.1 (hal.mono (Nat.le_trans HWV.out hI.2.size)), hI.2.trans (KeepN.below hal)⟩ ⟨V.heap.size, c', A', hI.2.size, Blk.new _ _ _, hx.under hal (Nat.le_trans HBV.out hI.2.size) (Nat.le_refl _), rfl⟩
 case body =>
  rintro l' pre x post a' V hl hlr hxs hI ⟨Bx, c', A', hBx, hblk, hlie, rfl⟩
  obtain ⟨y, k⟩ := x
  rw [HACT.out]
  simp only [List.setIfInBounds_toArray, List.set_cons_succ, List.set_cons_zero]
  have hks : k.size ≤ 1000000 := by
   obtain ⟨i, hi, _⟩ := kidsOf_mem (nm := nRule) (f := f) (y := (y, k)) (by rw [hxs]; simp)
   have := Fr.size_get hi
   have := HFEW.out
   omega
  have hbl : b ≤ V.heap.size := Nat.le_trans HBV.out hI.2.size
  have HKC := hHd (keyless_any nClass y k A' c' V (hlie.row9.under (Below.refl _ _) hbl hbl) hks)
  have HI := hHd hI
  have HXS := hHd (refs_cut hxs)
  have HBK : Hid (Blk V Bx 27 (cN y (.slice A' k.len c'))) := hHd hblk
  have HYR : Hid (Blk V W.heap.size 156 #[.func (.yield l) #[] #[]]) := hHd (hI.2.blkm HYV.out (Nat.le_refl _))
  clear hI hxs hblk hlie hks hbl
  obtain ⟨q0, q1, q2, q3, q4, q5⟩ := cl6 HBK.out
  gi_wp2_with fail
  refine ⟨trivial, calls_wideR (ro := some l') (HKC.out.mono ?_)⟩
  intro r V2 hr
  cases hk : kidO nClass k with
  | none =>
   rw [hk] at hr
   obtain ⟨A2, c2, rfl, hl2, hb2⟩ := RTreP.flat (a := zeroT) (f := .nil) hr
   clear hr hl2 q0 q1 q2 q3 q4 q5
   gi_wp2_with fail
   have HB3 : Hid (Below V.heap.size V (V2.alloc (.cells #[.string (txt []), .string (txt []), .int .i64 0, .int .u64 0, .string (txt []), .slice A2 (Fr.nil (α := NdD)).len c2] 27)).drew) := hHd ((hb2.alloc hb2.size _).drew)
   clear hb2
   refine wpIn_region_calm (ro := (some l')) ?_
   refine wpIn_region_heldI [] (S := fun _ => True) (by kernel_rfl) trivial (fun hS => ?_)
   refine tkI 0 [0, 1, 2, 3, 4, 5, 6, 7, 8, 9, 10, 11, 12, 13] hS ?_
   refine tkI 1 [1, 2, 3, 4, 5, 6, 7, 8, 9, 10, 11, 12, 13] hS ?_
   refine tkIo 2 [2, 11, 12, 13] hS ?_
   refine tkIo 3 [3, 4, 6, 7, 11, 12, 13] hS ?_
   refine tkIo 4 [4, 6, 7, 11, 12, 13] hS ?_
   refine tkIo 5 [5, 6, 7, 11, 12, 13] hS ?_
   refine tkIo 6 [6, 7, 11, 12, 13] hS ?_
   refine tkIo 7 [7, 11, 12, 13] hS ?_
   refine tkIo 8 [8, 9, 10, 11, 12, 13] hS ?_
   refine tkIo 9 [9, 10, 11, 12, 13] hS ?_
   refine tkIo 10 [10, 11, 12, 13] hS ?_
   refine tkIo 11 [11, 12, 13] hS ?_
   refine tkIo 12 [12, 13] hS ?_
   refine tkI 13 [13] hS ?_
   refine heldI_done (by kernel_rfl) ?_ _
   refine NoPanic.normal ?_
   clear hS
   gi_wp2
   refine ⟨KeepN.below HB3.out, ?_, ?_⟩
   ·rw [List.flatMap_append]
    have e : List.flatMap refR [((y, k) : Nd)] = [] := by simp [refR, hk, refO]
    rw [e, List.append_nil]
    exact HJ.out _ _ _ HI.out.1 (HB3.out.mono (Nat.le_trans HWV.out HI.out.2.size))
   ·exact HI.out.2.trans (KeepN.below HB3.out)
  | some z =>
   obtain ⟨za, zk⟩ := z
   rw [hk] at hr
   obtain ⟨A2, c2, rfl, hl2, hb2⟩ := RTreP.flat (a := za) (f := zk) hr
   clear hr hl2 q0 q1 q2 q3 q4 q5
   have HKK := hHd hk
   clear hk
   gi_wp2_with fail
   have hb3 : Below V.heap.size V (V2.alloc (.cells (cN za (.slice A2 zk.len c2)) 27)).drew := (hb2.alloc hb2.size _).drew
   have hV2 : V.heap.size ≤ V2.heap.size := hb2.size
   have HS0 : Hid (Blk (V2.alloc (.cells (cN za (.slice A2 zk.len c2)) 27)).drew Bx 27 (cN y (.slice A' k.len c')) ∧ Blk (V2.alloc (.cells (cN za (.slice A2 zk.len c2)) 27)).drew V2.heap.size 27 (cN za (.slice A2 zk.len c2)) ∧ Blk (V2.alloc (.cells (cN za (.slice A2 zk.len c2)) 27)).drew W.heap.size 156 #[.func (.yield l) #[] #[]]) := hHd ⟨HBK.out.below hb3 HBK.out.lt, Blk.new V2 27 (cN za (.slice A2 zk.len c2)), HYR.out.below hb3 HYR.out.lt⟩
   have HB3 := hHd hb3
   clear hb2 hb3 hV2
   refine wpIn_region_calm (ro := (some l')) ?_
   refine wpIn_region_heldI [11] (S := fun _ => True) (by kernel_rfl) trivial (fun hS => ?_)
   refine tkI 0 [0, 1, 2, 3, 4, 5, 6, 7, 8, 9, 10, 11, 12, 13] hS ?_
   refine tkI 1 [1, 2, 3, 4, 5, 6, 7, 8, 9, 10, 11, 12, 13] hS ?_
   refine heldI_more (S' := fun w' => Blk w' Bx 27 (cN y (.slice A' k.len c')) ∧ Blk w' V2.heap.size 27 (cN za (.slice A2 zk.len c2)) ∧ Blk w' W.heap.size 156 #[.func (.yield l) #[] #[]]) (fun _ _ => trivial) _ _ _ _ ?_
   replace hS := HS0.out
   refine tkI 2 [2, 11, 12, 13] hS ?_ (hy := fun w hSw => by have y0 := (hSw.2.2.cell 0).trans rfl; (go_simp <;> with_reducible rfl))
   refine tkI 3 [3, 4, 6, 7, 11, 12, 13] hS ?_ (hy := fun w hSw => by obtain ⟨q0, q1, q2, q3, q4, q5⟩ := cl6 hSw.1; (go_simp <;> with_reducible rfl))
   refine tkI 5 [5, 6, 7, 11, 12, 13] hS ?_ (hy := fun w hSw => by obtain ⟨q0, q1, q2, q3, q4, q5⟩ := cl6 hSw.2.1; (go_simp <;> with_reducible rfl))
   refine tkI 8 [8, 9, 10, 11, 12, 13] hS ?_
   refine tkI 9 [9, 10, 11, 12, 13] hS ?_
   refine tkI 10 [10, 11, 12, 13] hS ?_ (hy := fun w hSw => by obtain ⟨q0, q1, q2, q3, q4, q5⟩ := cl6 hSw.2.1; (go_simp <;> with_reducible rfl))
   refine rdyI [4] (riC (fun K hK => ?_) .nil)
   refine opIn_of (by kernel_rfl) ?_
   go_simp
   refine (vstepof_any y _ _).mono ?_
   rintro r w4 ⟨rfl, hb⟩
   have HB4 := hHd (HB3.out.trans (hb.mono HB3.out.size))
   have HS4 := hHd (And.intro (HS0.out.1.below hb HS0.out.1.lt) (And.intro (HS0.out.2.1.below hb HS0.out.2.1.lt) (HS0.out.2.2.below hb HS0.out.2.2.lt)))
   clear hb
   go_wp2_with fail
   refine hK.out _ _ ?sr_0 (fun hS => ?_)
   case sr_0 => (exact HS4.out)
   clear hK K
   (try simp only [Act.put, layS])
   refine rdyI [6] (riC (fun K hK => ?_) .nil)
   refine opIn_of (by kernel_rfl) ?_
   go_simp
   refine (vstepof_any za _ _).mono ?_
   rintro r w6 ⟨rfl, hb⟩
   have HB6 := hHd (HB4.out.trans (hb.mono HB4.out.size))
   have HS6 := hHd (And.intro (HS4.out.1.below hb HS4.out.1.lt) (And.intro (HS4.out.2.1.below hb HS4.out.2.1.lt) (HS4.out.2.2.below hb HS4.out.2.2.lt)))
   clear hb
   go_wp2_with fail
   refine hK.out _ _ ?sr_1 (fun hS => ?_)
   case sr_1 => (exact HS6.out)
   clear hK K
   (try simp only [Act.put, layS])
   refine rdyI [7] (riC (fun K hK => ?_) .nil)
   refine opIn_of (by kernel_rfl) ?_
   go_simp
   refine hK.out _ _ ?sr_2 (fun hS => ?_)
   case sr_2 => (exact And.intro (HS6.out.1.alloc _) (And.intro (HS6.out.2.1.alloc _) (HS6.out.2.2.alloc _)))
   clear hK K
   (try simp only [Act.put, layS])
   refine rdyI [11] (riD (fun K hK => ?_) .nil)
   have HB7 : Hid (Below V.heap.size V (w6.alloc (.cells #[.string (txt y.name), .string (txt y.key), .string (txt za.name), .string (txt za.key)] 125))) := hHd (HB6.out.alloc HB6.out.size _)
   have HRX : Hid (refR (y, k) = [([stp y, stp za], za.text)]) := hHd (by simp [refR, HKK.out, refO])
   have HYC := hHd (HY.out (([] : List Rf) ++ pre.flatMap refR) ([stp y, stp za], za.text) (post.flatMap refR) #[.slice (some ⟨w6.heap.size, 0, none⟩) 2 2, .string (txt za.text)] _ (by rw [HXS.out, HRX.out, HD.out]; rfl) (HJ.out _ _ _ HI.out.1 (HB7.out.mono (Nat.le_trans HWV.out HI.out.2.size))) ⟨_, rfl, OwnS.two (w := w6) (stp y) (stp za) (Nat.le_trans (Nat.le_trans HWV.out HI.out.2.size) HB6.out.size)⟩)
   refine opIn_yield (by kernel_rfl) (fun fn tmps assign body h => by simp [execOp, resolve, invoke, go_sem, h]) HYC.out (fun e w11 he => ?_)
   obtain ⟨bb, rfl, hT, hF⟩ := goY_bool he
   have HT := hHd hT
   have HF := hHd hF
   clear he hT hF
   refine ⟨_, rfl, ?_⟩
   refine hK.out _ _ ?_
   have hS : True := trivial
   clear hK K
   (try simp only [Act.put, layS])
   refine tkI 12 [12, 13] hS ?_
   refine tkI 13 [13] hS ?_
   refine heldI_done (by kernel_rfl) ?_ _
   refine NoPanic.normal ?_
   clear hS
   cases bb with
   | true =>
    have HJK := hHd (HT.out rfl)
    clear HT HF
    gi_wp2
    obtain ⟨hj, hk2⟩ := HJK.out
    have hb7 := HB7.out
    refine ⟨(KeepN.below hb7).trans (hk2.mono (fun k _ h => by
     rcases h with (h | h) | h
     ·exact .inl (HNN.out.1 k h)
     ·exact .inr (by have := HKT0.out.size; omega)
     ·exact .inr (Nat.le_trans HWV.out h))), ?_, HI.out.2.trans ((KeepN.below hb7).trans (hk2.mono (fun k _ h => h)))⟩
    rw [List.flatMap_append]
    have e : List.flatMap refR [((y, k) : Nd)] = [([stp y, stp za], za.text)] := by rw [List.flatMap_cons, HRX.out]; rfl
    rw [e, ← List.append_assoc]
    exact hj
   | false =>
    have HJK := hHd (HF.out rfl)
    clear HT HF
    gi_wp2
    obtain ⟨hj, hk2⟩ := HJK.out
    refine ⟨((KeepN.below (N := N) (m := V0.heap.size) HB7.out).from (Nat.le_refl _)).trans (keepsFrom_mono hk2 HWV.out), rfl, ([] : List Rf) ++ pre.flatMap refR, ([stp y, stp za], za.text), post.flatMap refR, ?_, hj⟩
    rw [HXS.out, HRX.out, HD.out]
    rfl
 case done =>
  intro D V hD hI hK
  rw [HACT.out]
  have HIJ : Hid (J (refsL f) (V.putObj D (.deferred none))) := hHd (by
   have h := (HJ.out _).putObj (l := D) (.deferred none) (by have := HWV.out; omega) hI.1
   have e : refsL f = ([] : List Rf) ++ (kidsOf nRule f).flatMap refR := by unfold refsL; rw [HD.out]; rfl
   rw [e]
   exact h)
  clear hI
  gi_wp2
  refine ⟨by simp, .inl ⟨_, _, rfl, run_takeDeferred hK, ?_⟩⟩
  exact ⟨_, results_none rfl _ _ _, ⟨_, rfl⟩, .inl HIJ.out⟩
 case stop =>
  rintro D c pre x post V hD hxs ⟨rfl, p, x', q, h2, h3⟩ hK
  rw [HACT.out]
  have h4 := OwnFrom.putObj HJx.out (s := p ++ [x']) (o' := .deferred none) h3 (by have := HWV.out; omega) hK rfl
  gi_wp2
  refine ⟨by simp, .inl ⟨_, _, rfl, run_takeDeferred hK, ?_⟩⟩
  exact ⟨_, results_none rfl _ _ _, ⟨_, rfl⟩, .inr ⟨p, x', q, h2, h4⟩⟩
theorem refs1_some (a : NdD) (f : NdF) (A : Option Addr) (c b g1 l : Nat) (N : Nat → Prop) (J Jx : List Rf → World → Prop) (W : World)
  (hrow : RowT b W (.slice A f.len c) f) (hb1 : Blk W g1 27 (cN a (.slice A f.len c))) (hh : RfsH b g1 l f N J Jx W) (h0 : J [] W) (da : NdD) (dk : NdF) (hd : kidO nDefault f = some (da, dk)) :
  CallsIn Fence.wide 9 Tryz.prog 109 #[.func (.yield l) #[] #[], .pointer (some ⟨g1, 0, none⟩)] W (RfsP f J Jx) := by
 obtain ⟨HN, HN1, HBW, hfew, HJ, HJx, HY⟩ := hh
 have HNN := hHd (And.intro HN HN1)
 replace HJ := hHd HJ
 replace HY := hHd HY
 replace HJx := hHd HJx
 replace HBW := hHd HBW
 have HFEW := hHd hfew
 have HROW := hHd hrow
 have HB1 := hHd hb1
 have hal : Below W.heap.size W (W.alloc (.cells #[.func (.yield l) #[] #[]] 156)) := bAl
 have HYB := hHd (Blk.new W 156 #[.func (.yield l) #[] #[]])
 have HBA := hHd (hb1.below hal hb1.lt)
 have HKEY := hHd (keyless_any nDefault a f A c (W.alloc (.cells #[.func (.yield l) #[] #[]] 156)) (hrow.under hal HBW.out (Nat.le_trans HBW.out hal.size)) hfew)
 have HAL := hHd hal
 clear HN HN1 hrow hb1 hfew hal
 obtain ⟨q0, q1, q2, q3, q4, q5⟩ := cl6 HBA.out
 refine callsIn_of_wp_marks Tryz.func109 rfl trivial ?_ rfl
 simp only [Tryz.ntmps109, List.size_toArray, List.length_cons, List.length_nil, Nat.reduceAdd, Nat.reduceSub, Array.replicate_succ, Array.replicate_zero, List.push_toArray, List.append_toArray, List.nil_append, List.cons_append]
 gi_wp2_with fail
 refine ⟨trivial, calls_wideR (ro := none) (HKEY.out.mono ?_)⟩
 intro r W2 hr
 rw [hd] at hr
 obtain ⟨A2, c2, rfl, hl2, hb2⟩ := RTreP.flat (a := da) (f := dk) hr
 clear hr hl2
 clear q0 q1 q2 q3 q4 q5
 gi_wp2_with fail
 have hb3 : Below W.heap.size W (W2.alloc (.cells (cN da (.slice A2 dk.len c2)) 27)).drew := ((HAL.out.trans (hb2.mono HAL.out.size)).alloc (Nat.le_trans HAL.out.size hb2.size) _).drew
 have HS0 : Hid (Blk (W2.alloc (.cells (cN da (.slice A2 dk.len c2)) 27)).drew W2.heap.size 27 (cN da (.slice A2 dk.len c2)) ∧ Blk (W2.alloc (.cells (cN da (.slice A2 dk.len c2)) 27)).drew W.heap.size 156 #[.func (.yield l) #[] #[]]) := hHd ⟨Blk.new W2 27 (cN da (.slice A2 dk.len c2)), (HYB.out.below hb2 HYB.out.lt).alloc _⟩
 have HB3 := hHd hb3
 clear hb2 hb3
 refine wpIn_region_calm (ro := none) ?_
 refine wpIn_region_heldI [9] (S := fun _ => True) (by kernel_rfl) trivial (fun hS => ?_)
 refine tkI 0 [0, 1, 2, 3, 4, 5, 6, 7, 8, 9, 10, 11] hS ?_
 refine tkI 1 [1, 2, 3, 4, 5, 6, 7, 8, 9, 10, 11] hS ?_
 refine heldI_more (S' := fun w' => Blk w' W2.heap.size 27 (cN da (.slice A2 dk.len c2)) ∧ Blk w' W.heap.size 156 #[.func (.yield l) #[] #[]]) (fun _ _ => trivial) _ _ _ _ ?_
 replace hS := HS0.out
 refine tkI 2 [2, 9, 10, 11] hS ?_ (hy := fun w hSw => by have y0 := (hSw.2.cell 0).trans rfl; (go_simp <;> with_reducible rfl))
 refine tkI 3 [3, 4, 5, 9, 10, 11] hS ?_ (hy := fun w hSw => by obtain ⟨q0, q1, q2, q3, q4, q5⟩ := cl6 hSw.1; (go_simp <;> with_reducible rfl))
 refine tkI 6 [6, 7, 8, 9, 10, 11] hS ?_
 refine tkI 7 [7, 8, 9, 10, 11] hS ?_
 refine tkI 8 [8, 9, 10, 11] hS ?_ (hy := fun w hSw => by obtain ⟨q0, q1, q2, q3, q4, q5⟩ := cl6 hSw.1; (go_simp <;> with_reducible rfl))
 refine rdyI [4] (riC (fun K hK => ?_) .nil)
 refine opIn_of (by kernel_rfl) ?_
 go_simp
 refine (vstepof_any da _ _).mono ?_
 rintro r w4 ⟨rfl, hb⟩
 have HB4 := hHd (HB3.out.trans (hb.mono HB3.out.size))
 have HS4 := hHd (And.intro (HS0.out.1.below hb HS0.out.1.lt) (HS0.out.2.below hb HS0.out.2.lt))
 clear hb
 go_wp2_with fail
 refine hK.out _ _ ?sr_4 (fun hS => ?_)
 case sr_4 => (exact HS4.out)
 clear hK K
 (try simp only [Act.put, layS])
 refine rdyI [5] (riC (fun K hK => ?_) .nil)
 refine opIn_of (by kernel_rfl) ?_
 go_simp
 refine hK.out _ _ ?sr_5 (fun hS => ?_)
 case sr_5 => (exact And.intro (HS4.out.1.alloc _) (HS4.out.2.alloc _))
 clear hK K
 (try simp only [Act.put, layS])
 refine rdyI [9] (riD (fun K hK => ?_) .nil)
 have HB5 : Hid (Below W.heap.size W (w4.alloc (.cells #[.string (txt da.name), .string (txt da.key)] 125))) := hHd (HB4.out.alloc HB4.out.size _)
 have HYC := hHd (HY.out [] ([stp da], da.text) ((kidsOf nRule f).flatMap refR) #[.slice (some ⟨w4.heap.size, 0, none⟩) 1 1, .string (txt da.text)] _ (by unfold refsL; rw [hd]; rfl) (HJ.out _ _ _ h0 HB5.out) ⟨_, rfl, OwnS.one (w := w4) (stp da) HB4.out.size⟩)
 refine opIn_yield (by kernel_rfl) (fun fn tmps assign body h => by simp [execOp, resolve, invoke, go_sem, h]) HYC.out (fun e w9 he => ?_)
 obtain ⟨bb, rfl, hT, hF⟩ := goY_bool he
 have HT := hHd hT
 have HF := hHd hF
 clear he hT hF
 refine ⟨_, rfl, ?_⟩
 refine hK.out _ _ ?_
 have hS : True := trivial
 clear hK K
 (try simp only [Act.put, layS])
 refine tkI 10 [10, 11] hS ?_
 refine tkI 11 [11] hS ?_
 refine heldI_done (by kernel_rfl) ?_ _
 refine NoPanic.normal ?_
 clear hS
 cases bb with
 | true =>
  have HJK := hHd (HT.out rfl)
  clear HT HF
  have HKT0 : Hid (KeepN N W.heap.size W w9) := hHd ((KeepN.below HB5.out).trans (HJK.out.2.mono (fun _ _ h => h)))
  have H1560 : Hid (Blk w9 W.heap.size 156 #[.func (.yield l) #[] #[]]) := hHd (HJK.out.2.blkm (HS4.out.2.alloc _) (Nat.le_refl _))
  have HJT0 : Hid (J [([stp da], da.text)] w9) := hHd HJK.out.1
  clear HJK
  obtain ⟨Wt, hWt⟩ : ∃ Wt, Wt = w9 := ⟨_, rfl⟩
  rw [← hWt] at HKT0 HJT0 H1560 ⊢
  clear hWt
  have HBT := hHd (HKT0.out.blk HB1.out HNN.out.2)
  obtain ⟨q0, q1, q2, q3, q4, q5⟩ := cl6 HBT.out
  gi_wp2_with fail
  refine ⟨trivial, calls_wideR (ro := none) ((vnamed_any _ _ nRule _).mono ?_)⟩
  rintro e w' ⟨rfl, rfl⟩
  clear q0 q1 q2 q3 q4 q5
  gi_wp2_with fail
  refine wpIn_act ?_
  intro act hact
  obtain ⟨V0, hV0⟩ : ∃ V0, V0 = (Wt.alloc (.cells (cN a (.slice A f.len c)) 27)).alloc (.cells #[.string (txt nRule)] 9) := ⟨_, rfl⟩
  rw [← hV0]
  have hs : V0.heap.size = Wt.heap.size + 2 := by rw [hV0]; simp
  have hbt : Below Wt.heap.size Wt V0 := by rw [hV0]; exact bAl.alloc (by simp) _
  have hKV : KeepN N W.heap.size W V0 := HKT0.out.trans (KeepN.below hbt)
  have hbV : b ≤ V0.heap.size := Nat.le_trans HBW.out hKV.size
  have hJV : J ([([stp da], da.text)] : List Rf) V0 := HJ.out _ _ _ HJT0.out (hbt.mono HKT0.out.size)
  have hYV := H1560.out.below hbt H1560.out.lt
  have hgA : Blk V0 Wt.heap.size 27 (cN a (.slice A f.len c)) := by rw [hV0]; exact (Blk.new Wt _ _).alloc _
  have hgB : Blk V0 (Wt.heap.size + 1) 9 #[.string (txt nRule)] := by rw [hV0]; exact Blk.newA (by simp) _ _
  have hrV : RowT b V0 (.slice A f.len c) f := HROW.out.keep (fun g hg => hKV.at (HNN.out.1 g hg) (by have := HBW.out; omega)) (Nat.le_refl _)
  have hseq := named_seq nRule a f A c b Wt.heap.size (Wt.heap.size + 1) (fun k => k < b ∨ k = Wt.heap.size ∨ k = Wt.heap.size + 1) V0 hrV hgA hgB (fun k hk => .inl hk) (.inr (.inl rfl)) (.inr (.inr rfl)) hbV (by have := Fr.len_size f; have := HFEW.out; omega)
  have HACT := hHd hact
  have HS := hHd hs
  have HKV := hHd hKV
  have HYV := hHd hYV
  have HBV := hHd hbV
  have HD := hHd hd
  have hWV : W.heap.size ≤ V0.heap.size := hKV.size
  have HWV := hHd hWV
  refine wpIn_range_go (by decide) (by rw [hact]; rfl) (Go.Proofs.enters_of Tryz.func108 (by kernel_rfl) rfl) hseq (Below.refl _ _) (by intro k hk; omega) (fun B x args W h => by obtain ⟨cs, rfl, _⟩ := h; rfl) (fun B B' x args W _ h => h)
   (fun pre V => J (([([stp da], da.text)] : List Rf) ++ pre.flatMap refR) V ∧ KeepN N W.heap.size V0 V) (fun c pre V => c = .ret ∧ ∃ p x q, refsL f = p ++ x :: q ∧ Jx (p ++ [x]) V)
   (fun s X Y h hb => ⟨HJ.out _ _ _ h.1 (hb.mono hWV), keepN_st (Nat.le_refl _) X Y h.2 hb⟩) (fun c s X Y row h hg hr => ⟨h.1, by obtain ⟨p, x, q, h2, h3⟩ := h.2; exact ⟨p, x, q, h2, OwnFrom.le HJx.out hWV _ X Y row h3 hg hr⟩⟩) ⟨by simpa using hJV, KeepN.refl _ _ _⟩
   (RfsA b V0.heap.size act.tmps) (fun x a' => rfsA_own b V0.heap.size act.tmps x a' hbV) ?assign ?body ?done ?stop
  all_goals clear hact hV0 hs hbt hKV hbV hJV hYV hgA hgB hrV hseq hWV h0
  case assign =>
   rintro l' pre x args V K hI ⟨cs, rfl, hx⟩ hK
   obtain ⟨A', c', rfl, hr'⟩ := hx.shape
   obtain ⟨y, k⟩ := x
   rw [HACT.out] at hK ⊢
   gi_wp2
   have hal : Below V.heap.size V (V.alloc (.cells (ndC y (.slice A' k.len c')).toArray 27)) := bAl
   refine hK _ _ ((KeepsOthers.alloc _ _).from _) (KeepN.below hal) ⟨HJ.out _ _ _ hI.1 (hal.mono (Nat.le_trans HWV.out hI.2.size)), hI.2.trans (KeepN.below hal)⟩ ⟨V.heap.size, c', A', hI.2.size, Blk.new _ _ _, hx.under hal (Nat.le_trans HBV.out hI.2.size) (Nat.le_refl _), rfl⟩
  case body =>
   rintro l' pre x post a' V hl hlr hxs hI ⟨Bx, c', A', hBx, hblk, hlie, rfl⟩
   obtain ⟨y, k⟩ := x
   rw [HACT.out]
   simp only [List.setIfInBounds_toArray, List.set_cons_succ, List.set_cons_zero]
   have hks : k.size ≤ 1000000 := by
    obtain ⟨i, hi, _⟩ := kidsOf_mem (nm := nRule) (f := f) (y := (y, k)) (by rw [hxs]; simp)
    have := Fr.size_get hi
    have := HFEW.out
    omega
   have hbl : b ≤ V.heap.size := Nat.le_trans HBV.out hI.2.size
   have HKC := hHd (keyless_any nClass y k A' c' V (hlie.row9.under (Below.refl _ _) hbl hbl) hks)
   have HI := hHd hI
   have HXS := hHd (refs_cut hxs)
   have HBK : Hid (Blk V Bx 27 (cN y (.slice A' k.len c'))) := hHd hblk
   have HYR : Hid (Blk V W.heap.size 156 #[.func (.yield l) #[] #[]]) := hHd (hI.2.blkm HYV.out (Nat.le_refl _))
   clear hI hxs hblk hlie hks hbl
   obtain ⟨q0, q1, q2, q3, q4, q5⟩ := cl6 HBK.out
   gi_wp2_with fail
   refine ⟨trivial, calls_wideR (ro := some l') (HKC.out.mono ?_)⟩
   intro r V2 hr
   cases hk : kidO nClass k with
   | none =>
    rw [hk] at hr
    obtain ⟨A2, c2, rfl, hl2, hb2⟩ := RTreP.flat (a := zeroT) (f := .nil) hr
    clear hr hl2 q0 q1 q2 q3 q4 q5
    gi_wp2_with fail
    have HB3 : Hid (Below V.heap.size V (V2.alloc (.cells #[.string (txt []), .string (txt []), .int .i64 0, .int .u64 0, .string (txt []), .slice A2 (Fr.nil (α := NdD)).len c2] 27)).drew) := hHd ((hb2.alloc hb2.size _).drew)
    clear hb2
    refine wpIn_region_calm (ro := (some l')) ?_
    refine wpIn_region_heldI [] (S := fun _ => True) (by kernel_rfl) trivial (fun hS => ?_)
    refine tkI 0 [0, 1, 2, 3, 4, 5, 6, 7, 8, 9, 10, 11, 12, 13] hS ?_
    refine tkI 1 [1, 2, 3, 4, 5, 6, 7, 8, 9, 10, 11, 12, 13] hS ?_
    refine tkIo 2 [2, 11, 12, 13] hS ?_
    refine tkIo 3 [3, 4, 6, 7, 11, 12, 13] hS ?_
    refine tkIo 4 [4, 6, 7, 11, 12, 13] hS ?_
    refine tkIo 5 [5, 6, 7, 11, 12, 13] hS ?_
    refine tkIo 6 [6, 7, 11, 12, 13] hS ?_
    refine tkIo 7 [7, 11, 12, 13] hS ?_
    refine tkIo 8 [8, 9, 10, 11, 12, 13] hS ?_
    refine tkIo 9 [9, 10, 11, 12, 13] hS ?_
    refine tkIo 10 [10, 11, 12, 13] hS ?_
    refine tkIo 11 [11, 12, 13] hS ?_
    refine tkIo 12 [12, 13] hS ?_
    refine tkI 13 [13] hS ?_
    refine heldI_done (by kernel_rfl) ?_ _
    refine NoPanic.normal ?_
    clear hS
    gi_wp2
    refine ⟨KeepN.below HB3.out, ?_, ?_⟩
    ·rw [List.flatMap_append]
     have e : List.flatMap refR [((y, k) : Nd)] = [] := by simp [refR, hk, refO]
     rw [e, List.append_nil]
     exact HJ.out _ _ _ HI.out.1 (HB3.out.mono (Nat.le_trans HWV.out HI.out.2.size))
    ·exact HI.out.2.trans (KeepN.below HB3.out)
   | some z =>
    obtain ⟨za, zk⟩ := z
    rw [hk] at hr
    obtain ⟨A2, c2, rfl, hl2, hb2⟩ := RTreP.flat (a := za) (f := zk) hr
    clear hr hl2 q0 q1 q2 q3 q4 q5
    have HKK := hHd hk
    clear hk
    gi_wp2_with fail
    have hb3 : Below V.heap.size V (V2.alloc (.cells (cN za (.slice A2 zk.len c2)) 27)).drew := (hb2.alloc hb2.size _).drew
    have hV2 : V.heap.size ≤ V2.heap.size := hb2.size
    have HS0 : Hid (Blk (V2.alloc (.cells (cN za (.slice A2 zk.len c2)) 27)).drew Bx 27 (cN y (.slice A' k.len c')) ∧ Blk (V2.alloc (.cells (cN za (.slice A2 zk.len c2)) 27)).drew V2.heap.size 27 (cN za (.slice A2 zk.len c2)) ∧ Blk (V2.alloc (.cells (cN za (.slice A2 zk.len c2)) 27)).drew W.heap.size 156 #[.func (.yield l) #[] #[]]) := hHd ⟨HBK.out.below hb3 HBK.out.lt, Blk.new V2 27 (cN za (.slice A2 zk.len c2)), HYR.out.below hb3 HYR.out.lt⟩
    have HB3 := hHd hb3
    clear hb2 hb3 hV2
    refine wpIn_region_calm (ro := (some l')) ?_
    refine wpIn_region_heldI [11] (S := fun _ => True) (by kernel_rfl) trivial (fun hS => ?_)
    refine tkI 0 [0, 1, 2, 3, 4, 5, 6, 7, 8, 9, 10, 11, 12, 13] hS ?_
    refine tkI 1 [1, 2, 3, 4, 5, 6, 7, 8, 9, 10, 11, 12, 13] hS ?_
    refine heldI_more (S' := fun w' => Blk w' Bx 27 (cN y (.slice A' k.len c')) ∧ Blk w' V2.heap.size 27 (cN za (.slice A2 zk.len c2)) ∧ Blk w' W.heap.size 156 #[.func (.yield l) #[] #[]]) (fun _ _ => trivial) _ _ _ _ ?_
    replace hS := HS0.out
    refine tkI 2 [2, 11, 12, 13] hS ?_ (hy := fun w hSw => by have y0 := (hSw.2.2.cell 0).trans rfl; (go_simp <;> with_reducible rfl))
    refine tkI 3 [3, 4, 6, 7, 11, 12, 13] hS ?_ (hy := fun w hSw => by obtain ⟨q0, q1, q2, q3, q4, q5⟩ := cl6 hSw.1; (go_simp <;> with_reducible rfl))
    refine tkI 5 [5, 6, 7, 11, 12, 13] hS ?_ (hy := fun w hSw => by obtain ⟨q0, q1, q2, q3, q4, q5⟩ := cl6 hSw.2.1; (go_simp <;> with_reducible rfl))
    refine tkI 8 [8, 9, 10, 11, 12, 13] hS ?_
    refine tkI 9 [9, 10, 11, 12, 13] hS ?_
    refine tkI 10 [10, 11, 12, 13] hS ?_ (hy := fun w hSw => by obtain ⟨q0, q1, q2, q3, q4, q5⟩ := cl6 hSw.2.1; (go_simp <;> with_reducible rfl))
    refine rdyI [4] (riC (fun K hK => ?_) .nil)
    refine opIn_of (by kernel_rfl) ?_
    go_simp
    refine (vstepof_any y _ _).mono ?_
    rintro r w4 ⟨rfl, hb⟩
    have HB4 := hHd (HB3.out.trans (hb.mono HB3.out.size))
    have HS4 := hHd (And.intro (HS0.out.1.below hb HS0.out.1.lt) (And.intro (HS0.out.2.1.below hb HS0.out.2.1.lt) (HS0.out.2.2.below hb HS0.out.2.2.lt)))
    clear hb
    go_wp2_with fail
    refine hK.out _ _ ?sr_7 (fun hS => ?_)
    case sr_7 => (exact HS4.out)
    clear hK K
    (try simp only [Act.put, layS])
    refine rdyI [6] (riC (fun K hK => ?_) .nil)
    refine opIn_of (by kernel_rfl) ?_
    go_simp
    refine (vstepof_any za _ _).mono ?_
    rintro r w6 ⟨rfl, hb⟩
    have HB6 := hHd (HB4.out.trans (hb.mono HB4.out.size))
    have HS6 := hHd (And.intro (HS4.out.1.below hb HS4.out.1.lt) (And.intro (HS4.out.2.1.below hb HS4.out.2.1.lt) (HS4.out.2.2.below hb HS4.out.2.2.lt)))
    clear hb
    go_wp2_with fail
    refine hK.out _ _ ?sr_8 (fun hS => ?_)
    case sr_8 => (exact HS6.out)
    clear hK K
    (try simp only [Act.put, layS])
    refine rdyI [7] (riC (fun K hK => ?_) .nil)
    refine opIn_of (by kernel_rfl) ?_
    go_simp
    refine hK.out _ _ ?sr_9 (fun hS => ?_)
    case sr_9 => (exact And.intro (HS6.out.1.alloc _) (And.intro (HS6.out.2.1.alloc _) (HS6.out.2.2.alloc _)))
    clear hK K
    (try simp only [Act.put, layS])
    refine rdyI [11] (riD (fun K hK => ?_) .nil)
    have HB7 : Hid (Below V.heap.size V (w6.alloc (.cells #[.string (txt y.name), .string (txt y.key), .string (txt za.name), .string (txt za.key)] 125))) := hHd (HB6.out.alloc HB6.out.size _)
    have HRX : Hid (refR (y, k) = [([stp y, stp za], za.text)]) := hHd (by simp [refR, HKK.out, refO])
    have HYC := hHd (HY.out (([([stp da], da.text)] : List Rf) ++ pre.flatMap refR) ([stp y, stp za], za.text) (post.flatMap refR) #[.slice (some ⟨w6.heap.size, 0, none⟩) 2 2, .string (txt za.text)] _ (by rw [HXS.out, HRX.out, HD.out]; rfl) (HJ.out _ _ _ HI.out.1 (HB7.out.mono (Nat.le_trans HWV.out HI.out.2.size))) ⟨_, rfl, OwnS.two (w := w6) (stp y) (stp za) (Nat.le_trans (Nat.le_trans HWV.out HI.out.2.size) HB6.out.size)⟩)
    refine opIn_yield (by kernel_rfl) (fun fn tmps assign body h => by simp [execOp, resolve, invoke, go_sem, h]) HYC.out (fun e w11 he => ?_)
    obtain ⟨bb, rfl, hT, hF⟩ := goY_bool he
    have HT := hHd hT
    have HF := hHd hF
    clear he hT hF
    refine ⟨_, rfl, ?_⟩
    refine hK.out _ _ ?_
    have hS : True := trivial
    clear hK K
    (try simp only [Act.put, layS])
    refine tkI 12 [12, 13] hS ?_
    refine tkI 13 [13] hS ?_
    refine heldI_done (by kernel_rfl) ?_ _
    refine NoPanic.normal ?_
    clear hS
    cases bb with
    | true =>
     have HJK := hHd (HT.out rfl)
     clear HT HF
     gi_wp2
     obtain ⟨hj, hk2⟩ := HJK.out
     have hb7 := HB7.out
     refine ⟨(KeepN.below hb7).trans (hk2.mono (fun k _ h => by
      rcases h with (h | h) | h
      ·exact .inl (HNN.out.1 k h)
      ·exact .inr (by have := HKT0.out.size; omega)
      ·exact .inr (Nat.le_trans HWV.out h))), ?_, HI.out.2.trans ((KeepN.below hb7).trans (hk2.mono (fun k _ h => h)))⟩
     rw [List.flatMap_append]
     have e : List.flatMap refR [((y, k) : Nd)] = [([stp y, stp za], za.text)] := by rw [List.flatMap_cons, HRX.out]; rfl
     rw [e, ← List.append_assoc]
     exact hj
    | false =>
     have HJK := hHd (HF.out rfl)
     clear HT HF
     gi_wp2
     obtain ⟨hj, hk2⟩ := HJK.out
     refine ⟨((KeepN.below (N := N) (m := V0.heap.size) HB7.out).from (Nat.le_refl _)).trans (keepsFrom_mono hk2 HWV.out), rfl, ([([stp da], da.text)] : List Rf) ++ pre.flatMap refR, ([stp y, stp za], za.text), post.flatMap refR, ?_, hj⟩
     rw [HXS.out, HRX.out, HD.out]
     rfl
  case done =>
   intro D V hD hI hK
   rw [HACT.out]
   have HIJ : Hid (J (refsL f) (V.putObj D (.deferred none))) := hHd (by
    have h := (HJ.out _).putObj (l := D) (.deferred none) (by have := HWV.out; omega) hI.1
    have e : refsL f = ([([stp da], da.text)] : List Rf) ++ (kidsOf nRule f).flatMap refR := by unfold refsL; rw [HD.out]; rfl
    rw [e]
    exact h)
   clear hI
   gi_wp2
   refine ⟨by simp, .inl ⟨_, _, rfl, run_takeDeferred hK, ?_⟩⟩
   exact ⟨_, results_none rfl _ _ _, ⟨_, rfl⟩, .inl HIJ.out⟩
  case stop =>
   rintro D c pre x post V hD hxs ⟨rfl, p, x', q, h2, h3⟩ hK
   rw [HACT.out]
   have h4 := OwnFrom.putObj HJx.out (s := p ++ [x']) (o' := .deferred none) h3 (by have := HWV.out; omega) hK rfl
   gi_wp2
   refine ⟨by simp, .inl ⟨_, _, rfl, run_takeDeferred hK, ?_⟩⟩
   exact ⟨_, results_none rfl _ _ _, ⟨_, rfl⟩, .inr ⟨p, x', q, h2, h4⟩⟩
 | false =>
  have HJK := hHd (HF.out rfl)
  clear HT HF
  gi_wp2
  exact ⟨_, results_none rfl _ _ _, ⟨_, rfl⟩, .inr ⟨[], ([stp da], da.text), (kidsOf nRule f).flatMap refR, by unfold refsL; rw [hd]; rfl, HJK.out.1⟩⟩
theorem refs_seq (a : NdD) (f : NdF) (A : Option Addr) (c b g1 : Nat) (N : Nat → Prop) (w : World) (hrow : RowT b w (.slice A f.len c) f) (hb1 : Blk w g1 27 (cN a (.slice A f.len c))) (hN : ∀ k, k < b → N k) (hN1 : N g1) (hbW : b ≤ w.heap.size) (hf : f.size ≤ 1000000) :
  SeqG Tryz.prog 109 #[.pointer (some ⟨g1, 0, none⟩)] EncR N (refsL f) w := fun l J Jx W hW hJ hJx hY h0 => by
 refine (callsIn_wide (n := 9)).1 ?_
 have hh : RfsH b g1 l f N J Jx W := ⟨hN, hN1, Nat.le_trans hbW hW.size, hf, hJ, hJx, hY⟩
 cases hd : kidO nDefault f with
 | none => exact refs1_none a f A c b g1 l N J Jx W (hrow.under hW hbW (Nat.le_refl _)) (hb1.below hW hb1.lt) hh h0 hd
 | some y => exact refs1_some a f A c b g1 l N J Jx W (hrow.under hW hbW (Nat.le_refl _)) (hb1.below hW hb1.lt) hh h0 y.1 y.2 hd
end
end Go.Proofs.YtodlhgflfcadmaaGreat
