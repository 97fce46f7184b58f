/- What ValidClasses stands on: VadRfs. -/
import Derived.Test.YtljjaikejfoanaaGreatXM0
import Derived.Test.YtljjaikejfoanaaGreatXM17
import Derived.Laws.EntriesVeiled
set_option linter.unusedSimpArgs false
set_option linter.unusedVariables false
namespace Go.Proofs.YtljjaikejfoanaaGreat
open Go.RowKit
attribute [local go_sem] Oper.semAt_some
abbrev Rf := List Stp × List UInt8
def refO (ahead : List Stp) : Option Nd → List Rf
 | none => []
 | some y => [(ahead ++ [stp y.1], y.1.text)]
def refR (y : Nd) : List Rf := refO [stp y.1] (kidO nClass y.2)
def refsL (k : NdF) : List Rf := refO [] (kidO nDefault k) ++ (kidsOf nRule k).flatMap refR
def EncR (B : Nat) (x : Rf) (args : Array Value) (W : World) : Prop := ∃ v, args = #[v, .string (txt x.2)] ∧ OwnS B W v x.1
theorem goY_bool {α : Type} {B : Nat} {N : Nat → Prop} {J Jx : List α → World → Prop} {xs : List α} {W1 W' : World} {e : Ending} (h : GoY B N J Jx xs W1 e W') :
  ∃ bb, e = .returned (.bool bb) ∧ (bb = true → J xs W' ∧ KeepN N B W1 W') ∧ (bb = false → Jx xs W' ∧ KeepsFrom B W1 W') := by
 rcases h with ⟨h1, h2, h3⟩ | ⟨h1, h2, h3⟩
 ·exact ⟨true, h1, fun _ => ⟨h2, h3⟩, fun h => (by cases h)⟩
 ·exact ⟨false, h1, fun h => (by cases h), fun _ => ⟨h2, h3⟩⟩
theorem keepN_st {N : Nat → Prop} {m : Nat} {A : World} {B : Nat} (hB : A.heap.size ≤ B) : StB B (fun V => KeepN N m A V) := fun X Y h hb =>
 ⟨hb.os.trans h.os, hb.tape.trans h.tape, hb.output.trans h.output, Nat.le_trans h.size hb.size, fun k hk hn => (hb.block k (by omega)).trans (h.block k hk hn)⟩
theorem OwnFrom.le {β : Type} {B B' : Nat} {I : β → World → Prop} (h : OwnFrom B I) (hb : B ≤ B') : OwnFrom B' I := fun s X Y row hs hg hr => h s X Y row hs hg (fun r e => ⟨Nat.le_trans hb (hr r e).1, (hr r e).2⟩)
theorem refs_any (a : NdD) (u : Value) (w : World) :
  Calls Tryz.prog 39 #[.agg #[.string (txt a.name), .string (txt a.key), .int .i64 a.kind, .int .u64 (a.num : Int), .string (txt a.text), u]] w fun r w' => r = .returned (.func (.func 52) #[] #[.pointer (some ⟨w.heap.size, 0, none⟩)]) ∧ w' = w.alloc (.cells #[.string (txt a.name), .string (txt a.key), .int .i64 a.kind, .int .u64 (a.num : Int), .string (txt a.text), u] 27) := by
 go_enter Tryz.func39, Tryz.ntmps39
 go_wp2
 go_ret
 exact ⟨rfl, rfl⟩
theorem LieB.row9 {b : Nat} {w : World} {a : NdD} {f : NdF} {A : Option Addr} {c : Nat} (h : LieB b w (ndC a (.slice A f.len c)) (a, f)) : RowT b w (.slice A f.len c) f := LieB.row h
def RfsA (b B : Nat) (tm : Array Value) (x : Nd) (a : Act) (V : World) : Prop := ∃ (Bx c : Nat) (A : Option Addr), B ≤ Bx ∧ Blk V Bx 27 (ndC x.1 (.slice A x.2.len c)).toArray ∧ LieB b V (ndC x.1 (.slice A x.2.len c)) x ∧
 a = { tmps := (tm.setIfInBounds 27 (.agg (ndC x.1 (.slice A x.2.len c)).toArray)).setIfInBounds 5 (.pointer (some ⟨Bx, 0, none⟩)), defers := [] }
theorem rfsA_own (b B : Nat) (tm : Array Value) (x : Nd) (a : Act) (hb : b ≤ B) : OwnFrom B (fun (_ : Unit) V => RfsA b B tm x a V) := by
 rintro s X Y row ⟨Bx, c, A, h1, h2, h3, h4⟩ hg hr
 exact ⟨Bx, c, A, h1, h2.obj hg (fun r e => (hr r e).2), h3.keep (fun g hg' => hg.block g (by have := h2.lt; omega) (fun e => by have := (hr g e.symm).1; omega)) (Nat.le_refl _), h4⟩
def RfsP (f : NdF) (J Jx : List Rf → World → Prop) (e : Ending) (W' : World) : Prop := (∃ v, e = .returned v) ∧ (J (refsL f) W' ∨ ∃ pre x post, refsL f = pre ++ x :: post ∧ Jx (pre ++ [x]) W')
structure RfsH (b g1 l : Nat) (f : NdF) (N : Nat → Prop) (J Jx : List Rf → World → Prop) (W : World) : Prop where
 n0 : ∀ k, k < b → N k
 n1 : N g1
 bw : b ≤ W.heap.size
 few : f.size ≤ 1000000
 st : ∀ s, StB W.heap.size (J s)
 own : OwnFrom W.heap.size Jx
 yl : ∀ pre x post args W1, refsL f = pre ++ x :: post → J pre W1 → EncR W.heap.size x args W1 → ∀ m, YieldAt Fence.wide m Tryz.prog l args W1 (GoY W.heap.size N J Jx (pre ++ [x]) W1)
theorem wpIn_act {F : Fence} {n : Nat} {P : Program} {c : Code} {Q : Exit → Act → World → Prop} {a : Act} {w : World} (h : ∀ act, act = a → c.wpIn F n P Q act w) : c.wpIn F n P Q a w := h a rfl
theorem refs_cut {f : NdF} {pre post : List Nd} {x : Nd} (h : kidsOf nRule f = pre ++ x :: post) : refsL f = (refO [] (kidO nDefault f) ++ pre.flatMap refR) ++ (refR x ++ post.flatMap refR) := by
 unfold refsL
 rw [h]
 simp
set_option maxRecDepth 100000 in
set_option maxHeartbeats 4000000 in
theorem refs1_none (a : NdD) (f : NdF) (A : Option Addr) (c b g1 l : Nat) (N : Nat → Prop) (J Jx : List Rf → World → Prop) (W : World)
  (hrow : RowT b W (.slice A f.len c) f) (hb1 : Blk W g1 27 #[.string (txt a.name), .string (txt a.key), .int .i64 a.kind, .int .u64 (a.num : Int), .string (txt a.text), .slice A f.len c]) (hh : RfsH b g1 l f N J Jx W) (h0 : J [] W) (hd : kidO nDefault f = none) :
  CallsIn Fence.wide 9 Tryz.prog 52 #[.func (.yield l) #[] #[], .pointer (some ⟨g1, 0, none⟩)] W (RfsP f J Jx) := by
 obtain ⟨HN, HN1, HBW, hfew, HJ, HJx, HY⟩ := hh
 have HNN := Lib.hid (And.intro HN HN1)
 replace HJ := Lib.hid HJ
 replace HY := Lib.hid HY
 replace HJx := Lib.hid HJx
 replace HBW := Lib.hid HBW
 have HFEW := Lib.hid hfew
 have HROW := Lib.hid hrow
 have HB1 := Lib.hid hb1
 have hal : Below W.heap.size W (W.alloc (.cells #[.func (.yield l) #[] #[]] 97)) := (Below.refl _ _).alloc (Nat.le_refl _) _
 have HYB := Lib.hid (Blk.new W 97 #[.func (.yield l) #[] #[]])
 have HBA := Lib.hid (hb1.below hal hb1.lt)
 have HKEY := Lib.hid (keyless_any nDefault a f A c (W.alloc (.cells #[.func (.yield l) #[] #[]] 97)) (hrow.under hal HBW.out (Nat.le_trans HBW.out hal.size)) hfew)
 have HAL := Lib.hid hal
 clear HN HN1 hrow hb1 hfew hal
 have q0 := (HBA.out.cell 0).trans rfl
 have q1 := (HBA.out.cell 1).trans rfl
 have q2 := (HBA.out.cell 2).trans rfl
 have q3 := (HBA.out.cell 3).trans rfl
 have q4 := (HBA.out.cell 4).trans rfl
 have q5 := (HBA.out.cell 5).trans rfl
 refine callsIn_of_wp_marks Tryz.func52 rfl trivial ?_ rfl
 simp only [Tryz.ntmps52, List.size_toArray, List.length_cons, List.length_nil, Nat.reduceAdd, Nat.reduceSub, Array.replicate_succ, Array.replicate_zero, List.push_toArray, List.append_toArray, List.nil_append, List.cons_append]
 gi_wp2_with fail
 refine ⟨trivial, calls_wideR (ro := none) (HKEY.out.mono ?_)⟩
 intro r W2 hr
 rw [hd] at hr
 obtain ⟨A2, c2, rfl, hl2, hb2⟩ := RTreP.flat (a := zeroT) (f := .nil) hr
 clear hr hl2
 clear q0 q1 q2 q3 q4 q5
 gi_wp2_with fail
 have HA2 := Lib.hid (HAL.out.trans (hb2.mono HAL.out.size))
 have HY2 := Lib.hid (HYB.out.below hb2 HYB.out.lt)
 clear hb2
 refine wpIn_region_calm (ro := none) ?_
 refine wpIn_region_heldI [] (S := fun _ => True) (by kernel_rfl) trivial (fun hS => ?_)
 refine heldI_take (i := 0) (X := [0, 1, 2, 3, 4, 5, 6, 7, 8, 9, 10, 11]) (oi := ?o_0) (v := ?v_0) ?i_0 (by kernel_rfl) (by kernel_rfl) (by kernel_rfl) (by kernel_rfl) (fun _ _ _ h => h) (Or.inl ⟨?g_0, ?y_0⟩) hS ?_
 case i_0 => simp only [layG]; rfl
 case g_0 => rfl
 case y_0 => (intro w hSw; (go_simp <;> with_reducible rfl))
 (try simp only [Act.put, layS])
 refine heldI_take (i := 1) (X := [1, 2, 3, 4, 5, 6, 7, 8, 9, 10, 11]) (oi := ?o_1) (v := ?v_1) ?i_1 (by kernel_rfl) (by kernel_rfl) (by kernel_rfl) (by kernel_rfl) (fun _ _ _ h => h) (Or.inl ⟨?g_1, ?y_1⟩) hS ?_
 case i_1 => simp only [layG]; rfl
 case g_1 => rfl
 case y_1 => (intro w hSw; (go_simp <;> with_reducible rfl))
 (try simp only [Act.put, layS])
 refine heldI_take (i := 2) (X := [2, 9, 10, 11]) (oi := ?o_2) (v := undef) ?i_2 (by kernel_rfl) (by kernel_rfl) (by kernel_rfl) (by kernel_rfl) (fun _ _ _ h => h) (Or.inr ⟨?g_2, rfl⟩) hS ?_
 case i_2 => simp only [layG]; rfl
 case g_2 => rfl
 (try simp only [Act.put, layS])
 refine heldI_take (i := 3) (X := [3, 4, 5, 9, 10, 11]) (oi := ?o_3) (v := undef) ?i_3 (by kernel_rfl) (by kernel_rfl) (by kernel_rfl) (by kernel_rfl) (fun _ _ _ h => h) (Or.inr ⟨?g_3, rfl⟩) hS ?_
 case i_3 => simp only [layG]; rfl
 case g_3 => rfl
 (try simp only [Act.put, layS])
 refine heldI_take (i := 4) (X := [4, 5, 9, 10, 11]) (oi := ?o_4) (v := undef) ?i_4 (by kernel_rfl) (by kernel_rfl) (by kernel_rfl) (by kernel_rfl) (fun _ _ _ h => h) (Or.inr ⟨?g_4, rfl⟩) hS ?_
 case i_4 => simp only [layG]; rfl
 case g_4 => rfl
 (try simp only [Act.put, layS])
 refine heldI_take (i := 5) (X := [5, 9, 10, 11]) (oi := ?o_5) (v := undef) ?i_5 (by kernel_rfl) (by kernel_rfl) (by kernel_rfl) (by kernel_rfl) (fun _ _ _ h => h) (Or.inr ⟨?g_5, rfl⟩) hS ?_
 case i_5 => simp only [layG]; rfl
 case g_5 => rfl
 (try simp only [Act.put, layS])
 refine heldI_take (i := 6) (X := [6, 7, 8, 9, 10, 11]) (oi := ?o_6) (v := undef) ?i_6 (by kernel_rfl) (by kernel_rfl) (by kernel_rfl) (by kernel_rfl) (fun _ _ _ h => h) (Or.inr ⟨?g_6, rfl⟩) hS ?_
 case i_6 => simp only [layG]; rfl
 case g_6 => rfl
 (try simp only [Act.put, layS])
 refine heldI_take (i := 7) (X := [7, 8, 9, 10, 11]) (oi := ?o_7) (v := undef) ?i_7 (by kernel_rfl) (by kernel_rfl) (by kernel_rfl) (by kernel_rfl) (fun _ _ _ h => h) (Or.inr ⟨?g_7, rfl⟩) hS ?_
 case i_7 => simp only [layG]; rfl
 case g_7 => rfl
 (try simp only [Act.put, layS])
 refine heldI_take (i := 8) (X := [8, 9, 10, 11]) (oi := ?o_8) (v := undef) ?i_8 (by kernel_rfl) (by kernel_rfl) (by kernel_rfl) (by kernel_rfl) (fun _ _ _ h => h) (Or.inr ⟨?g_8, rfl⟩) hS ?_
 case i_8 => simp only [layG]; rfl
 case g_8 => rfl
 (try simp only [Act.put, layS])
 refine heldI_take (i := 9) (X := [9, 10, 11]) (oi := ?o_9) (v := undef) ?i_9 (by kernel_rfl) (by kernel_rfl) (by kernel_rfl) (by kernel_rfl) (fun _ _ _ h => h) (Or.inr ⟨?g_9, rfl⟩) hS ?_
 case i_9 => simp only [layG]; rfl
 case g_9 => rfl
 (try simp only [Act.put, layS])
 refine heldI_take (i := 10) (X := [10, 11]) (oi := ?o_a) (v := undef) ?i_a (by kernel_rfl) (by kernel_rfl) (by kernel_rfl) (by kernel_rfl) (fun _ _ _ h => h) (Or.inr ⟨?g_a, rfl⟩) hS ?_
 case i_a => simp only [layG]; rfl
 case g_a => rfl
 (try simp only [Act.put, layS])
 refine heldI_take (i := 11) (X := [11]) (oi := ?o_b) (v := ?v_b) ?i_b (by kernel_rfl) (by kernel_rfl) (by kernel_rfl) (by kernel_rfl) (fun _ _ _ h => h) (Or.inl ⟨?g_b, ?y_b⟩) hS ?_
 case i_b => simp only [layG]; rfl
 case g_b => rfl
 case y_b => (intro w hSw; (go_simp <;> with_reducible rfl))
 (try simp only [Act.put, layS])
 refine heldI_done (by kernel_rfl) ?_ _
 refine NoPanic.normal ?_
 clear hS
 have hst : Below W.heap.size W (W2.alloc (.cells #[.string (txt []), .string (txt []), .int .i64 0, .int .u64 0, .string (txt []), .slice A2 (Fr.nil (α := NdD)).len c2] 27)).drew := ((HA2.out.alloc HA2.out.size _)).drew
 have HKT0 : Hid (KeepN N W.heap.size W (W2.alloc (.cells #[.string (txt []), .string (txt []), .int .i64 0, .int .u64 0, .string (txt []), .slice A2 (Fr.nil (α := NdD)).len c2] 27)).drew) := Lib.hid (KeepN.below hst)
 have H970 : Hid (Blk (W2.alloc (.cells #[.string (txt []), .string (txt []), .int .i64 0, .int .u64 0, .string (txt []), .slice A2 (Fr.nil (α := NdD)).len c2] 27)).drew W.heap.size 97 #[.func (.yield l) #[] #[]]) := Lib.hid (HY2.out.alloc _)
 have HJT0 : Hid (J [] (W2.alloc (.cells #[.string (txt []), .string (txt []), .int .i64 0, .int .u64 0, .string (txt []), .slice A2 (Fr.nil (α := NdD)).len c2] 27)).drew) := Lib.hid (HJ.out _ _ _ h0 hst)
 clear hst
 obtain ⟨Wt, hWt⟩ : ∃ Wt, Wt = (W2.alloc (.cells #[.string (txt []), .string (txt []), .int .i64 0, .int .u64 0, .string (txt []), .slice A2 (Fr.nil (α := NdD)).len c2] 27)).drew := ⟨_, rfl⟩
 rw [← hWt] at HKT0 HJT0 H970 ⊢
 clear hWt
 have HBT := Lib.hid (HKT0.out.blk HB1.out HNN.out.2)
 have q0 := (HBT.out.cell 0).trans rfl
 have q1 := (HBT.out.cell 1).trans rfl
 have q2 := (HBT.out.cell 2).trans rfl
 have q3 := (HBT.out.cell 3).trans rfl
 have q4 := (HBT.out.cell 4).trans rfl
 have q5 := (HBT.out.cell 5).trans rfl
 gi_wp2_with fail
 refine ⟨trivial, calls_wideR (ro := none) ((vnamed_any _ _ nRule _).mono ?_)⟩
 rintro e w' ⟨rfl, rfl⟩
 clear q0 q1 q2 q3 q4 q5
 gi_wp2_with fail
 refine wpIn_act ?_
 intro act hact
 obtain ⟨V0, hV0⟩ : ∃ V0, V0 = (Wt.alloc (.cells #[.string (txt a.name), .string (txt a.key), .int .i64 a.kind, .int .u64 (a.num : Int), .string (txt a.text), .slice A f.len c] 27)).alloc (.cells #[.string (txt nRule)] 9) := ⟨_, rfl⟩
 rw [← hV0]
 have hs : V0.heap.size = Wt.heap.size + 2 := by rw [hV0]; simp
 have hbt : Below Wt.heap.size Wt V0 := by rw [hV0]; exact ((Below.refl _ _).alloc (Nat.le_refl _) _).alloc (by simp) _
 have hKV : KeepN N W.heap.size W V0 := HKT0.out.trans (KeepN.below hbt)
 have hbV : b ≤ V0.heap.size := Nat.le_trans HBW.out hKV.size
 have hJV : J ([] : List Rf) V0 := HJ.out _ _ _ HJT0.out (hbt.mono HKT0.out.size)
 have hYV := H970.out.below hbt H970.out.lt
 have hgA : Blk V0 Wt.heap.size 27 #[.string (txt a.name), .string (txt a.key), .int .i64 a.kind, .int .u64 (a.num : Int), .string (txt a.text), .slice A f.len c] := by rw [hV0]; exact (Blk.new Wt _ _).alloc _
 have hgB : Blk V0 (Wt.heap.size + 1) 9 #[.string (txt nRule)] := by rw [hV0]; exact Blk.newA (by simp) _ _
 have hrV : RowT b V0 (.slice A f.len c) f := HROW.out.keep (fun g hg => hKV.at (HNN.out.1 g hg) (by have := HBW.out; omega)) (Nat.le_refl _)
 have hseq := named_seq nRule a f A c b Wt.heap.size (Wt.heap.size + 1) (fun k => k < b ∨ k = Wt.heap.size ∨ k = Wt.heap.size + 1) V0 hrV hgA hgB (fun k hk => .inl hk) (.inr (.inl rfl)) (.inr (.inr rfl)) hbV (by have := Fr.len_size f; have := HFEW.out; omega)
 have HACT := Lib.hid hact
 have HS := Lib.hid hs
 have HKV := Lib.hid hKV
 have HYV := Lib.hid hYV
 have HBV := Lib.hid hbV
 have HD := Lib.hid hd
 have hWV : W.heap.size ≤ V0.heap.size := hKV.size
 have HWV := Lib.hid hWV
 refine wpIn_range_go (by decide) (by rw [hact]; rfl) (Go.Proofs.enters_of Tryz.func51 (by kernel_rfl) rfl) hseq (Below.refl _ _) (by intro k hk; omega) (fun B x args W h => by obtain ⟨cs, rfl, _⟩ := h; rfl) (fun B B' x args W _ h => h)
  (fun pre V => J (([] : List Rf) ++ pre.flatMap refR) V ∧ KeepN N W.heap.size V0 V) (fun c pre V => c = .ret ∧ ∃ p x q, refsL f = p ++ x :: q ∧ Jx (p ++ [x]) V)
  (fun s X Y h hb => ⟨HJ.out _ _ _ h.1 (hb.mono hWV), keepN_st (Nat.le_refl _) X Y h.2 hb⟩) (fun c s X Y row h hg hr => ⟨h.1, by obtain ⟨p, x, q, h2, h3⟩ := h.2; exact ⟨p, x, q, h2, OwnFrom.le HJx.out hWV _ X Y row h3 hg hr⟩⟩) ⟨by simpa using hJV, KeepN.refl _ _ _⟩
  (RfsA b V0.heap.size act.tmps) (fun x a' => rfsA_own b V0.heap.size act.tmps x a' hbV) ?assign ?body ?done ?stop
 all_goals clear hact hV0 hs hbt hKV hbV hJV hYV hgA hgB hrV hseq hWV h0
 case assign =>
  rintro l' pre x args V K hI ⟨cs, rfl, hx⟩ hK
  obtain ⟨A', c', rfl, hr'⟩ := hx.shape
  obtain ⟨y, k⟩ := x
  rw [HACT.out] at hK ⊢
  gi_wp2
  have hal : Below V.heap.size V (V.alloc (.cells (ndC y (.slice A' k.len c')).toArray 27)) := (Below.refl _ _).alloc (Nat.le_refl _) _
  refine hK _ _ ((KeepsOthers.alloc _ _).from _) (KeepN.below hal) ⟨HJ.out _ _ _ hI.1 (hal.mono (Nat.le_trans HWV.out hI.2.size)), hI.2.trans (KeepN.below hal)⟩ ⟨V.heap.size, c', A', hI.2.size, Blk.new _ _ _, hx.under hal (Nat.le_trans HBV.out hI.2.size) (Nat.le_refl _), rfl⟩
 case body =>
  rintro l' pre x post a' V hl hlr hxs hI ⟨Bx, c', A', hBx, hblk, hlie, rfl⟩
  obtain ⟨y, k⟩ := x
  rw [HACT.out]
  simp only [List.setIfInBounds_toArray, List.set_cons_succ, List.set_cons_zero]
  have hks : k.size ≤ 1000000 := by
   obtain ⟨i, hi, _⟩ := kidsOf_mem (nm := nRule) (f := f) (y := (y, k)) (by rw [hxs]; simp)
   have := Fr.size_get hi
   have := HFEW.out
   omega
  have hbl : b ≤ V.heap.size := Nat.le_trans HBV.out hI.2.size
  have HKC := Lib.hid (keyless_any nClass y k A' c' V (hlie.row9.under (Below.refl _ _) hbl hbl) hks)
  have HI := Lib.hid hI
  have HXS := Lib.hid (refs_cut hxs)
  have HBK : Hid (Blk V Bx 27 #[.string (txt y.name), .string (txt y.key), .int .i64 y.kind, .int .u64 (y.num : Int), .string (txt y.text), .slice A' k.len c']) := Lib.hid hblk
  have HYR : Hid (Blk V W.heap.size 97 #[.func (.yield l) #[] #[]]) := Lib.hid (hI.2.blkm HYV.out (Nat.le_refl _))
  clear hI hxs hblk hlie hks hbl
  have q0 := (HBK.out.cell 0).trans rfl
  have q1 := (HBK.out.cell 1).trans rfl
  have q2 := (HBK.out.cell 2).trans rfl
  have q3 := (HBK.out.cell 3).trans rfl
  have q4 := (HBK.out.cell 4).trans rfl
  have q5 := (HBK.out.cell 5).trans rfl
  gi_wp2_with fail
  refine ⟨trivial, calls_wideR (ro := some l') (HKC.out.mono ?_)⟩
  intro r V2 hr
  cases hk : kidO nClass k with
  | none =>
   rw [hk] at hr
   obtain ⟨A2, c2, rfl, hl2, hb2⟩ := RTreP.flat (a := zeroT) (f := .nil) hr
   clear hr hl2 q0 q1 q2 q3 q4 q5
   gi_wp2_with fail
   have HB3 : Hid (Below V.heap.size V (V2.alloc (.cells #[.string (txt []), .string (txt []), .int .i64 0, .int .u64 0, .string (txt []), .slice A2 (Fr.nil (α := NdD)).len c2] 27)).drew) := Lib.hid ((hb2.alloc hb2.size _).drew)
   clear hb2
   refine wpIn_region_calm (ro := (some l')) ?_
   refine wpIn_region_heldI [] (S := fun _ => True) (by kernel_rfl) trivial (fun hS => ?_)
   refine heldI_take (i := 0) (X := [0, 1, 2, 3, 4, 5, 6, 7, 8, 9, 10, 11, 12, 13]) (oi := ?o_c) (v := ?v_c) ?i_c (by kernel_rfl) (by kernel_rfl) (by kernel_rfl) (by kernel_rfl) (fun _ _ _ h => h) (Or.inl ⟨?g_c, ?y_c⟩) hS ?_
   case i_c => simp only [layG]; rfl
   case g_c => rfl
   case y_c => (intro w hSw; (go_simp <;> with_reducible rfl))
   (try simp only [Act.put, layS])
   refine heldI_take (i := 1) (X := [1, 2, 3, 4, 5, 6, 7, 8, 9, 10, 11, 12, 13]) (oi := ?o_d) (v := ?v_d) ?i_d (by kernel_rfl) (by kernel_rfl) (by kernel_rfl) (by kernel_rfl) (fun _ _ _ h => h) (Or.inl ⟨?g_d, ?y_d⟩) hS ?_
   case i_d => simp only [layG]; rfl
   case g_d => rfl
   case y_d => (intro w hSw; (go_simp <;> with_reducible rfl))
   (try simp only [Act.put, layS])
   refine heldI_take (i := 2) (X := [2, 11, 12, 13]) (oi := ?o_e) (v := undef) ?i_e (by kernel_rfl) (by kernel_rfl) (by kernel_rfl) (by kernel_rfl) (fun _ _ _ h => h) (Or.inr ⟨?g_e, rfl⟩) hS ?_
   case i_e => simp only [layG]; rfl
   case g_e => rfl
   (try simp only [Act.put, layS])
   refine heldI_take (i := 3) (X := [3, 4, 6, 7, 11, 12, 13]) (oi := ?o_f) (v := undef) ?i_f (by kernel_rfl) (by kernel_rfl) (by kernel_rfl) (by kernel_rfl) (fun _ _ _ h => h) (Or.inr ⟨?g_f, rfl⟩) hS ?_
   case i_f => simp only [layG]; rfl
   case g_f => rfl
   (try simp only [Act.put, layS])
   refine heldI_take (i := 4) (X := [4, 6, 7, 11, 12, 13]) (oi := ?o_g) (v := undef) ?i_g (by kernel_rfl) (by kernel_rfl) (by kernel_rfl) (by kernel_rfl) (fun _ _ _ h => h) (Or.inr ⟨?g_g, rfl⟩) hS ?_
   case i_g => simp only [layG]; rfl
   case g_g => rfl
   (try simp only [Act.put, layS])
   refine heldI_take (i := 5) (X := [5, 6, 7, 11, 12, 13]) (oi := ?o_h) (v := undef) ?i_h (by kernel_rfl) (by kernel_rfl) (by kernel_rfl) (by kernel_rfl) (fun _ _ _ h => h) (Or.inr ⟨?g_h, rfl⟩) hS ?_
   case i_h => simp only [layG]; rfl
   case g_h => rfl
   (try simp only [Act.put, layS])
   refine heldI_take (i := 6) (X := [6, 7, 11, 12, 13]) (oi := ?o_i) (v := undef) ?i_i (by kernel_rfl) (by kernel_rfl) (by kernel_rfl) (by kernel_rfl) (fun _ _ _ h => h) (Or.inr ⟨?g_i, rfl⟩) hS ?_
   case i_i => simp only [layG]; rfl
   case g_i => rfl
   (try simp only [Act.put, layS])
   refine heldI_take (i := 7) (X := [7, 11, 12, 13]) (oi := ?o_j) (v := undef) ?i_j (by kernel_rfl) (by kernel_rfl) (by kernel_rfl) (by kernel_rfl) (fun _ _ _ h => h) (Or.inr ⟨?g_j, rfl⟩) hS ?_
   case i_j => simp only [layG]; rfl
   case g_j => rfl
   (try simp only [Act.put, layS])
   refine heldI_take (i := 8) (X := [8, 9, 10, 11, 12, 13]) (oi := ?o_k) (v := undef) ?i_k (by kernel_rfl) (by kernel_rfl) (by kernel_rfl) (by kernel_rfl) (fun _ _ _ h => h) (Or.inr ⟨?g_k, rfl⟩) hS ?_
   case i_k => simp only [layG]; rfl
   case g_k => rfl
   (try simp only [Act.put, layS])
   refine heldI_take (i := 9) (X := [9, 10, 11, 12, 13]) (oi := ?o_l) (v := undef) ?i_l (by kernel_rfl) (by kernel_rfl) (by kernel_rfl) (by kernel_rfl) (fun _ _ _ h => h) (Or.inr ⟨?g_l, rfl⟩) hS ?_
   case i_l => simp only [layG]; rfl
   case g_l => rfl
   (try simp only [Act.put, layS])
   refine heldI_take (i := 10) (X := [10, 11, 12, 13]) (oi := ?o_m) (v := undef) ?i_m (by kernel_rfl) (by kernel_rfl) (by kernel_rfl) (by kernel_rfl) (fun _ _ _ h => h) (Or.inr ⟨?g_m, rfl⟩) hS ?_
   case i_m => simp only [layG]; rfl
   case g_m => rfl
   (try simp only [Act.put, layS])
   refine heldI_take (i := 11) (X := [11, 12, 13]) (oi := ?o_n) (v := undef) ?i_n (by kernel_rfl) (by kernel_rfl) (by kernel_rfl) (by kernel_rfl) (fun _ _ _ h => h) (Or.inr ⟨?g_n, rfl⟩) hS ?_
   case i_n => simp only [layG]; rfl
   case g_n => rfl
   (try simp only [Act.put, layS])
   refine heldI_take (i := 12) (X := [12, 13]) (oi := ?o_o) (v := undef) ?i_o (by kernel_rfl) (by kernel_rfl) (by kernel_rfl) (by kernel_rfl) (fun _ _ _ h => h) (Or.inr ⟨?g_o, rfl⟩) hS ?_
   case i_o => simp only [layG]; rfl
   case g_o => rfl
   (try simp only [Act.put, layS])
   refine heldI_take (i := 13) (X := [13]) (oi := ?o_p) (v := ?v_p) ?i_p (by kernel_rfl) (by kernel_rfl) (by kernel_rfl) (by kernel_rfl) (fun _ _ _ h => h) (Or.inl ⟨?g_p, ?y_p⟩) hS ?_
   case i_p => simp only [layG]; rfl
   case g_p => rfl
   case y_p => (intro w hSw; (go_simp <;> with_reducible rfl))
   (try simp only [Act.put, layS])
   refine heldI_done (by kernel_rfl) ?_ _
   refine NoPanic.normal ?_
   clear hS
   gi_wp2
   refine ⟨KeepN.below HB3.out, ?_, ?_⟩
   ·rw [List.flatMap_append]
    have e : List.flatMap refR [((y, k) : Nd)] = [] := by simp [refR, hk, refO]
    rw [e, List.append_nil]
    exact HJ.out _ _ _ HI.out.1 (HB3.out.mono (Nat.le_trans HWV.out HI.out.2.size))
   ·exact HI.out.2.trans (KeepN.below HB3.out)
  | some z =>
   obtain ⟨za, zk⟩ := z
   rw [hk] at hr
   obtain ⟨A2, c2, rfl, hl2, hb2⟩ := RTreP.flat (a := za) (f := zk) hr
   clear hr hl2 q0 q1 q2 q3 q4 q5
   have HKK := Lib.hid hk
   clear hk
   gi_wp2_with fail
   have hb3 : Below V.heap.size V (V2.alloc (.cells #[.string (txt za.name), .string (txt za.key), .int .i64 za.kind, .int .u64 (za.num : Int), .string (txt za.text), .slice A2 zk.len c2] 27)).drew := (hb2.alloc hb2.size _).drew
   have hV2 : V.heap.size ≤ V2.heap.size := hb2.size
   have HS0 : Hid (Blk (V2.alloc (.cells #[.string (txt za.name), .string (txt za.key), .int .i64 za.kind, .int .u64 (za.num : Int), .string (txt za.text), .slice A2 zk.len c2] 27)).drew Bx 27 #[.string (txt y.name), .string (txt y.key), .int .i64 y.kind, .int .u64 (y.num : Int), .string (txt y.text), .slice A' k.len c'] ∧ Blk (V2.alloc (.cells #[.string (txt za.name), .string (txt za.key), .int .i64 za.kind, .int .u64 (za.num : Int), .string (txt za.text), .slice A2 zk.len c2] 27)).drew V2.heap.size 27 #[.string (txt za.name), .string (txt za.key), .int .i64 za.kind, .int .u64 (za.num : Int), .string (txt za.text), .slice A2 zk.len c2] ∧ Blk (V2.alloc (.cells #[.string (txt za.name), .string (txt za.key), .int .i64 za.kind, .int .u64 (za.num : Int), .string (txt za.text), .slice A2 zk.len c2] 27)).drew W.heap.size 97 #[.func (.yield l) #[] #[]]) := Lib.hid ⟨HBK.out.below hb3 HBK.out.lt, Blk.new V2 27 #[.string (txt za.name), .string (txt za.key), .int .i64 za.kind, .int .u64 (za.num : Int), .string (txt za.text), .slice A2 zk.len c2], HYR.out.below hb3 HYR.out.lt⟩
   have HB3 := Lib.hid hb3
   clear hb2 hb3 hV2
   refine wpIn_region_calm (ro := (some l')) ?_
   refine wpIn_region_heldI [11] (S := fun _ => True) (by kernel_rfl) trivial (fun hS => ?_)
   refine heldI_take (i := 0) (X := [0, 1, 2, 3, 4, 5, 6, 7, 8, 9, 10, 11, 12, 13]) (oi := ?o_q) (v := ?v_q) ?i_q (by kernel_rfl) (by kernel_rfl) (by kernel_rfl) (by kernel_rfl) (fun _ _ _ h => h) (Or.inl ⟨?g_q, ?y_q⟩) hS ?_
   case i_q => simp only [layG]; rfl
   case g_q => rfl
   case y_q => (intro w hSw; (go_simp <;> with_reducible rfl))
   (try simp only [Act.put, layS])
   refine heldI_take (i := 1) (X := [1, 2, 3, 4, 5, 6, 7, 8, 9, 10, 11, 12, 13]) (oi := ?o_r) (v := ?v_r) ?i_r (by kernel_rfl) (by kernel_rfl) (by kernel_rfl) (by kernel_rfl) (fun _ _ _ h => h) (Or.inl ⟨?g_r, ?y_r⟩) hS ?_
   case i_r => simp only [layG]; rfl
   case g_r => rfl
   case y_r => (intro w hSw; (go_simp <;> with_reducible rfl))
   (try simp only [Act.put, layS])
   refine heldI_more (S' := fun w' => Blk w' Bx 27 #[.string (txt y.name), .string (txt y.key), .int .i64 y.kind, .int .u64 (y.num : Int), .string (txt y.text), .slice A' k.len c'] ∧ Blk w' V2.heap.size 27 #[.string (txt za.name), .string (txt za.key), .int .i64 za.kind, .int .u64 (za.num : Int), .string (txt za.text), .slice A2 zk.len c2] ∧ Blk w' W.heap.size 97 #[.func (.yield l) #[] #[]]) (fun _ _ => trivial) _ _ _ _ ?_
   replace hS := HS0.out
   refine heldI_take (i := 2) (X := [2, 11, 12, 13]) (oi := ?o_s) (v := ?v_s) ?i_s (by kernel_rfl) (by kernel_rfl) (by kernel_rfl) (by kernel_rfl) (fun _ _ _ h => h) (Or.inl ⟨?g_s, ?y_s⟩) hS ?_
   case i_s => simp only [layG]; rfl
   case g_s => rfl
   case y_s => (intro w hSw; have y0 := (hSw.2.2.cell 0).trans rfl; (go_simp <;> with_reducible rfl))
   (try simp only [Act.put, layS])
   refine heldI_take (i := 3) (X := [3, 4, 6, 7, 11, 12, 13]) (oi := ?o_t) (v := ?v_t) ?i_t (by kernel_rfl) (by kernel_rfl) (by kernel_rfl) (by kernel_rfl) (fun _ _ _ h => h) (Or.inl ⟨?g_t, ?y_t⟩) hS ?_
   case i_t => simp only [layG]; rfl
   case g_t => rfl
   case y_t => (intro w hSw; have q0 := (hSw.1.cell 0).trans rfl; have q1 := (hSw.1.cell 1).trans rfl; have q2 := (hSw.1.cell 2).trans rfl; have q3 := (hSw.1.cell 3).trans rfl; have q4 := (hSw.1.cell 4).trans rfl; have q5 := (hSw.1.cell 5).trans rfl; (go_simp <;> with_reducible rfl))
   (try simp only [Act.put, layS])
   refine heldI_take (i := 5) (X := [5, 6, 7, 11, 12, 13]) (oi := ?o_u) (v := ?v_u) ?i_u (by kernel_rfl) (by kernel_rfl) (by kernel_rfl) (by kernel_rfl) (fun _ _ _ h => h) (Or.inl ⟨?g_u, ?y_u⟩) hS ?_
   case i_u => simp only [layG]; rfl
   case g_u => rfl
   case y_u => (intro w hSw; have q0 := (hSw.2.1.cell 0).trans rfl; have q1 := (hSw.2.1.cell 1).trans rfl; have q2 := (hSw.2.1.cell 2).trans rfl; have q3 := (hSw.2.1.cell 3).trans rfl; have q4 := (hSw.2.1.cell 4).trans rfl; have q5 := (hSw.2.1.cell 5).trans rfl; (go_simp <;> with_reducible rfl))
   (try simp only [Act.put, layS])
   refine heldI_take (i := 8) (X := [8, 9, 10, 11, 12, 13]) (oi := ?o_v) (v := ?v_v) ?i_v (by kernel_rfl) (by kernel_rfl) (by kernel_rfl) (by kernel_rfl) (fun _ _ _ h => h) (Or.inl ⟨?g_v, ?y_v⟩) hS ?_
   case i_v => simp only [layG]; rfl
   case g_v => rfl
   case y_v => (intro w hSw; (go_simp <;> with_reducible rfl))
   (try simp only [Act.put, layS])
   refine heldI_take (i := 9) (X := [9, 10, 11, 12, 13]) (oi := ?o_w) (v := ?v_w) ?i_w (by kernel_rfl) (by kernel_rfl) (by kernel_rfl) (by kernel_rfl) (fun _ _ _ h => h) (Or.inl ⟨?g_w, ?y_w⟩) hS ?_
   case i_w => simp only [layG]; rfl
   case g_w => rfl
   case y_w => (intro w hSw; (go_simp <;> with_reducible rfl))
   (try simp only [Act.put, layS])
   refine heldI_take (i := 10) (X := [10, 11, 12, 13]) (oi := ?o_x) (v := ?v_x) ?i_x (by kernel_rfl) (by kernel_rfl) (by kernel_rfl) (by kernel_rfl) (fun _ _ _ h => h) (Or.inl ⟨?g_x, ?y_x⟩) hS ?_
   case i_x => simp only [layG]; rfl
   case g_x => rfl
   case y_x => (intro w hSw; have q0 := (hSw.2.1.cell 0).trans rfl; have q1 := (hSw.2.1.cell 1).trans rfl; have q2 := (hSw.2.1.cell 2).trans rfl; have q3 := (hSw.2.1.cell 3).trans rfl; have q4 := (hSw.2.1.cell 4).trans rfl; have q5 := (hSw.2.1.cell 5).trans rfl; (go_simp <;> with_reducible rfl))
   (try simp only [Act.put, layS])
   refine heldI_ready (rs := [4]) (by kernel_rfl) (by simp) ?_
   refine (ReadyI.cons (o := ?or_y) ?ir_y (by kernel_rfl) (fun K hK => ?str_y) ReadyI.nil)
   case ir_y => simp only [layG]; rfl
   rw [if_pos (by rfl)]
   refine opIn_of (by kernel_rfl) ?_
   go_simp
   refine (vstepof_any y _ _).mono ?_
   rintro r w4 ⟨rfl, hb⟩
   have HB4 := Lib.hid (HB3.out.trans (hb.mono HB3.out.size))
   have HS4 := Lib.hid (And.intro (HS0.out.1.below hb HS0.out.1.lt) (And.intro (HS0.out.2.1.below hb HS0.out.2.1.lt) (HS0.out.2.2.below hb HS0.out.2.2.lt)))
   clear hb
   go_wp2_with fail
   refine hK.out _ _ ?sr_y (fun hS => ?_)
   case sr_y => (exact HS4.out)
   clear hK K
   (try simp only [Act.put, layS])
   refine heldI_ready (rs := [6]) (by kernel_rfl) (by simp) ?_
   refine (ReadyI.cons (o := ?or_z) ?ir_z (by kernel_rfl) (fun K hK => ?str_z) ReadyI.nil)
   case ir_z => simp only [layG]; rfl
   rw [if_pos (by rfl)]
   refine opIn_of (by kernel_rfl) ?_
   go_simp
   refine (vstepof_any za _ _).mono ?_
   rintro r w6 ⟨rfl, hb⟩
   have HB6 := Lib.hid (HB4.out.trans (hb.mono HB4.out.size))
   have HS6 := Lib.hid (And.intro (HS4.out.1.below hb HS4.out.1.lt) (And.intro (HS4.out.2.1.below hb HS4.out.2.1.lt) (HS4.out.2.2.below hb HS4.out.2.2.lt)))
   clear hb
   go_wp2_with fail
   refine hK.out _ _ ?sr_z (fun hS => ?_)
   case sr_z => (exact HS6.out)
   clear hK K
   (try simp only [Act.put, layS])
   refine heldI_ready (rs := [7]) (by kernel_rfl) (by simp) ?_
   refine (ReadyI.cons (o := ?or_10) ?ir_10 (by kernel_rfl) (fun K hK => ?str_10) ReadyI.nil)
   case ir_10 => simp only [layG]; rfl
   rw [if_pos (by rfl)]
   refine opIn_of (by kernel_rfl) ?_
   go_simp
   refine hK.out _ _ ?sr_10 (fun hS => ?_)
   case sr_10 => (exact And.intro (HS6.out.1.alloc _) (And.intro (HS6.out.2.1.alloc _) (HS6.out.2.2.alloc _)))
   clear hK K
   (try simp only [Act.put, layS])
   refine heldI_ready (rs := [11]) (by kernel_rfl) (by simp) ?_
   refine (ReadyI.consD (o := ?or_11) ?ir_11 (by kernel_rfl) (fun K hK => ?str_11) ReadyI.nil)
   case ir_11 => simp only [layG]; rfl
   rw [if_pos (by rfl)]
   have HB7 : Hid (Below V.heap.size V (w6.alloc (.cells #[.string (txt y.name), .string (txt y.key), .string (txt za.name), .string (txt za.key)] 45))) := Lib.hid (HB6.out.alloc HB6.out.size _)
   have HRX : Hid (refR (y, k) = [([stp y, stp za], za.text)]) := Lib.hid (by simp [refR, HKK.out, refO])
   have HYC := Lib.hid (HY.out (([] : List Rf) ++ pre.flatMap refR) ([stp y, stp za], za.text) (post.flatMap refR) #[.slice (some ⟨w6.heap.size, 0, none⟩) 2 2, .string (txt za.text)] _ (by rw [HXS.out, HRX.out, HD.out]; rfl) (HJ.out _ _ _ HI.out.1 (HB7.out.mono (Nat.le_trans HWV.out HI.out.2.size))) ⟨_, rfl, OwnS.two (w := w6) (stp y) (stp za) (Nat.le_trans (Nat.le_trans HWV.out HI.out.2.size) HB6.out.size)⟩)
   refine opIn_yield (by kernel_rfl) (fun fn tmps assign body h => by simp [execOp, resolve, invoke, go_sem, h]) HYC.out (fun e w11 he => ?_)
   obtain ⟨bb, rfl, hT, hF⟩ := goY_bool he
   have HT := Lib.hid hT
   have HF := Lib.hid hF
   clear he hT hF
   refine ⟨_, rfl, ?_⟩
   refine hK.out _ _ ?_
   have hS : True := trivial
   clear hK K
   (try simp only [Act.put, layS])
   refine heldI_take (i := 12) (X := [12, 13]) (oi := ?o_12) (v := ?v_12) ?i_12 (by kernel_rfl) (by kernel_rfl) (by kernel_rfl) (by kernel_rfl) (fun _ _ _ h => h) (Or.inl ⟨?g_12, ?y_12⟩) hS ?_
   case i_12 => simp only [layG]; rfl
   case g_12 => rfl
   case y_12 => (intro w hSw; (go_simp <;> with_reducible rfl))
   (try simp only [Act.put, layS])
   refine heldI_take (i := 13) (X := [13]) (oi := ?o_13) (v := ?v_13) ?i_13 (by kernel_rfl) (by kernel_rfl) (by kernel_rfl) (by kernel_rfl) (fun _ _ _ h => h) (Or.inl ⟨?g_13, ?y_13⟩) hS ?_
   case i_13 => simp only [layG]; rfl
   case g_13 => rfl
   case y_13 => (intro w hSw; (go_simp <;> with_reducible rfl))
   (try simp only [Act.put, layS])
   refine heldI_done (by kernel_rfl) ?_ _
   refine NoPanic.normal ?_
   clear hS
   cases bb with
   | true =>
    have HJK := Lib.hid (HT.out rfl)
    clear HT HF
    gi_wp2
    obtain ⟨hj, hk2⟩ := HJK.out
    have hb7 := HB7.out
    refine ⟨(KeepN.below hb7).trans (hk2.mono (fun k _ h => by
     rcases h with (h | h) | h
     ·exact .inl (HNN.out.1 k h)
     ·exact .inr (by have := HKT0.out.size; omega)
     ·exact .inr (Nat.le_trans HWV.out h))), ?_, HI.out.2.trans ((KeepN.below hb7).trans (hk2.mono (fun k _ h => h)))⟩
    rw [List.flatMap_append]
    have e : List.flatMap refR [((y, k) : Nd)] = [([stp y, stp za], za.text)] := by rw [List.flatMap_cons, HRX.out]; rfl
    rw [e, ← List.append_assoc]
    exact hj
   | false =>
    have HJK := Lib.hid (HF.out rfl)
    clear HT HF
    gi_wp2
    obtain ⟨hj, hk2⟩ := HJK.out
    refine ⟨((KeepN.below (N := N) (m := V0.heap.size) HB7.out).from (Nat.le_refl _)).trans (keepsFrom_mono hk2 HWV.out), rfl, ([] : List Rf) ++ pre.flatMap refR, ([stp y, stp za], za.text), post.flatMap refR, ?_, hj⟩
    rw [HXS.out, HRX.out, HD.out]
    rfl
 case done =>
  intro D V hD hI hK
  rw [HACT.out]
  have HIJ : Hid (J (refsL f) (V.putObj D (.deferred none))) := Lib.hid (by
   have h := (HJ.out _).putObj (l := D) (.deferred none) (by have := HWV.out; omega) hI.1
   have e : refsL f = ([] : List Rf) ++ (kidsOf nRule f).flatMap refR := by unfold refsL; rw [HD.out]; rfl
   rw [e]
   exact h)
  clear hI
  gi_wp2
  refine ⟨by simp, .inl ⟨_, _, rfl, run_takeDeferred hK, ?_⟩⟩
  exact ⟨_, results_none rfl _ _ _, ⟨_, rfl⟩, .inl HIJ.out⟩
 case stop =>
  rintro D c pre x post V hD hxs ⟨rfl, p, x', q, h2, h3⟩ hK
  rw [HACT.out]
  have h4 := OwnFrom.putObj HJx.out (s := p ++ [x']) (o' := .deferred none) h3 (by have := HWV.out; omega) hK rfl
  gi_wp2
  refine ⟨by simp, .inl ⟨_, _, rfl, run_takeDeferred hK, ?_⟩⟩
  exact ⟨_, results_none rfl _ _ _, ⟨_, rfl⟩, .inr ⟨p, x', q, h2, h4⟩⟩
set_option maxRecDepth 100000 in
set_option maxHeartbeats 4000000 in
theorem refs1_some (a : NdD) (f : NdF) (A : Option Addr) (c b g1 l : Nat) (N : Nat → Prop) (J Jx : List Rf → World → Prop) (W : World)
  (hrow : RowT b W (.slice A f.len c) f) (hb1 : Blk W g1 27 #[.string (txt a.name), .string (txt a.key), .int .i64 a.kind, .int .u64 (a.num : Int), .string (txt a.text), .slice A f.len c]) (hh : RfsH b g1 l f N J Jx W) (h0 : J [] W) (da : NdD) (dk : NdF) (hd : kidO nDefault f = some (da, dk)) :
  CallsIn Fence.wide 9 Tryz.prog 52 #[.func (.yield l) #[] #[], .pointer (some ⟨g1, 0, none⟩)] W (RfsP f J Jx) := by
 obtain ⟨HN, HN1, HBW, hfew, HJ, HJx, HY⟩ := hh
 have HNN := Lib.hid (And.intro HN HN1)
 replace HJ := Lib.hid HJ
 replace HY := Lib.hid HY
 replace HJx := Lib.hid HJx
 replace HBW := Lib.hid HBW
 have HFEW := Lib.hid hfew
 have HROW := Lib.hid hrow
 have HB1 := Lib.hid hb1
 have hal : Below W.heap.size W (W.alloc (.cells #[.func (.yield l) #[] #[]] 97)) := (Below.refl _ _).alloc (Nat.le_refl _) _
 have HYB := Lib.hid (Blk.new W 97 #[.func (.yield l) #[] #[]])
 have HBA := Lib.hid (hb1.below hal hb1.lt)
 have HKEY := Lib.hid (keyless_any nDefault a f A c (W.alloc (.cells #[.func (.yield l) #[] #[]] 97)) (hrow.under hal HBW.out (Nat.le_trans HBW.out hal.size)) hfew)
 have HAL := Lib.hid hal
 clear HN HN1 hrow hb1 hfew hal
 have q0 := (HBA.out.cell 0).trans rfl
 have q1 := (HBA.out.cell 1).trans rfl
 have q2 := (HBA.out.cell 2).trans rfl
 have q3 := (HBA.out.cell 3).trans rfl
 have q4 := (HBA.out.cell 4).trans rfl
 have q5 := (HBA.out.cell 5).trans rfl
 refine callsIn_of_wp_marks Tryz.func52 rfl trivial ?_ rfl
 simp only [Tryz.ntmps52, List.size_toArray, List.length_cons, List.length_nil, Nat.reduceAdd, Nat.reduceSub, Array.replicate_succ, Array.replicate_zero, List.push_toArray, List.append_toArray, List.nil_append, List.cons_append]
 gi_wp2_with fail
 refine ⟨trivial, calls_wideR (ro := none) (HKEY.out.mono ?_)⟩
 intro r W2 hr
 rw [hd] at hr
 obtain ⟨A2, c2, rfl, hl2, hb2⟩ := RTreP.flat (a := da) (f := dk) hr
 clear hr hl2
 clear q0 q1 q2 q3 q4 q5
 gi_wp2_with fail
 have hb3 : Below W.heap.size W (W2.alloc (.cells #[.string (txt da.name), .string (txt da.key), .int .i64 da.kind, .int .u64 (da.num : Int), .string (txt da.text), .slice A2 dk.len c2] 27)).drew := ((HAL.out.trans (hb2.mono HAL.out.size)).alloc (Nat.le_trans HAL.out.size hb2.size) _).drew
 have HS0 : Hid (Blk (W2.alloc (.cells #[.string (txt da.name), .string (txt da.key), .int .i64 da.kind, .int .u64 (da.num : Int), .string (txt da.text), .slice A2 dk.len c2] 27)).drew W2.heap.size 27 #[.string (txt da.name), .string (txt da.key), .int .i64 da.kind, .int .u64 (da.num : Int), .string (txt da.text), .slice A2 dk.len c2] ∧ Blk (W2.alloc (.cells #[.string (txt da.name), .string (txt da.key), .int .i64 da.kind, .int .u64 (da.num : Int), .string (txt da.text), .slice A2 dk.len c2] 27)).drew W.heap.size 97 #[.func (.yield l) #[] #[]]) := Lib.hid ⟨Blk.new W2 27 #[.string (txt da.name), .string (txt da.key), .int .i64 da.kind, .int .u64 (da.num : Int), .string (txt da.text), .slice A2 dk.len c2], (HYB.out.below hb2 HYB.out.lt).alloc _⟩
 have HB3 := Lib.hid hb3
 clear hb2 hb3
 refine wpIn_region_calm (ro := none) ?_
 refine wpIn_region_heldI [9] (S := fun _ => True) (by kernel_rfl) trivial (fun hS => ?_)
 refine heldI_take (i := 0) (X := [0, 1, 2, 3, 4, 5, 6, 7, 8, 9, 10, 11]) (oi := ?o_14) (v := ?v_14) ?i_14 (by kernel_rfl) (by kernel_rfl) (by kernel_rfl) (by kernel_rfl) (fun _ _ _ h => h) (Or.inl ⟨?g_14, ?y_14⟩) hS ?_
 case i_14 => simp only [layG]; rfl
 case g_14 => rfl
 case y_14 => (intro w hSw; (go_simp <;> with_reducible rfl))
 (try simp only [Act.put, layS])
 refine heldI_take (i := 1) (X := [1, 2, 3, 4, 5, 6, 7, 8, 9, 10, 11]) (oi := ?o_15) (v := ?v_15) ?i_15 (by kernel_rfl) (by kernel_rfl) (by kernel_rfl) (by kernel_rfl) (fun _ _ _ h => h) (Or.inl ⟨?g_15, ?y_15⟩) hS ?_
 case i_15 => simp only [layG]; rfl
 case g_15 => rfl
 case y_15 => (intro w hSw; (go_simp <;> with_reducible rfl))
 (try simp only [Act.put, layS])
 refine heldI_more (S' := fun w' => Blk w' W2.heap.size 27 #[.string (txt da.name), .string (txt da.key), .int .i64 da.kind, .int .u64 (da.num : Int), .string (txt da.text), .slice A2 dk.len c2] ∧ Blk w' W.heap.size 97 #[.func (.yield l) #[] #[]]) (fun _ _ => trivial) _ _ _ _ ?_
 replace hS := HS0.out
 refine heldI_take (i := 2) (X := [2, 9, 10, 11]) (oi := ?o_16) (v := ?v_16) ?i_16 (by kernel_rfl) (by kernel_rfl) (by kernel_rfl) (by kernel_rfl) (fun _ _ _ h => h) (Or.inl ⟨?g_16, ?y_16⟩) hS ?_
 case i_16 => simp only [layG]; rfl
 case g_16 => rfl
 case y_16 => (intro w hSw; have y0 := (hSw.2.cell 0).trans rfl; (go_simp <;> with_reducible rfl))
 (try simp only [Act.put, layS])
 refine heldI_take (i := 3) (X := [3, 4, 5, 9, 10, 11]) (oi := ?o_17) (v := ?v_17) ?i_17 (by kernel_rfl) (by kernel_rfl) (by kernel_rfl) (by kernel_rfl) (fun _ _ _ h => h) (Or.inl ⟨?g_17, ?y_17⟩) hS ?_
 case i_17 => simp only [layG]; rfl
 case g_17 => rfl
 case y_17 => (intro w hSw; have q0 := (hSw.1.cell 0).trans rfl; have q1 := (hSw.1.cell 1).trans rfl; have q2 := (hSw.1.cell 2).trans rfl; have q3 := (hSw.1.cell 3).trans rfl; have q4 := (hSw.1.cell 4).trans rfl; have q5 := (hSw.1.cell 5).trans rfl; (go_simp <;> with_reducible rfl))
 (try simp only [Act.put, layS])
 refine heldI_take (i := 6) (X := [6, 7, 8, 9, 10, 11]) (oi := ?o_18) (v := ?v_18) ?i_18 (by kernel_rfl) (by kernel_rfl) (by kernel_rfl) (by kernel_rfl) (fun _ _ _ h => h) (Or.inl ⟨?g_18, ?y_18⟩) hS ?_
 case i_18 => simp only [layG]; rfl
 case g_18 => rfl
 case y_18 => (intro w hSw; (go_simp <;> with_reducible rfl))
 (try simp only [Act.put, layS])
 refine heldI_take (i := 7) (X := [7, 8, 9, 10, 11]) (oi := ?o_19) (v := ?v_19) ?i_19 (by kernel_rfl) (by kernel_rfl) (by kernel_rfl) (by kernel_rfl) (fun _ _ _ h => h) (Or.inl ⟨?g_19, ?y_19⟩) hS ?_
 case i_19 => simp only [layG]; rfl
 case g_19 => rfl
 case y_19 => (intro w hSw; (go_simp <;> with_reducible rfl))
 (try simp only [Act.put, layS])
 refine heldI_take (i := 8) (X := [8, 9, 10, 11]) (oi := ?o_1a) (v := ?v_1a) ?i_1a (by kernel_rfl) (by kernel_rfl) (by kernel_rfl) (by kernel_rfl) (fun _ _ _ h => h) (Or.inl ⟨?g_1a, ?y_1a⟩) hS ?_
 case i_1a => simp only [layG]; rfl
 case g_1a => rfl
 case y_1a => (intro w hSw; have q0 := (hSw.1.cell 0).trans rfl; have q1 := (hSw.1.cell 1).trans rfl; have q2 := (hSw.1.cell 2).trans rfl; have q3 := (hSw.1.cell 3).trans rfl; have q4 := (hSw.1.cell 4).trans rfl; have q5 := (hSw.1.cell 5).trans rfl; (go_simp <;> with_reducible rfl))
 (try simp only [Act.put, layS])
 refine heldI_ready (rs := [4]) (by kernel_rfl) (by simp) ?_
 refine (ReadyI.cons (o := ?or_1b) ?ir_1b (by kernel_rfl) (fun K hK => ?str_1b) ReadyI.nil)
 case ir_1b => simp only [layG]; rfl
 rw [if_pos (by rfl)]
 refine opIn_of (by kernel_rfl) ?_
 go_simp
 refine (vstepof_any da _ _).mono ?_
 rintro r w4 ⟨rfl, hb⟩
 have HB4 := Lib.hid (HB3.out.trans (hb.mono HB3.out.size))
 have HS4 := Lib.hid (And.intro (HS0.out.1.below hb HS0.out.1.lt) (HS0.out.2.below hb HS0.out.2.lt))
 clear hb
 go_wp2_with fail
 refine hK.out _ _ ?sr_1b (fun hS => ?_)
 case sr_1b => (exact HS4.out)
 clear hK K
 (try simp only [Act.put, layS])
 refine heldI_ready (rs := [5]) (by kernel_rfl) (by simp) ?_
 refine (ReadyI.cons (o := ?or_1c) ?ir_1c (by kernel_rfl) (fun K hK => ?str_1c) ReadyI.nil)
 case ir_1c => simp only [layG]; rfl
 rw [if_pos (by rfl)]
 refine opIn_of (by kernel_rfl) ?_
 go_simp
 refine hK.out _ _ ?sr_1c (fun hS => ?_)
 case sr_1c => (exact And.intro (HS4.out.1.alloc _) (HS4.out.2.alloc _))
 clear hK K
 (try simp only [Act.put, layS])
 refine heldI_ready (rs := [9]) (by kernel_rfl) (by simp) ?_
 refine (ReadyI.consD (o := ?or_1d) ?ir_1d (by kernel_rfl) (fun K hK => ?str_1d) ReadyI.nil)
 case ir_1d => simp only [layG]; rfl
 rw [if_pos (by rfl)]
 have HB5 : Hid (Below W.heap.size W (w4.alloc (.cells #[.string (txt da.name), .string (txt da.key)] 45))) := Lib.hid (HB4.out.alloc HB4.out.size _)
 have HYC := Lib.hid (HY.out [] ([stp da], da.text) ((kidsOf nRule f).flatMap refR) #[.slice (some ⟨w4.heap.size, 0, none⟩) 1 1, .string (txt da.text)] _ (by unfold refsL; rw [hd]; rfl) (HJ.out _ _ _ h0 HB5.out) ⟨_, rfl, OwnS.one (w := w4) (stp da) HB4.out.size⟩)
 refine opIn_yield (by kernel_rfl) (fun fn tmps assign body h => by simp [execOp, resolve, invoke, go_sem, h]) HYC.out (fun e w9 he => ?_)
 obtain ⟨bb, rfl, hT, hF⟩ := goY_bool he
 have HT := Lib.hid hT
 have HF := Lib.hid hF
 clear he hT hF
 refine ⟨_, rfl, ?_⟩
 refine hK.out _ _ ?_
 have hS : True := trivial
 clear hK K
 (try simp only [Act.put, layS])
 refine heldI_take (i := 10) (X := [10, 11]) (oi := ?o_1e) (v := ?v_1e) ?i_1e (by kernel_rfl) (by kernel_rfl) (by kernel_rfl) (by kernel_rfl) (fun _ _ _ h => h) (Or.inl ⟨?g_1e, ?y_1e⟩) hS ?_
 case i_1e => simp only [layG]; rfl
 case g_1e => rfl
 case y_1e => (intro w hSw; (go_simp <;> with_reducible rfl))
 (try simp only [Act.put, layS])
 refine heldI_take (i := 11) (X := [11]) (oi := ?o_1f) (v := ?v_1f) ?i_1f (by kernel_rfl) (by kernel_rfl) (by kernel_rfl) (by kernel_rfl) (fun _ _ _ h => h) (Or.inl ⟨?g_1f, ?y_1f⟩) hS ?_
 case i_1f => simp only [layG]; rfl
 case g_1f => rfl
 case y_1f => (intro w hSw; (go_simp <;> with_reducible rfl))
 (try simp only [Act.put, layS])
 refine heldI_done (by kernel_rfl) ?_ _
 refine NoPanic.normal ?_
 clear hS
 cases bb with
 | true =>
  have HJK := Lib.hid (HT.out rfl)
  clear HT HF
  have HKT0 : Hid (KeepN N W.heap.size W w9) := Lib.hid ((KeepN.below HB5.out).trans (HJK.out.2.mono (fun _ _ h => h)))
  have H970 : Hid (Blk w9 W.heap.size 97 #[.func (.yield l) #[] #[]]) := Lib.hid (HJK.out.2.blkm (HS4.out.2.alloc _) (Nat.le_refl _))
  have HJT0 : Hid (J [([stp da], da.text)] w9) := Lib.hid HJK.out.1
  clear HJK
  obtain ⟨Wt, hWt⟩ : ∃ Wt, Wt = w9 := ⟨_, rfl⟩
  rw [← hWt] at HKT0 HJT0 H970 ⊢
  clear hWt
  have HBT := Lib.hid (HKT0.out.blk HB1.out HNN.out.2)
  have q0 := (HBT.out.cell 0).trans rfl
  have q1 := (HBT.out.cell 1).trans rfl
  have q2 := (HBT.out.cell 2).trans rfl
  have q3 := (HBT.out.cell 3).trans rfl
  have q4 := (HBT.out.cell 4).trans rfl
  have q5 := (HBT.out.cell 5).trans rfl
  gi_wp2_with fail
  refine ⟨trivial, calls_wideR (ro := none) ((vnamed_any _ _ nRule _).mono ?_)⟩
  rintro e w' ⟨rfl, rfl⟩
  clear q0 q1 q2 q3 q4 q5
  gi_wp2_with fail
  refine wpIn_act ?_
  intro act hact
  obtain ⟨V0, hV0⟩ : ∃ V0, V0 = (Wt.alloc (.cells #[.string (txt a.name), .string (txt a.key), .int .i64 a.kind, .int .u64 (a.num : Int), .string (txt a.text), .slice A f.len c] 27)).alloc (.cells #[.string (txt nRule)] 9) := ⟨_, rfl⟩
  rw [← hV0]
  have hs : V0.heap.size = Wt.heap.size + 2 := by rw [hV0]; simp
  have hbt : Below Wt.heap.size Wt V0 := by rw [hV0]; exact ((Below.refl _ _).alloc (Nat.le_refl _) _).alloc (by simp) _
  have hKV : KeepN N W.heap.size W V0 := HKT0.out.trans (KeepN.below hbt)
  have hbV : b ≤ V0.heap.size := Nat.le_trans HBW.out hKV.size
  have hJV : J ([([stp da], da.text)] : List Rf) V0 := HJ.out _ _ _ HJT0.out (hbt.mono HKT0.out.size)
  have hYV := H970.out.below hbt H970.out.lt
  have hgA : Blk V0 Wt.heap.size 27 #[.string (txt a.name), .string (txt a.key), .int .i64 a.kind, .int .u64 (a.num : Int), .string (txt a.text), .slice A f.len c] := by rw [hV0]; exact (Blk.new Wt _ _).alloc _
  have hgB : Blk V0 (Wt.heap.size + 1) 9 #[.string (txt nRule)] := by rw [hV0]; exact Blk.newA (by simp) _ _
  have hrV : RowT b V0 (.slice A f.len c) f := HROW.out.keep (fun g hg => hKV.at (HNN.out.1 g hg) (by have := HBW.out; omega)) (Nat.le_refl _)
  have hseq := named_seq nRule a f A c b Wt.heap.size (Wt.heap.size + 1) (fun k => k < b ∨ k = Wt.heap.size ∨ k = Wt.heap.size + 1) V0 hrV hgA hgB (fun k hk => .inl hk) (.inr (.inl rfl)) (.inr (.inr rfl)) hbV (by have := Fr.len_size f; have := HFEW.out; omega)
  have HACT := Lib.hid hact
  have HS := Lib.hid hs
  have HKV := Lib.hid hKV
  have HYV := Lib.hid hYV
  have HBV := Lib.hid hbV
  have HD := Lib.hid hd
  have hWV : W.heap.size ≤ V0.heap.size := hKV.size
  have HWV := Lib.hid hWV
  refine wpIn_range_go (by decide) (by rw [hact]; rfl) (Go.Proofs.enters_of Tryz.func51 (by kernel_rfl) rfl) hseq (Below.refl _ _) (by intro k hk; omega) (fun B x args W h => by obtain ⟨cs, rfl, _⟩ := h; rfl) (fun B B' x args W _ h => h)
   (fun pre V => J (([([stp da], da.text)] : List Rf) ++ pre.flatMap refR) V ∧ KeepN N W.heap.size V0 V) (fun c pre V => c = .ret ∧ ∃ p x q, refsL f = p ++ x :: q ∧ Jx (p ++ [x]) V)
   (fun s X Y h hb => ⟨HJ.out _ _ _ h.1 (hb.mono hWV), keepN_st (Nat.le_refl _) X Y h.2 hb⟩) (fun c s X Y row h hg hr => ⟨h.1, by obtain ⟨p, x, q, h2, h3⟩ := h.2; exact ⟨p, x, q, h2, OwnFrom.le HJx.out hWV _ X Y row h3 hg hr⟩⟩) ⟨by simpa using hJV, KeepN.refl _ _ _⟩
   (RfsA b V0.heap.size act.tmps) (fun x a' => rfsA_own b V0.heap.size act.tmps x a' hbV) ?assign ?body ?done ?stop
  all_goals clear hact hV0 hs hbt hKV hbV hJV hYV hgA hgB hrV hseq hWV h0
  case assign =>
   rintro l' pre x args V K hI ⟨cs, rfl, hx⟩ hK
   obtain ⟨A', c', rfl, hr'⟩ := hx.shape
   obtain ⟨y, k⟩ := x
   rw [HACT.out] at hK ⊢
   gi_wp2
   have hal : Below V.heap.size V (V.alloc (.cells (ndC y (.slice A' k.len c')).toArray 27)) := (Below.refl _ _).alloc (Nat.le_refl _) _
   refine hK _ _ ((KeepsOthers.alloc _ _).from _) (KeepN.below hal) ⟨HJ.out _ _ _ hI.1 (hal.mono (Nat.le_trans HWV.out hI.2.size)), hI.2.trans (KeepN.below hal)⟩ ⟨V.heap.size, c', A', hI.2.size, Blk.new _ _ _, hx.under hal (Nat.le_trans HBV.out hI.2.size) (Nat.le_refl _), rfl⟩
  case body =>
   rintro l' pre x post a' V hl hlr hxs hI ⟨Bx, c', A', hBx, hblk, hlie, rfl⟩
   obtain ⟨y, k⟩ := x
   rw [HACT.out]
   simp only [List.setIfInBounds_toArray, List.set_cons_succ, List.set_cons_zero]
   have hks : k.size ≤ 1000000 := by
    obtain ⟨i, hi, _⟩ := kidsOf_mem (nm := nRule) (f := f) (y := (y, k)) (by rw [hxs]; simp)
    have := Fr.size_get hi
    have := HFEW.out
    omega
   have hbl : b ≤ V.heap.size := Nat.le_trans HBV.out hI.2.size
   have HKC := Lib.hid (keyless_any nClass y k A' c' V (hlie.row9.under (Below.refl _ _) hbl hbl) hks)
   have HI := Lib.hid hI
   have HXS := Lib.hid (refs_cut hxs)
   have HBK : Hid (Blk V Bx 27 #[.string (txt y.name), .string (txt y.key), .int .i64 y.kind, .int .u64 (y.num : Int), .string (txt y.text), .slice A' k.len c']) := Lib.hid hblk
   have HYR : Hid (Blk V W.heap.size 97 #[.func (.yield l) #[] #[]]) := Lib.hid (hI.2.blkm HYV.out (Nat.le_refl _))
   clear hI hxs hblk hlie hks hbl
   have q0 := (HBK.out.cell 0).trans rfl
   have q1 := (HBK.out.cell 1).trans rfl
   have q2 := (HBK.out.cell 2).trans rfl
   have q3 := (HBK.out.cell 3).trans rfl
   have q4 := (HBK.out.cell 4).trans rfl
   have q5 := (HBK.out.cell 5).trans rfl
   gi_wp2_with fail
   refine ⟨trivial, calls_wideR (ro := some l') (HKC.out.mono ?_)⟩
   intro r V2 hr
   cases hk : kidO nClass k with
   | none =>
    rw [hk] at hr
    obtain ⟨A2, c2, rfl, hl2, hb2⟩ := RTreP.flat (a := zeroT) (f := .nil) hr
    clear hr hl2 q0 q1 q2 q3 q4 q5
    gi_wp2_with fail
    have HB3 : Hid (Below V.heap.size V (V2.alloc (.cells #[.string (txt []), .string (txt []), .int .i64 0, .int .u64 0, .string (txt []), .slice A2 (Fr.nil (α := NdD)).len c2] 27)).drew) := Lib.hid ((hb2.alloc hb2.size _).drew)
    clear hb2
    refine wpIn_region_calm (ro := (some l')) ?_
    refine wpIn_region_heldI [] (S := fun _ => True) (by kernel_rfl) trivial (fun hS => ?_)
    refine heldI_take (i := 0) (X := [0, 1, 2, 3, 4, 5, 6, 7, 8, 9, 10, 11, 12, 13]) (oi := ?o_1g) (v := ?v_1g) ?i_1g (by kernel_rfl) (by kernel_rfl) (by kernel_rfl) (by kernel_rfl) (fun _ _ _ h => h) (Or.inl ⟨?g_1g, ?y_1g⟩) hS ?_
    case i_1g => simp only [layG]; rfl
    case g_1g => rfl
    case y_1g => (intro w hSw; (go_simp <;> with_reducible rfl))
    (try simp only [Act.put, layS])
    refine heldI_take (i := 1) (X := [1, 2, 3, 4, 5, 6, 7, 8, 9, 10, 11, 12, 13]) (oi := ?o_1h) (v := ?v_1h) ?i_1h (by kernel_rfl) (by kernel_rfl) (by kernel_rfl) (by kernel_rfl) (fun _ _ _ h => h) (Or.inl ⟨?g_1h, ?y_1h⟩) hS ?_
    case i_1h => simp only [layG]; rfl
    case g_1h => rfl
    case y_1h => (intro w hSw; (go_simp <;> with_reducible rfl))
    (try simp only [Act.put, layS])
    refine heldI_take (i := 2) (X := [2, 11, 12, 13]) (oi := ?o_1i) (v := undef) ?i_1i (by kernel_rfl) (by kernel_rfl) (by kernel_rfl) (by kernel_rfl) (fun _ _ _ h => h) (Or.inr ⟨?g_1i, rfl⟩) hS ?_
    case i_1i => simp only [layG]; rfl
    case g_1i => rfl
    (try simp only [Act.put, layS])
    refine heldI_take (i := 3) (X := [3, 4, 6, 7, 11, 12, 13]) (oi := ?o_1j) (v := undef) ?i_1j (by kernel_rfl) (by kernel_rfl) (by kernel_rfl) (by kernel_rfl) (fun _ _ _ h => h) (Or.inr ⟨?g_1j, rfl⟩) hS ?_
    case i_1j => simp only [layG]; rfl
    case g_1j => rfl
    (try simp only [Act.put, layS])
    refine heldI_take (i := 4) (X := [4, 6, 7, 11, 12, 13]) (oi := ?o_1k) (v := undef) ?i_1k (by kernel_rfl) (by kernel_rfl) (by kernel_rfl) (by kernel_rfl) (fun _ _ _ h => h) (Or.inr ⟨?g_1k, rfl⟩) hS ?_
    case i_1k => simp only [layG]; rfl
    case g_1k => rfl
    (try simp only [Act.put, layS])
    refine heldI_take (i := 5) (X := [5, 6, 7, 11, 12, 13]) (oi := ?o_1l) (v := undef) ?i_1l (by kernel_rfl) (by kernel_rfl) (by kernel_rfl) (by kernel_rfl) (fun _ _ _ h => h) (Or.inr ⟨?g_1l, rfl⟩) hS ?_
    case i_1l => simp only [layG]; rfl
    case g_1l => rfl
    (try simp only [Act.put, layS])
    refine heldI_take (i := 6) (X := [6, 7, 11, 12, 13]) (oi := ?o_1m) (v := undef) ?i_1m (by kernel_rfl) (by kernel_rfl) (by kernel_rfl) (by kernel_rfl) (fun _ _ _ h => h) (Or.inr ⟨?g_1m, rfl⟩) hS ?_
    case i_1m => simp only [layG]; rfl
    case g_1m => rfl
    (try simp only [Act.put, layS])
    refine heldI_take (i := 7) (X := [7, 11, 12, 13]) (oi := ?o_1n) (v := undef) ?i_1n (by kernel_rfl) (by kernel_rfl) (by kernel_rfl) (by kernel_rfl) (fun _ _ _ h => h) (Or.inr ⟨?g_1n, rfl⟩) hS ?_
    case i_1n => simp only [layG]; rfl
    case g_1n => rfl
    (try simp only [Act.put, layS])
    refine heldI_take (i := 8) (X := [8, 9, 10, 11, 12, 13]) (oi := ?o_1o) (v := undef) ?i_1o (by kernel_rfl) (by kernel_rfl) (by kernel_rfl) (by kernel_rfl) (fun _ _ _ h => h) (Or.inr ⟨?g_1o, rfl⟩) hS ?_
    case i_1o => simp only [layG]; rfl
    case g_1o => rfl
    (try simp only [Act.put, layS])
    refine heldI_take (i := 9) (X := [9, 10, 11, 12, 13]) (oi := ?o_1p) (v := undef) ?i_1p (by kernel_rfl) (by kernel_rfl) (by kernel_rfl) (by kernel_rfl) (fun _ _ _ h => h) (Or.inr ⟨?g_1p, rfl⟩) hS ?_
    case i_1p => simp only [layG]; rfl
    case g_1p => rfl
    (try simp only [Act.put, layS])
    refine heldI_take (i := 10) (X := [10, 11, 12, 13]) (oi := ?o_1q) (v := undef) ?i_1q (by kernel_rfl) (by kernel_rfl) (by kernel_rfl) (by kernel_rfl) (fun _ _ _ h => h) (Or.inr ⟨?g_1q, rfl⟩) hS ?_
    case i_1q => simp only [layG]; rfl
    case g_1q => rfl
    (try simp only [Act.put, layS])
    refine heldI_take (i := 11) (X := [11, 12, 13]) (oi := ?o_1r) (v := undef) ?i_1r (by kernel_rfl) (by kernel_rfl) (by kernel_rfl) (by kernel_rfl) (fun _ _ _ h => h) (Or.inr ⟨?g_1r, rfl⟩) hS ?_
    case i_1r => simp only [layG]; rfl
    case g_1r => rfl
    (try simp only [Act.put, layS])
    refine heldI_take (i := 12) (X := [12, 13]) (oi := ?o_1s) (v := undef) ?i_1s (by kernel_rfl) (by kernel_rfl) (by kernel_rfl) (by kernel_rfl) (fun _ _ _ h => h) (Or.inr ⟨?g_1s, rfl⟩) hS ?_
    case i_1s => simp only [layG]; rfl
    case g_1s => rfl
    (try simp only [Act.put, layS])
    refine heldI_take (i := 13) (X := [13]) (oi := ?o_1t) (v := ?v_1t) ?i_1t (by kernel_rfl) (by kernel_rfl) (by kernel_rfl) (by kernel_rfl) (fun _ _ _ h => h) (Or.inl ⟨?g_1t, ?y_1t⟩) hS ?_
    case i_1t => simp only [layG]; rfl
    case g_1t => rfl
    case y_1t => (intro w hSw; (go_simp <;> with_reducible rfl))
    (try simp only [Act.put, layS])
    refine heldI_done (by kernel_rfl) ?_ _
    refine NoPanic.normal ?_
    clear hS
    gi_wp2
    refine ⟨KeepN.below HB3.out, ?_, ?_⟩
    ·rw [List.flatMap_append]
     have e : List.flatMap refR [((y, k) : Nd)] = [] := by simp [refR, hk, refO]
     rw [e, List.append_nil]
     exact HJ.out _ _ _ HI.out.1 (HB3.out.mono (Nat.le_trans HWV.out HI.out.2.size))
    ·exact HI.out.2.trans (KeepN.below HB3.out)
   | some z =>
    obtain ⟨za, zk⟩ := z
    rw [hk] at hr
    obtain ⟨A2, c2, rfl, hl2, hb2⟩ := RTreP.flat (a := za) (f := zk) hr
    clear hr hl2 q0 q1 q2 q3 q4 q5
    have HKK := Lib.hid hk
    clear hk
    gi_wp2_with fail
    have hb3 : Below V.heap.size V (V2.alloc (.cells #[.string (txt za.name), .string (txt za.key), .int .i64 za.kind, .int .u64 (za.num : Int), .string (txt za.text), .slice A2 zk.len c2] 27)).drew := (hb2.alloc hb2.size _).drew
    have hV2 : V.heap.size ≤ V2.heap.size := hb2.size
    have HS0 : Hid (Blk (V2.alloc (.cells #[.string (txt za.name), .string (txt za.key), .int .i64 za.kind, .int .u64 (za.num : Int), .string (txt za.text), .slice A2 zk.len c2] 27)).drew Bx 27 #[.string (txt y.name), .string (txt y.key), .int .i64 y.kind, .int .u64 (y.num : Int), .string (txt y.text), .slice A' k.len c'] ∧ Blk (V2.alloc (.cells #[.string (txt za.name), .string (txt za.key), .int .i64 za.kind, .int .u64 (za.num : Int), .string (txt za.text), .slice A2 zk.len c2] 27)).drew V2.heap.size 27 #[.string (txt za.name), .string (txt za.key), .int .i64 za.kind, .int .u64 (za.num : Int), .string (txt za.text), .slice A2 zk.len c2] ∧ Blk (V2.alloc (.cells #[.string (txt za.name), .string (txt za.key), .int .i64 za.kind, .int .u64 (za.num : Int), .string (txt za.text), .slice A2 zk.len c2] 27)).drew W.heap.size 97 #[.func (.yield l) #[] #[]]) := Lib.hid ⟨HBK.out.below hb3 HBK.out.lt, Blk.new V2 27 #[.string (txt za.name), .string (txt za.key), .int .i64 za.kind, .int .u64 (za.num : Int), .string (txt za.text), .slice A2 zk.len c2], HYR.out.below hb3 HYR.out.lt⟩
    have HB3 := Lib.hid hb3
    clear hb2 hb3 hV2
    refine wpIn_region_calm (ro := (some l')) ?_
    refine wpIn_region_heldI [11] (S := fun _ => True) (by kernel_rfl) trivial (fun hS => ?_)
    refine heldI_take (i := 0) (X := [0, 1, 2, 3, 4, 5, 6, 7, 8, 9, 10, 11, 12, 13]) (oi := ?o_1u) (v := ?v_1u) ?i_1u (by kernel_rfl) (by kernel_rfl) (by kernel_rfl) (by kernel_rfl) (fun _ _ _ h => h) (Or.inl ⟨?g_1u, ?y_1u⟩) hS ?_
    case i_1u => simp only [layG]; rfl
    case g_1u => rfl
    case y_1u => (intro w hSw; (go_simp <;> with_reducible rfl))
    (try simp only [Act.put, layS])
    refine heldI_take (i := 1) (X := [1, 2, 3, 4, 5, 6, 7, 8, 9, 10, 11, 12, 13]) (oi := ?o_1v) (v := ?v_1v) ?i_1v (by kernel_rfl) (by kernel_rfl) (by kernel_rfl) (by kernel_rfl) (fun _ _ _ h => h) (Or.inl ⟨?g_1v, ?y_1v⟩) hS ?_
    case i_1v => simp only [layG]; rfl
    case g_1v => rfl
    case y_1v => (intro w hSw; (go_simp <;> with_reducible rfl))
    (try simp only [Act.put, layS])
    refine heldI_more (S' := fun w' => Blk w' Bx 27 #[.string (txt y.name), .string (txt y.key), .int .i64 y.kind, .int .u64 (y.num : Int), .string (txt y.text), .slice A' k.len c'] ∧ Blk w' V2.heap.size 27 #[.string (txt za.name), .string (txt za.key), .int .i64 za.kind, .int .u64 (za.num : Int), .string (txt za.text), .slice A2 zk.len c2] ∧ Blk w' W.heap.size 97 #[.func (.yield l) #[] #[]]) (fun _ _ => trivial) _ _ _ _ ?_
    replace hS := HS0.out
    refine heldI_take (i := 2) (X := [2, 11, 12, 13]) (oi := ?o_1w) (v := ?v_1w) ?i_1w (by kernel_rfl) (by kernel_rfl) (by kernel_rfl) (by kernel_rfl) (fun _ _ _ h => h) (Or.inl ⟨?g_1w, ?y_1w⟩) hS ?_
    case i_1w => simp only [layG]; rfl
    case g_1w => rfl
    case y_1w => (intro w hSw; have y0 := (hSw.2.2.cell 0).trans rfl; (go_simp <;> with_reducible rfl))
    (try simp only [Act.put, layS])
    refine heldI_take (i := 3) (X := [3, 4, 6, 7, 11, 12, 13]) (oi := ?o_1x) (v := ?v_1x) ?i_1x (by kernel_rfl) (by kernel_rfl) (by kernel_rfl) (by kernel_rfl) (fun _ _ _ h => h) (Or.inl ⟨?g_1x, ?y_1x⟩) hS ?_
    case i_1x => simp only [layG]; rfl
    case g_1x => rfl
    case y_1x => (intro w hSw; have q0 := (hSw.1.cell 0).trans rfl; have q1 := (hSw.1.cell 1).trans rfl; have q2 := (hSw.1.cell 2).trans rfl; have q3 := (hSw.1.cell 3).trans rfl; have q4 := (hSw.1.cell 4).trans rfl; have q5 := (hSw.1.cell 5).trans rfl; (go_simp <;> with_reducible rfl))
    (try simp only [Act.put, layS])
    refine heldI_take (i := 5) (X := [5, 6, 7, 11, 12, 13]) (oi := ?o_1y) (v := ?v_1y) ?i_1y (by kernel_rfl) (by kernel_rfl) (by kernel_rfl) (by kernel_rfl) (fun _ _ _ h => h) (Or.inl ⟨?g_1y, ?y_1y⟩) hS ?_
    case i_1y => simp only [layG]; rfl
    case g_1y => rfl
    case y_1y => (intro w hSw; have q0 := (hSw.2.1.cell 0).trans rfl; have q1 := (hSw.2.1.cell 1).trans rfl; have q2 := (hSw.2.1.cell 2).trans rfl; have q3 := (hSw.2.1.cell 3).trans rfl; have q4 := (hSw.2.1.cell 4).trans rfl; have q5 := (hSw.2.1.cell 5).trans rfl; (go_simp <;> with_reducible rfl))
    (try simp only [Act.put, layS])
    refine heldI_take (i := 8) (X := [8, 9, 10, 11, 12, 13]) (oi := ?o_1z) (v := ?v_1z) ?i_1z (by kernel_rfl) (by kernel_rfl) (by kernel_rfl) (by kernel_rfl) (fun _ _ _ h => h) (Or.inl ⟨?g_1z, ?y_1z⟩) hS ?_
    case i_1z => simp only [layG]; rfl
    case g_1z => rfl
    case y_1z => (intro w hSw; (go_simp <;> with_reducible rfl))
    (try simp only [Act.put, layS])
    refine heldI_take (i := 9) (X := [9, 10, 11, 12, 13]) (oi := ?o_20) (v := ?v_20) ?i_20 (by kernel_rfl) (by kernel_rfl) (by kernel_rfl) (by kernel_rfl) (fun _ _ _ h => h) (Or.inl ⟨?g_20, ?y_20⟩) hS ?_
    case i_20 => simp only [layG]; rfl
    case g_20 => rfl
    case y_20 => (intro w hSw; (go_simp <;> with_reducible rfl))
    (try simp only [Act.put, layS])
    refine heldI_take (i := 10) (X := [10, 11, 12, 13]) (oi := ?o_21) (v := ?v_21) ?i_21 (by kernel_rfl) (by kernel_rfl) (by kernel_rfl) (by kernel_rfl) (fun _ _ _ h => h) (Or.inl ⟨?g_21, ?y_21⟩) hS ?_
    case i_21 => simp only [layG]; rfl
    case g_21 => rfl
    case y_21 => (intro w hSw; have q0 := (hSw.2.1.cell 0).trans rfl; have q1 := (hSw.2.1.cell 1).trans rfl; have q2 := (hSw.2.1.cell 2).trans rfl; have q3 := (hSw.2.1.cell 3).trans rfl; have q4 := (hSw.2.1.cell 4).trans rfl; have q5 := (hSw.2.1.cell 5).trans rfl; (go_simp <;> with_reducible rfl))
    (try simp only [Act.put, layS])
    refine heldI_ready (rs := [4]) (by kernel_rfl) (by simp) ?_
    refine (ReadyI.cons (o := ?or_22) ?ir_22 (by kernel_rfl) (fun K hK => ?str_22) ReadyI.nil)
    case ir_22 => simp only [layG]; rfl
    rw [if_pos (by rfl)]
    refine opIn_of (by kernel_rfl) ?_
    go_simp
    refine (vstepof_any y _ _).mono ?_
    rintro r w4 ⟨rfl, hb⟩
    have HB4 := Lib.hid (HB3.out.trans (hb.mono HB3.out.size))
    have HS4 := Lib.hid (And.intro (HS0.out.1.below hb HS0.out.1.lt) (And.intro (HS0.out.2.1.below hb HS0.out.2.1.lt) (HS0.out.2.2.below hb HS0.out.2.2.lt)))
    clear hb
    go_wp2_with fail
    refine hK.out _ _ ?sr_22 (fun hS => ?_)
    case sr_22 => (exact HS4.out)
    clear hK K
    (try simp only [Act.put, layS])
    refine heldI_ready (rs := [6]) (by kernel_rfl) (by simp) ?_
    refine (ReadyI.cons (o := ?or_23) ?ir_23 (by kernel_rfl) (fun K hK => ?str_23) ReadyI.nil)
    case ir_23 => simp only [layG]; rfl
    rw [if_pos (by rfl)]
    refine opIn_of (by kernel_rfl) ?_
    go_simp
    refine (vstepof_any za _ _).mono ?_
    rintro r w6 ⟨rfl, hb⟩
    have HB6 := Lib.hid (HB4.out.trans (hb.mono HB4.out.size))
    have HS6 := Lib.hid (And.intro (HS4.out.1.below hb HS4.out.1.lt) (And.intro (HS4.out.2.1.below hb HS4.out.2.1.lt) (HS4.out.2.2.below hb HS4.out.2.2.lt)))
    clear hb
    go_wp2_with fail
    refine hK.out _ _ ?sr_23 (fun hS => ?_)
    case sr_23 => (exact HS6.out)
    clear hK K
    (try simp only [Act.put, layS])
    refine heldI_ready (rs := [7]) (by kernel_rfl) (by simp) ?_
    refine (ReadyI.cons (o := ?or_24) ?ir_24 (by kernel_rfl) (fun K hK => ?str_24) ReadyI.nil)
    case ir_24 => simp only [layG]; rfl
    rw [if_pos (by rfl)]
    refine opIn_of (by kernel_rfl) ?_
    go_simp
    refine hK.out _ _ ?sr_24 (fun hS => ?_)
    case sr_24 => (exact And.intro (HS6.out.1.alloc _) (And.intro (HS6.out.2.1.alloc _) (HS6.out.2.2.alloc _)))
    clear hK K
    (try simp only [Act.put, layS])
    refine heldI_ready (rs := [11]) (by kernel_rfl) (by simp) ?_
    refine (ReadyI.consD (o := ?or_25) ?ir_25 (by kernel_rfl) (fun K hK => ?str_25) ReadyI.nil)
    case ir_25 => simp only [layG]; rfl
    rw [if_pos (by rfl)]
    have HB7 : Hid (Below V.heap.size V (w6.alloc (.cells #[.string (txt y.name), .string (txt y.key), .string (txt za.name), .string (txt za.key)] 45))) := Lib.hid (HB6.out.alloc HB6.out.size _)
    have HRX : Hid (refR (y, k) = [([stp y, stp za], za.text)]) := Lib.hid (by simp [refR, HKK.out, refO])
    have HYC := Lib.hid (HY.out (([([stp da], da.text)] : List Rf) ++ pre.flatMap refR) ([stp y, stp za], za.text) (post.flatMap refR) #[.slice (some ⟨w6.heap.size, 0, none⟩) 2 2, .string (txt za.text)] _ (by rw [HXS.out, HRX.out, HD.out]; rfl) (HJ.out _ _ _ HI.out.1 (HB7.out.mono (Nat.le_trans HWV.out HI.out.2.size))) ⟨_, rfl, OwnS.two (w := w6) (stp y) (stp za) (Nat.le_trans (Nat.le_trans HWV.out HI.out.2.size) HB6.out.size)⟩)
    refine opIn_yield (by kernel_rfl) (fun fn tmps assign body h => by simp [execOp, resolve, invoke, go_sem, h]) HYC.out (fun e w11 he => ?_)
    obtain ⟨bb, rfl, hT, hF⟩ := goY_bool he
    have HT := Lib.hid hT
    have HF := Lib.hid hF
    clear he hT hF
    refine ⟨_, rfl, ?_⟩
    refine hK.out _ _ ?_
    have hS : True := trivial
    clear hK K
    (try simp only [Act.put, layS])
    refine heldI_take (i := 12) (X := [12, 13]) (oi := ?o_26) (v := ?v_26) ?i_26 (by kernel_rfl) (by kernel_rfl) (by kernel_rfl) (by kernel_rfl) (fun _ _ _ h => h) (Or.inl ⟨?g_26, ?y_26⟩) hS ?_
    case i_26 => simp only [layG]; rfl
    case g_26 => rfl
    case y_26 => (intro w hSw; (go_simp <;> with_reducible rfl))
    (try simp only [Act.put, layS])
    refine heldI_take (i := 13) (X := [13]) (oi := ?o_27) (v := ?v_27) ?i_27 (by kernel_rfl) (by kernel_rfl) (by kernel_rfl) (by kernel_rfl) (fun _ _ _ h => h) (Or.inl ⟨?g_27, ?y_27⟩) hS ?_
    case i_27 => simp only [layG]; rfl
    case g_27 => rfl
    case y_27 => (intro w hSw; (go_simp <;> with_reducible rfl))
    (try simp only [Act.put, layS])
    refine heldI_done (by kernel_rfl) ?_ _
    refine NoPanic.normal ?_
    clear hS
    cases bb with
    | true =>
     have HJK := Lib.hid (HT.out rfl)
     clear HT HF
     gi_wp2
     obtain ⟨hj, hk2⟩ := HJK.out
     have hb7 := HB7.out
     refine ⟨(KeepN.below hb7).trans (hk2.mono (fun k _ h => by
      rcases h with (h | h) | h
      ·exact .inl (HNN.out.1 k h)
      ·exact .inr (by have := HKT0.out.size; omega)
      ·exact .inr (Nat.le_trans HWV.out h))), ?_, HI.out.2.trans ((KeepN.below hb7).trans (hk2.mono (fun k _ h => h)))⟩
     rw [List.flatMap_append]
     have e : List.flatMap refR [((y, k) : Nd)] = [([stp y, stp za], za.text)] := by rw [List.flatMap_cons, HRX.out]; rfl
     rw [e, ← List.append_assoc]
     exact hj
    | false =>
     have HJK := Lib.hid (HF.out rfl)
     clear HT HF
     gi_wp2
     obtain ⟨hj, hk2⟩ := HJK.out
     refine ⟨((KeepN.below (N := N) (m := V0.heap.size) HB7.out).from (Nat.le_refl _)).trans (keepsFrom_mono hk2 HWV.out), rfl, ([([stp da], da.text)] : List Rf) ++ pre.flatMap refR, ([stp y, stp za], za.text), post.flatMap refR, ?_, hj⟩
     rw [HXS.out, HRX.out, HD.out]
     rfl
  case done =>
   intro D V hD hI hK
   rw [HACT.out]
   have HIJ : Hid (J (refsL f) (V.putObj D (.deferred none))) := Lib.hid (by
    have h := (HJ.out _).putObj (l := D) (.deferred none) (by have := HWV.out; omega) hI.1
    have e : refsL f = ([([stp da], da.text)] : List Rf) ++ (kidsOf nRule f).flatMap refR := by unfold refsL; rw [HD.out]; rfl
    rw [e]
    exact h)
   clear hI
   gi_wp2
   refine ⟨by simp, .inl ⟨_, _, rfl, run_takeDeferred hK, ?_⟩⟩
   exact ⟨_, results_none rfl _ _ _, ⟨_, rfl⟩, .inl HIJ.out⟩
  case stop =>
   rintro D c pre x post V hD hxs ⟨rfl, p, x', q, h2, h3⟩ hK
   rw [HACT.out]
   have h4 := OwnFrom.putObj HJx.out (s := p ++ [x']) (o' := .deferred none) h3 (by have := HWV.out; omega) hK rfl
   gi_wp2
   refine ⟨by simp, .inl ⟨_, _, rfl, run_takeDeferred hK, ?_⟩⟩
   exact ⟨_, results_none rfl _ _ _, ⟨_, rfl⟩, .inr ⟨p, x', q, h2, h4⟩⟩
 | false =>
  have HJK := Lib.hid (HF.out rfl)
  clear HT HF
  gi_wp2
  exact ⟨_, results_none rfl _ _ _, ⟨_, rfl⟩, .inr ⟨[], ([stp da], da.text), (kidsOf nRule f).flatMap refR, by unfold refsL; rw [hd]; rfl, HJK.out.1⟩⟩
theorem refs_seq (a : NdD) (f : NdF) (A : Option Addr) (c b g1 : Nat) (N : Nat → Prop) (w : World) (hrow : RowT b w (.slice A f.len c) f) (hb1 : Blk w g1 27 #[.string (txt a.name), .string (txt a.key), .int .i64 a.kind, .int .u64 (a.num : Int), .string (txt a.text), .slice A f.len c]) (hN : ∀ k, k < b → N k) (hN1 : N g1) (hbW : b ≤ w.heap.size) (hf : f.size ≤ 1000000) :
  SeqG Tryz.prog 52 #[.pointer (some ⟨g1, 0, none⟩)] EncR N (refsL f) w := fun l J Jx W hW hJ hJx hY h0 => by
 refine (callsIn_wide (n := 9)).1 ?_
 have hh : RfsH b g1 l f N J Jx W := ⟨hN, hN1, Nat.le_trans hbW hW.size, hf, hJ, hJx, hY⟩
 cases hd : kidO nDefault f with
 | none => exact refs1_none a f A c b g1 l N J Jx W (hrow.under hW hbW (Nat.le_refl _)) (hb1.below hW hb1.lt) hh h0 hd
 | some y => exact refs1_some a f A c b g1 l N J Jx W (hrow.under hW hbW (Nat.le_refl _)) (hb1.below hW hb1.lt) hh h0 y.1 y.2 hd
end Go.Proofs.YtljjaikejfoanaaGreat
