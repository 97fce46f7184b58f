/- EdvE -/
import Derived.Test.YtleidkpdpabkpaaGreatDoorBM37
import Derived.Test.YtleidkpdpabkpaaGreatDoorBM40
set_option linter.unusedSimpArgs false
set_option linter.unusedVariables false
set_option maxRecDepth 100000
set_option maxHeartbeats 8000000
namespace Go.Proofs.YtleidkpdpabkpaaGreatDoor
open Go.RowKit
section
attribute [local go_sem] Oper.semAt_some
def SiG18 (w : World) (t : TypeId) (cs : Array Value) (u : Value) (F : Fo) (W : World) : Prop :=
 Blk W w.heap.size t cs ∧ Blk W (w.heap.size + 1) 58 #[.int .u64 0, .slice none 0 0, .slice none 0 0] ∧ OwnF DataI 58 W (w.heap.size + 2) u F ∧ Below w.heap.size w W ∧ w.heap.size + 2 ≤ W.heap.size
theorem SiG18.go {w : World} {t : TypeId} {cs : Array Value} {u : Value} {F : Fo} {W W' : World} (h : SiG18 w t cs u F W) (hb : Below W.heap.size W W') : SiG18 w t cs u F W' :=
 ⟨h.1.below hb h.1.lt, h.2.1.below hb h.2.1.lt, h.2.2.1.below stays_I hb, h.2.2.2.1.trans (hb.mono h.2.2.2.1.size), Nat.le_trans h.2.2.2.2 hb.size⟩
theorem SiG18.app {w : World} {t : TypeId} {cs : Array Value} {u v' : Value} {F G : Fo} {W w' : World} (h : SiG18 w t cs u F W) (hap : AppF DataI 58 W (w.heap.size + 2) u G v' w') : SiG18 w t cs v' G w' := by
 obtain ⟨h1, h2, h3, h4, h5⟩ := h
 have n1 : ∀ g, g < w.heap.size + 2 → some g ≠ u.ownBlock := fun g hg e => by have := (h3.lt g e.symm).1; omega
 have hb := hap.below h3 h5
 exact ⟨h1.grown hap.2.1 (n1 _ (by omega)), h2.grown hap.2.1 (n1 _ (by omega)), hap.1, h4.trans (hb.mono (by omega)), Nat.le_trans h5 hap.2.1.size⟩
def inE18 (x : EdD) : Fo := .cons 2 (showX x.way) .nil (if x.kind = 2 then (if x.kind = 1 then .nil else itm18 leastB 5 x.old .nil) else itm18 leastB 3 x.node (if x.kind = 1 then .nil else itm18 leastB 5 x.old .nil))
theorem its_cons18 (x : EdD) (l : List EdD) : itsE18 leastB (x :: l) = .cons (2 * x.kind + 1).toNat [] (inE18 x) (itsE18 leastB l) := rfl
theorem showI_len18 {l : List Stp} (h : showX l ≠ []) (h0 : l ≠ []) : (showX l).length ≤ 1048576 := by
 unfold showX
 by_cases h1 : l.all okS = true
 ·rw [if_pos h1, if_neg h0]
  by_cases h6 : 6 < l.length
  ·rw [if_pos h6]; simp
  ·rw [if_neg h6]
   have := catT_len h1
   omega
 ·rw [if_neg h1]; simp
theorem iof_any18 (xk : Int) (xw : List Stp) (xp : NdD) (xpf : NdF) (xo : NdD) (xof : NdF) (Aw : Option Addr) (cw : Nat) (An : Option Addr) (cn : Nat) (Ao : Option Addr) (co : Nat) (w : World)
  (hw : WayV w.heap.size w (.slice Aw xw.length cw) xw) (hn : RowT w.heap.size w (.slice An xpf.len cn) xpf) (ho : RowT w.heap.size w (.slice Ao xof.len co) xof) (hok : OkE18 ⟨xk, xw, (xp, xpf), (xo, xof)⟩) (hoke : okE18 ⟨xk, xw, (xp, xpf), (xo, xof)⟩ = true) :
  Calls Tryz.prog 21 #[.agg #[.int .i64 xk, .slice Aw xw.length cw, .string (txt xp.name), .string (txt xp.key), .int .i64 xp.kind, .int .u64 (xp.num : Int), .string (txt xp.text), .slice An xpf.len cn, .string (txt xo.name), .string (txt xo.key), .int .i64 xo.kind, .int .u64 (xo.num : Int), .string (txt xo.text), .slice Ao xof.len co]] w (ItmI18 (2 * xk + 1).toNat (inE18 ⟨xk, xw, (xp, xpf), (xo, xof)⟩) w) := by
 have h0 : Below w.heap.size w ((w.alloc (.cells #[.int .i64 xk, .slice Aw xw.length cw, .string (txt xp.name), .string (txt xp.key), .int .i64 xp.kind, .int .u64 (xp.num : Int), .string (txt xp.text), .slice An xpf.len cn, .string (txt xo.name), .string (txt xo.key), .int .i64 xo.kind, .int .u64 (xo.num : Int), .string (txt xo.text), .slice Ao xof.len co] 55)).alloc (.cells #[.int .u64 0, .slice none 0 0, .slice none 0 0] 58)) := bAl.alloc (by simp) _
 have hb1 : Blk ((w.alloc (.cells #[.int .i64 xk, .slice Aw xw.length cw, .string (txt xp.name), .string (txt xp.key), .int .i64 xp.kind, .int .u64 (xp.num : Int), .string (txt xp.text), .slice An xpf.len cn, .string (txt xo.name), .string (txt xo.key), .int .i64 xo.kind, .int .u64 (xo.num : Int), .string (txt xo.text), .slice Ao xof.len co] 55)).alloc (.cells #[.int .u64 0, .slice none 0 0, .slice none 0 0] 58)) w.heap.size 55 #[.int .i64 xk, .slice Aw xw.length cw, .string (txt xp.name), .string (txt xp.key), .int .i64 xp.kind, .int .u64 (xp.num : Int), .string (txt xp.text), .slice An xpf.len cn, .string (txt xo.name), .string (txt xo.key), .int .i64 xo.kind, .int .u64 (xo.num : Int), .string (txt xo.text), .slice Ao xof.len co] := (Blk.new _ _ _).alloc _
 have hb2 : Blk ((w.alloc (.cells #[.int .i64 xk, .slice Aw xw.length cw, .string (txt xp.name), .string (txt xp.key), .int .i64 xp.kind, .int .u64 (xp.num : Int), .string (txt xp.text), .slice An xpf.len cn, .string (txt xo.name), .string (txt xo.key), .int .i64 xo.kind, .int .u64 (xo.num : Int), .string (txt xo.text), .slice Ao xof.len co] 55)).alloc (.cells #[.int .u64 0, .slice none 0 0, .slice none 0 0] 58)) (w.heap.size + 1) 58 #[.int .u64 0, .slice none 0 0, .slice none 0 0] := blk_at18 (by simp) _ _
 have hz : ((w.alloc (.cells #[.int .i64 xk, .slice Aw xw.length cw, .string (txt xp.name), .string (txt xp.key), .int .i64 xp.kind, .int .u64 (xp.num : Int), .string (txt xp.text), .slice An xpf.len cn, .string (txt xo.name), .string (txt xo.key), .int .i64 xo.kind, .int .u64 (xo.num : Int), .string (txt xo.text), .slice Ao xof.len co] 55)).alloc (.cells #[.int .u64 0, .slice none 0 0, .slice none 0 0] 58)).heap.size = w.heap.size + 1 + 1 := by simp
 simp only [okE18, Bool.and_eq_true, Bool.or_eq_true, decide_eq_true_eq] at hoke
 obtain ⟨⟨⟨⟨⟨⟨hk, hw0⟩, hs⟩, hp⟩, ho0⟩, kp⟩, ko⟩ := hoke
 obtain ⟨S, hS⟩ : ∃ S, S = showX xw := ⟨_, rfl⟩
 obtain ⟨hnb, hhn⟩ : ∃ b, b = decide (xk ≠ 2) := ⟨_, rfl⟩
 obtain ⟨hob, hho⟩ : ∃ b, b = decide (xk ≠ 1) := ⟨_, rfl⟩
 obtain ⟨KP, hKP⟩ : ∃ K, K = inI18 leastB xp (itmF18 leastB xpf) := ⟨_, rfl⟩
 obtain ⟨KO, hKO⟩ : ∃ K, K = inI18 leastB xo (itmF18 leastB xof) := ⟨_, rfl⟩
 obtain ⟨tg, htg⟩ : ∃ n : Nat, n = xk.toNat := ⟨_, rfl⟩
 obtain ⟨F1, hF1⟩ : ∃ F, F = (Fo.cons 2 S .nil .nil).app (if hnb = true then .cons 3 [] KP .nil else .nil) := ⟨_, rfl⟩
 obtain ⟨F2, hF2⟩ : ∃ F, F = F1.app (if hob = true then .cons 5 [] KO .nil else .nil) := ⟨_, rfl⟩
 have HIN : Hid (inE18 ⟨xk, xw, (xp, xpf), (xo, xof)⟩ = F2) := hHd (by
  rw [hF2, hF1, hhn, hho, hKP, hKO, hS]
  unfold inE18 itm18
  by_cases e2 : xk = 2
  ·have e1 : ¬ xk = 1 := by omega
   simp [e1, e2, Fo.app]
  ·by_cases e1 : xk = 1
   ·simp [e1, Fo.app]
   ·simp [e1, e2, Fo.app])
 have HTG : Hid ((2 * xk + 1).toNat = 2 * tg + 1 ∧ 2 * tg + 1 < 18446744073709551616) := hHd (by omega)
 have hl1 : F1.len ≤ 2 := by rw [hF1, Fo.len_app]; split <;> simp only [Fo.len] <;> omega
 have hl2 : F2.len ≤ 3 := by rw [hF2, Fo.len_app]; split <;> simp only [Fo.len] <;> omega
 have HLE := hHd (And.intro hl1 hl2)
 have hxk : xk = (tg : Int) := by omega
 have HSH : ∀ W, Below w.heap.size w W → Hid (Calls Tryz.prog 41 #[.slice Aw xw.length cw] W (fun r w' => r = .returned (.string (txt S)) ∧ Below W.heap.size W w')) := fun W hW => hHd (by rw [hS]; exact show15_any xw _ W (WayV.below hw hW) hok.way hok.txts)
 have HHN : ∀ W, Hid (Calls Tryz.prog 42 #[.int .i64 xk] W (fun r w' => r = .returned (.bool hnb) ∧ W = w')) := fun W => hHd (by rw [hhn]; exact hasNode_any18 xk W)
 have HHO : ∀ W, Hid (Calls Tryz.prog 44 #[.int .i64 xk] W (fun r w' => r = .returned (.bool hob) ∧ W = w')) := fun W => hHd (by rw [hho]; exact hasOld_any18 xk W)
 have HTA : ∀ W, Hid (Calls Tryz.prog 45 #[.int .i64 xk] W (fun r w' => r = .returned (.int .u64 ((2 * tg + 1 : Nat) : Int)) ∧ W = w')) := fun W => hHd (by rw [hxk]; exact tag_any18 tg (by omega) W)
 have HIP : ∀ W, Below w.heap.size w W → Hid (Calls Tryz.prog 43 #[.int .u64 3, .agg (cN xp (.slice An xpf.len cn))] W (ItmI18 3 KP W)) := fun W hW => hHd (by rw [hKP]; exact item_any18 xpf 3 xp An cn W (by decide) (hn.under hW (Nat.le_refl _) hW.size) hok.node hok.nodeT.1 hok.nodeT.2 kp)
 have HIO : ∀ W, Below w.heap.size w W → Hid (Calls Tryz.prog 43 #[.int .u64 5, .agg (cN xo (.slice Ao xof.len co))] W (ItmI18 5 KO W)) := fun W hW => hHd (by rw [hKO]; exact item_any18 xof 5 xo Ao co W (by decide) (ho.under hW (Nat.le_refl _) hW.size) hok.old hok.oldT.1 hok.oldT.2 ko)
 have HSL : Hid (S.length ≤ 1048576) := hHd (by rw [hS]; exact showI_len18 hs hw0)
 have HF1 := hHd hF1
 have HF2 := hHd hF2
 have HB0 := hHd h0
 have HB1 := hHd (And.intro hb1 hb2)
 have HZ := hHd hz
 have hsz := txt_size S
 have hts : (txt S).toList = S := txt_toList _
 clear hw hn ho hok hk hw0 hs hp ho0 kp ko hS hhn hho hKP hKO htg hF1 hF2 hl1 hl2 hxk h0 hb1 hb2 hz
 go_enter Tryz.func21, Tryz.ntmps21
 go_upto_region 1 with (fail)
 revert HB0 HB1 HZ
 generalize ((w.alloc (.cells #[.int .i64 xk, .slice Aw xw.length cw, .string (txt xp.name), .string (txt xp.key), .int .i64 xp.kind, .int .u64 (xp.num : Int), .string (txt xp.text), .slice An xpf.len cn, .string (txt xo.name), .string (txt xo.key), .int .i64 xo.kind, .int .u64 (xo.num : Int), .string (txt xo.text), .slice Ao xof.len co] 55)).alloc (.cells #[.int .u64 0, .slice none 0 0, .slice none 0 0] 58)) = w1
 intro HB0 HB1 HZ
 go_cut [3] (fun u wx => ∃ v : Value, v = u ∧ Hid (SiG18 w 55 #[.int .i64 xk, .slice Aw xw.length cw, .string (txt xp.name), .string (txt xp.key), .int .i64 xp.kind, .int .u64 (xp.num : Int), .string (txt xp.text), .slice An xpf.len cn, .string (txt xo.name), .string (txt xo.key), .int .i64 xo.kind, .int .u64 (xo.num : Int), .string (txt xo.text), .slice Ao xof.len co] v (.cons 2 S .nil .nil) wx))
 case first =>
  have q1 := (HB1.out.1.cell 1).trans rfl
  go_wp2_with fail
  refine (HSH _ HB0.out).out.mono ?_
  rintro r w2 ⟨rfl, hb⟩
  obtain ⟨cd, hcd⟩ : ∃ cd, cd = grownCap w2 (txt S).size 0 5 := ⟨_, rfl⟩
  have hcl : S.length ≤ cd := by rw [hcd]; exact grownCap_ge _ _ _ _
  have kc0 := run_bytes_of_string (P := Tryz.prog) w2 9 25 5 (txt S) Tryz.underlying9 Tryz.underlying25 Tryz.underlying5
  rw [← hcd] at kc0
  obtain ⟨hd0, hbl0, hbw0⟩ : Rd (((w2.alloc (.cells (bytesRow (txt S) cd) 5 ((bytesRow (txt S) cd).size, (bytesRow (txt S) cd).size + 1))).alloc (.cells #[.int .u64 2, (.slice (some ⟨w2.heap.size, 0, none⟩) S.length cd), .slice none 0 0] 58)).drew) w2.heap.size (.slice (some ⟨w2.heap.size, 0, none⟩) S.length cd) S ∧ Blk (((w2.alloc (.cells (bytesRow (txt S) cd) 5 ((bytesRow (txt S) cd).size, (bytesRow (txt S) cd).size + 1))).alloc (.cells #[.int .u64 2, (.slice (some ⟨w2.heap.size, 0, none⟩) S.length cd), .slice none 0 0] 58)).drew) (w2.heap.size + 1) 58 #[.int .u64 ((2 : Nat) : Int), (.slice (some ⟨w2.heap.size, 0, none⟩) S.length cd), .slice none 0 0] ∧ Below w2.heap.size w2 (((w2.alloc (.cells (bytesRow (txt S) cd) 5 ((bytesRow (txt S) cd).size, (bytesRow (txt S) cd).size + 1))).alloc (.cells #[.int .u64 2, (.slice (some ⟨w2.heap.size, 0, none⟩) S.length cd), .slice none 0 0] 58)).drew) := text_item18 w2 S 2 cd HSL.out hcl
  have hz2 : w.heap.size + 2 ≤ w2.heap.size := Nat.le_trans (by rw [HZ.out]; exact Nat.le_refl _) hb.size
  have HQ : Hid (SiG18 w 55 #[.int .i64 xk, .slice Aw xw.length cw, .string (txt xp.name), .string (txt xp.key), .int .i64 xp.kind, .int .u64 (xp.num : Int), .string (txt xp.text), .slice An xpf.len cn, .string (txt xo.name), .string (txt xo.key), .int .i64 xo.kind, .int .u64 (xo.num : Int), .string (txt xo.text), .slice Ao xof.len co] (.slice (some ⟨w2.heap.size + 1, 0, none⟩) 1 1) (.cons 2 S .nil .nil) (((w2.alloc (.cells (bytesRow (txt S) cd) 5 ((bytesRow (txt S) cd).size, (bytesRow (txt S) cd).size + 1))).alloc (.cells #[.int .u64 2, (.slice (some ⟨w2.heap.size, 0, none⟩) S.length cd), .slice none 0 0] 58)).drew)) := hHd (by
   have hbb := hb.trans (hbw0.mono hb.size)
   exact ⟨HB1.out.1.below hbb HB1.out.1.lt, HB1.out.2.below hbb HB1.out.2.lt, OwnF.litI18 (t := 2) hbl0 (by omega) (by decide) (dataI_its18 hd0 hz2 (fun e => by have e2 : w2.heap.size + 1 = w2.heap.size := Option.some.inj e; omega)), HB0.out.trans (hbb.mono HB0.out.size), Nat.le_trans hz2 hbw0.size⟩)
  clear hcd hcl hd0 hbl0 hbw0 hz2 hb q1 HB0 HB1 HZ
  go_wp2_with fail
  go_meet
  exact ⟨_, rfl, HQ⟩
 case rest =>
 obtain ⟨u, rfl, HST⟩ := hcut
 clear HB0 HB1 HZ HSH HSL hsz hts
 obtain ⟨w3, hw3⟩ : ∃ w3, w3 = wc := ⟨_, rfl⟩
 subst hw3
 go_upto_region 2 with (fail)
 go_cut [12] (fun b wx => b = .bool hnb ∧ Hid (SiG18 w 55 #[.int .i64 xk, .slice Aw xw.length cw, .string (txt xp.name), .string (txt xp.key), .int .i64 xp.kind, .int .u64 (xp.num : Int), .string (txt xp.text), .slice An xpf.len cn, .string (txt xo.name), .string (txt xo.key), .int .i64 xo.kind, .int .u64 (xo.num : Int), .string (txt xo.text), .slice Ao xof.len co] u (Fo.cons 2 S .nil .nil) wx))
 case first =>
  have q0 := (HST.out.1.cell 0).trans rfl
  go_wp2_with fail
  refine (HHN _).out.mono ?_
  rintro r w9 ⟨rfl, rfl⟩
  go_wp2_with fail
  go_meet
  exact ⟨rfl, HST⟩
 case rest =>
 obtain ⟨rfl, HST⟩ := hcut
 obtain ⟨x3, hx3⟩ : ∃ x3, x3 = wc := ⟨_, rfl⟩
 subst hx3
 go_upto_if 12 with (fail)
 go_cut [3] (fun u wx => ∃ v : Value, v = u ∧ Hid (SiG18 w 55 #[.int .i64 xk, .slice Aw xw.length cw, .string (txt xp.name), .string (txt xp.key), .int .i64 xp.kind, .int .u64 (xp.num : Int), .string (txt xp.text), .slice An xpf.len cn, .string (txt xo.name), .string (txt xo.key), .int .i64 xo.kind, .int .u64 (xo.num : Int), .string (txt xo.text), .slice Ao xof.len co] v F1 wx))
 case first =>
  cases hnb with
  | false =>
   have HE : Hid (F1 = (Fo.cons 2 S .nil .nil)) := hHd (by rw [HF1.out]; simp [Fo.app_nil])
   go_wp2_with fail
   go_meet
   exact ⟨_, rfl, by rw [HE.out]; exact HST⟩
  | true =>
   have HE : Hid (F1 = (Fo.cons 2 S .nil .nil).app (.cons 3 [] KP .nil)) := hHd (by rw [HF1.out]; rfl)
   have q2 := (HST.out.1.cell 2).trans rfl
   have q3 := (HST.out.1.cell 3).trans rfl
   have q4 := (HST.out.1.cell 4).trans rfl
   have q5 := (HST.out.1.cell 5).trans rfl
   have q6 := (HST.out.1.cell 6).trans rfl
   have q7 := (HST.out.1.cell 7).trans rfl
   go_wp2_with fail
   refine (HIP _ HST.out.2.2.2.1).out.mono ?_
   rintro r w8 ⟨A8, c8, rfl, hfv, hb8⟩
   obtain ⟨n, hn⟩ : ∃ n, n = KP.len := ⟨_, rfl⟩
   rw [← hn]
   rw [← hn] at hfv
   clear hn
   have hb9 : Below w8.heap.size w8 (w8.alloc (.cells #[.int .u64 3, .slice none 0 0, .slice A8 n c8] 58)) := bAl
   have HSA : Hid (SiG18 w 55 #[.int .i64 xk, .slice Aw xw.length cw, .string (txt xp.name), .string (txt xp.key), .int .i64 xp.kind, .int .u64 (xp.num : Int), .string (txt xp.text), .slice An xpf.len cn, .string (txt xo.name), .string (txt xo.key), .int .i64 xo.kind, .int .u64 (xo.num : Int), .string (txt xo.text), .slice Ao xof.len co] u (Fo.cons 2 S .nil .nil) (w8.alloc (.cells #[.int .u64 3, .slice none 0 0, .slice A8 n c8] 58))) := hHd ((HST.out.go hb8).go hb9)
   have HBL : Hid (Blk (w8.alloc (.cells #[.int .u64 3, .slice none 0 0, .slice A8 n c8] 58)) w8.heap.size 58 #[.int .u64 ((3 : Nat) : Int), .slice none 0 0, .slice A8 n c8]) := hHd (Blk.new _ _ _)
   have HFV : Hid (FV DataI (w8.alloc (.cells #[.int .u64 3, .slice none 0 0, .slice A8 n c8] 58)) (ItsI (w.heap.size + 2) (w8.alloc (.cells #[.int .u64 3, .slice none 0 0, .slice A8 n c8] 58)) u) (.slice A8 n c8) KP) := hHd (its_fv18 HST.out.2.2.1 HST.out.2.2.2.2 (hfv.kept stays_I (fun g hg => Below.heap_alloc _ _ _ hg.2) (fun g hg => ⟨hg.1, Nat.lt_of_lt_of_le hg.2 (by simp)⟩)))
   clear hb8 hb9 hfv q2 q3 q4 q5 q6 q7 HST
   go_wp2_with (at_builtin; refine wpList_append_it stays_I one_I Tryz.underlying56 Tryz.infoT18 zeroI18 rfl (.tmp 13) (.tmp 17) rfl rfl (w.heap.size + 2) u (Fo.cons 2 S .nil .nil) rfl HSA.out.2.2.1 w8.heap.size rfl 3 [] KP (.slice none 0 0) (.slice A8 n c8) HBL.out (by decide) (dataI_nil18 _ _) HFV.out (by first | (have := HLE.out.1; omega) | (simp only [Fo.len]; omega)) (by first | (have := HLE.out.1; omega) | (simp only [Fo.len]; omega)) HSA.out.2.2.2.2 ?_)
   intro v9 w9 hap
   have H9 := hHd (HSA.out.app hap)
   clear hap HBL HSA HFV
   go_wp2_with fail
   go_meet
   exact ⟨_, rfl, by rw [HE.out]; exact H9⟩
 case rest =>
 obtain ⟨u, rfl, HST⟩ := hcut
 obtain ⟨w4, hwx⟩ : ∃ x, x = wc := ⟨_, rfl⟩
 subst hwx
 go_upto_region 4 with (fail)
 go_cut [21] (fun b wx => b = .bool hob ∧ Hid (SiG18 w 55 #[.int .i64 xk, .slice Aw xw.length cw, .string (txt xp.name), .string (txt xp.key), .int .i64 xp.kind, .int .u64 (xp.num : Int), .string (txt xp.text), .slice An xpf.len cn, .string (txt xo.name), .string (txt xo.key), .int .i64 xo.kind, .int .u64 (xo.num : Int), .string (txt xo.text), .slice Ao xof.len co] u F1 wx))
 case first =>
  have q0 := (HST.out.1.cell 0).trans rfl
  go_wp2_with fail
  refine (HHO _).out.mono ?_
  rintro r w9 ⟨rfl, rfl⟩
  go_wp2_with fail
  go_meet
  exact ⟨rfl, HST⟩
 case rest =>
 obtain ⟨rfl, HST⟩ := hcut
 obtain ⟨x3, hx3⟩ : ∃ x3, x3 = wc := ⟨_, rfl⟩
 subst hx3
 go_upto_if 21 with (fail)
 go_cut [3] (fun u wx => ∃ v : Value, v = u ∧ Hid (SiG18 w 55 #[.int .i64 xk, .slice Aw xw.length cw, .string (txt xp.name), .string (txt xp.key), .int .i64 xp.kind, .int .u64 (xp.num : Int), .string (txt xp.text), .slice An xpf.len cn, .string (txt xo.name), .string (txt xo.key), .int .i64 xo.kind, .int .u64 (xo.num : Int), .string (txt xo.text), .slice Ao xof.len co] v F2 wx))
 case first =>
  cases hob with
  | false =>
   have HE : Hid (F2 = F1) := hHd (by rw [HF2.out]; simp [Fo.app_nil])
   go_wp2_with fail
   go_meet
   exact ⟨_, rfl, by rw [HE.out]; exact HST⟩
  | true =>
   have HE : Hid (F2 = F1.app (.cons 5 [] KO .nil)) := hHd (by rw [HF2.out]; rfl)
   have q8 := (HST.out.1.cell 8).trans rfl
   have q9 := (HST.out.1.cell 9).trans rfl
   have q10 := (HST.out.1.cell 10).trans rfl
   have q11 := (HST.out.1.cell 11).trans rfl
   have q12 := (HST.out.1.cell 12).trans rfl
   have q13 := (HST.out.1.cell 13).trans rfl
   go_wp2_with fail
   refine (HIO _ HST.out.2.2.2.1).out.mono ?_
   rintro r w8 ⟨A8, c8, rfl, hfv, hb8⟩
   obtain ⟨n, hn⟩ : ∃ n, n = KO.len := ⟨_, rfl⟩
   rw [← hn]
   rw [← hn] at hfv
   clear hn
   have hb9 : Below w8.heap.size w8 (w8.alloc (.cells #[.int .u64 5, .slice none 0 0, .slice A8 n c8] 58)) := bAl
   have HSA : Hid (SiG18 w 55 #[.int .i64 xk, .slice Aw xw.length cw, .string (txt xp.name), .string (txt xp.key), .int .i64 xp.kind, .int .u64 (xp.num : Int), .string (txt xp.text), .slice An xpf.len cn, .string (txt xo.name), .string (txt xo.key), .int .i64 xo.kind, .int .u64 (xo.num : Int), .string (txt xo.text), .slice Ao xof.len co] u F1 (w8.alloc (.cells #[.int .u64 5, .slice none 0 0, .slice A8 n c8] 58))) := hHd ((HST.out.go hb8).go hb9)
   have HBL : Hid (Blk (w8.alloc (.cells #[.int .u64 5, .slice none 0 0, .slice A8 n c8] 58)) w8.heap.size 58 #[.int .u64 ((5 : Nat) : Int), .slice none 0 0, .slice A8 n c8]) := hHd (Blk.new _ _ _)
   have HFV : Hid (FV DataI (w8.alloc (.cells #[.int .u64 5, .slice none 0 0, .slice A8 n c8] 58)) (ItsI (w.heap.size + 2) (w8.alloc (.cells #[.int .u64 5, .slice none 0 0, .slice A8 n c8] 58)) u) (.slice A8 n c8) KO) := hHd (its_fv18 HST.out.2.2.1 HST.out.2.2.2.2 (hfv.kept stays_I (fun g hg => Below.heap_alloc _ _ _ hg.2) (fun g hg => ⟨hg.1, Nat.lt_of_lt_of_le hg.2 (by simp)⟩)))
   clear hb8 hb9 hfv q8 q9 q10 q11 q12 q13 HST
   go_wp2_with (at_builtin; refine wpList_append_it stays_I one_I Tryz.underlying56 Tryz.infoT18 zeroI18 rfl (.tmp 22) (.tmp 26) rfl rfl (w.heap.size + 2) u F1 rfl HSA.out.2.2.1 w8.heap.size rfl 5 [] KO (.slice none 0 0) (.slice A8 n c8) HBL.out (by decide) (dataI_nil18 _ _) HFV.out (by first | (have := HLE.out.1; omega) | (simp only [Fo.len]; omega)) (by first | (have := HLE.out.1; omega) | (simp only [Fo.len]; omega)) HSA.out.2.2.2.2 ?_)
   intro v9 w9 hap
   have H9 := hHd (HSA.out.app hap)
   clear hap HBL HSA HFV
   go_wp2_with fail
   go_meet
   exact ⟨_, rfl, by rw [HE.out]; exact H9⟩
 case rest =>
 obtain ⟨u, rfl, HST⟩ := hcut
 obtain ⟨w5, hwx⟩ : ∃ x, x = wc := ⟨_, rfl⟩
 subst hwx
 have q0 := (HST.out.1.cell 0).trans rfl
 go_wp2_with fail
 refine (HTA _).out.mono ?_
 rintro r w9 ⟨rfl, rfl⟩
 obtain ⟨A8, c8, rfl⟩ := HST.out.2.2.1.shape
 obtain ⟨n, hn⟩ : ∃ n, n = F2.len := ⟨_, rfl⟩
 have HNN := hHd hn
 rw [← hn] at HST
 rw [← hn]
 have V9 : Veil18 (Blk (set3o w5 (w.heap.size + 1) 0 (.int .u64 ((2 * tg + 1 : Nat) : Int)) (.slice none 0 0) (.slice A8 n c8)) (w.heap.size + 1) 58 #[.int .u64 ((2 * tg + 1 : Nat) : Int), .slice none 0 0, .slice A8 n c8] ∧ FV DataI (set3o w5 (w.heap.size + 1) 0 (.int .u64 ((2 * tg + 1 : Nat) : Int)) (.slice none 0 0) (.slice A8 n c8)) (MineI w.heap.size (set3o w5 (w.heap.size + 1) 0 (.int .u64 ((2 * tg + 1 : Nat) : Int)) (.slice none 0 0) (.slice A8 n c8))) (.slice A8 n c8) F2 ∧ Below w.heap.size w (set3o w5 (w.heap.size + 1) 0 (.int .u64 ((2 * tg + 1 : Nat) : Int)) (.slice none 0 0) (.slice A8 n c8))) := .mk
  ⟨blk_set3_18 HST.out.2.1 _ _ _, (HST.out.2.2.1.fv stays_I).kept stays_I (fun g hg => set3o_far (by have := hg.1; omega)) (fun g hg => ⟨by have := hg.1; omega, by rw [set3o_size]; exact hg.2⟩), HST.out.2.2.2.1.trans (set3o_below18 (Nat.le_succ _))⟩
 have fz0 : w5.frozen? ⟨w.heap.size + 1, 0, none⟩ = false := HST.out.2.1.frozen 0
 have fz1 : w5.frozen? ⟨w.heap.size + 1, 1, none⟩ = false := HST.out.2.1.frozen 1
 have fz2 : w5.frozen? ⟨w.heap.size + 1, 2, none⟩ = false := HST.out.2.1.frozen 2
 obtain ⟨fq0, fq1, fq2⟩ := cl3 HST.out.2.1
 clear HST hn q0
 obtain ⟨tv, htv⟩ : ∃ z : Int, z = ((2 * tg + 1 : Nat) : Int) := ⟨_, rfl⟩
 rw [← htv] at V9 ⊢
 have HTV := hHd htv
 clear htv
 go_wp2_with fail
 refine bodyPost_ret (results_cell_row rfl _ _ (w.heap.size + 1) 58 _ (0, 0) _ rfl V9.out.1 Tryz.underlying58 rfl (by kernel_rfl)) rfl ?_
 rw [HIN.out]
 exact ⟨A8, c8, by rw [HNN.out, HTG.out.1, HTV.out], by rw [← HNN.out]; exact V9.out.2.1, V9.out.2.2⟩
def PutI18 (l : List EdD) (w : World) (r : Ending) (w' : World) : Prop := ∃ d A c, r = .returned (.tuple #[.slice A (putX18 leastB l).1.length c, .int .i64 ((putX18 leastB l).2 : Int)]) ∧ Rd w' d (.slice A (putX18 leastB l).1.length c) (putX18 leastB l).1 ∧ d < w'.heap.size ∧ Below w.heap.size w w'
theorem eds_pos18 {w : World} {v : Value} {l : List EdD} (h : EdsV (Bel w) w v l) (hl : l ≠ []) : 0 < w.heap.size := by
 obtain ⟨B, d, rfl⟩ := h.shape
 cases l with
 | nil => exact absurd rfl hl
 | cons x l =>
  obtain ⟨g, o, Aw, cw, An, cn, Ao, co, -, -, -, hg, -⟩ := h.at (show (x :: l)[0]? = some x from rfl)
  have : g < w.heap.size := hg
  omega
theorem put_any18 (l : List EdD) (v : Value) (w : World) (hv : EdsV (Bel w) w v l) (hokl : OkL18 l) : Calls Tryz.prog 9 #[v] w (PutI18 l w) := by
 obtain ⟨hl, hok, hsz, -⟩ := hokl
 obtain ⟨B, d, rfl⟩ := hv.shape
 have hck := check_any18 l _ w hv hl hok
 cases hall : l.all okE18 with
 | false =>
  rw [hall] at hck
  have HCK := hHd hck
  have HX : Hid (putX18 leastB l = ([], 1)) := hHd (by unfold putX18; rw [if_neg (by simp [hall])])
  have HPOS : Hid (0 < w.heap.size) := hHd (eds_pos18 hv (fun e => by rw [e] at hall; cases hall))
  clear hck hv hl hok hsz hall
  go_enter Tryz.func9, Tryz.ntmps9
  go_wp2_with fail
  refine HCK.out.mono ?_
  rintro r w2 ⟨rfl, hb⟩
  have HB := hHd hb
  clear hb
  go_wp2_with fail
  go_ret2
  unfold PutI18
  rw [HX.out]
  exact ⟨0, none, 0, rfl, Rd.nil _ _, Nat.lt_of_lt_of_le HPOS.out HB.out.size, HB.out⟩
 | true =>
  rw [hall] at hck
  have HCK := hHd hck
  have HV := hHd hv
  have HF := hHd hok
  have HL := hHd hl
  have HSZ := hHd hsz
  have HAL : Hid (∀ e ∈ l, okE18 e = true) := hHd (by simpa [List.all_eq_true] using hall)
  have HX : Hid (putX18 leastB l = if (itsE18 leastB l).ok = true then ((itsE18 leastB l).all, 0) else ([], 14)) := hHd (by unfold putX18; rw [if_pos hall]; unfold Fo.ok; simp only [Bool.and_eq_true, decide_eq_true_eq])
  have HNE : Hid ((itsE18 leastB l).ok = false → l ≠ []) := hHd (fun h e => by rw [e] at h; cases h)
  clear hck hv hl hok hsz hall
  go_enter Tryz.func9, Tryz.ntmps9
  go_wp2_with fail
  refine HCK.out.mono ?_
  rintro r w2 ⟨rfl, hb⟩
  have HB2 := hHd hb
  have HO0 : Hid (OwnF DataI 58 w2 w.heap.size (.slice none 0 0) (itsE18 leastB (l.take 0))) := hHd (OwnF.nil _ _)
  clear hb HCK
  go_wp2
  go_loopw [4, 14] (fun u i wr => ∃ (v : Value) (j : Nat), j ≤ l.length ∧ v = u ∧ i = .int .i64 (j : Int) ∧ Hid (OwnF DataI 58 wr w.heap.size v (itsE18 leastB (l.take j))) ∧ Hid (Below w.heap.size w wr)) (fun _ i _ => l.length - (intOf i).toNat)
  case atStart => exact ⟨_, 0, Nat.zero_le _, rfl, rfl, HO0, HB2⟩
  case round =>
   clear HB2 HO0
   obtain ⟨v, j, hj, rfl, rfl, HO, HB⟩ := hrel
   obtain ⟨w7, hw7⟩ : ∃ w7, w7 = wr := ⟨_, rfl⟩
   subst hw7
   have i1 : (0 : Int) ≤ (j : Int) := by omega
   by_cases hlt : j < l.length
   ·have i2 : (j : Int) < (l.length : Int) := by omega
    have i3 : (l.length : Int) ≤ 1000000 := by have := HL.out; omega
    obtain ⟨x, hx⟩ : ∃ x, l[j]? = some x := ⟨_, List.getElem?_eq_getElem hlt⟩
    have hokx := HF.out x (List.mem_of_getElem? hx)
    have hoke := HAL.out x (List.mem_of_getElem? hx)
    obtain ⟨g9, o9, Aw, cw, An, cn, Ao, co, rfl, -, -, hg9, hw9, hn9, ho9, hcl⟩ := HV.out.at hx
    obtain ⟨xk, xw, ⟨xp, xpf⟩, ⟨xo, xof⟩⟩ := x
    simp only at hw9 hn9 ho9 hcl
    have hn8 : RowT w.heap.size w (.slice An xpf.len cn) xpf := hn9
    have ho8 : RowT w.heap.size w (.slice Ao xof.len co) xof := ho9
    have hb8 : Below w7.heap.size w7 (w7.alloc (.cells #[.int .i64 xk, .slice Aw xw.length cw, .string (txt xp.name), .string (txt xp.key), .int .i64 xp.kind, .int .u64 (xp.num : Int), .string (txt xp.text), .slice An xpf.len cn, .string (txt xo.name), .string (txt xo.key), .int .i64 xo.kind, .int .u64 (xo.num : Int), .string (txt xo.text), .slice Ao xof.len co] 55)) := bAl
    have HB8 : Hid (Below w.heap.size w (w7.alloc (.cells #[.int .i64 xk, .slice Aw xw.length cw, .string (txt xp.name), .string (txt xp.key), .int .i64 xp.kind, .int .u64 (xp.num : Int), .string (txt xp.text), .slice An xpf.len cn, .string (txt xo.name), .string (txt xo.key), .int .i64 xo.kind, .int .u64 (xo.num : Int), .string (txt xo.text), .slice Ao xof.len co] 55))) := hHd (HB.out.trans (hb8.mono HB.out.size))
    have HE8 : Hid (Blk (w7.alloc (.cells #[.int .i64 xk, .slice Aw xw.length cw, .string (txt xp.name), .string (txt xp.key), .int .i64 xp.kind, .int .u64 (xp.num : Int), .string (txt xp.text), .slice An xpf.len cn, .string (txt xo.name), .string (txt xo.key), .int .i64 xo.kind, .int .u64 (xo.num : Int), .string (txt xo.text), .slice Ao xof.len co] 55)) w7.heap.size 55 #[.int .i64 xk, .slice Aw xw.length cw, .string (txt xp.name), .string (txt xp.key), .int .i64 xp.kind, .int .u64 (xp.num : Int), .string (txt xp.text), .slice An xpf.len cn, .string (txt xo.name), .string (txt xo.key), .int .i64 xo.kind, .int .u64 (xo.num : Int), .string (txt xo.text), .slice Ao xof.len co]) := hHd (Blk.new _ _ _)
    have HO8 : Hid (OwnF DataI 58 (w7.alloc (.cells #[.int .i64 xk, .slice Aw xw.length cw, .string (txt xp.name), .string (txt xp.key), .int .i64 xp.kind, .int .u64 (xp.num : Int), .string (txt xp.text), .slice An xpf.len cn, .string (txt xo.name), .string (txt xo.key), .int .i64 xo.kind, .int .u64 (xo.num : Int), .string (txt xo.text), .slice Ao xof.len co] 55)) w.heap.size v (itsE18 leastB (l.take j))) := hHd (HO.out.below stays_I hb8)
    have HS78 : Hid (w7.heap.size ≤ (w7.alloc (.cells #[.int .i64 xk, .slice Aw xw.length cw, .string (txt xp.name), .string (txt xp.key), .int .i64 xp.kind, .int .u64 (xp.num : Int), .string (txt xp.text), .slice An xpf.len cn, .string (txt xo.name), .string (txt xo.key), .int .i64 xo.kind, .int .u64 (xo.num : Int), .string (txt xo.text), .slice Ao xof.len co] 55)).heap.size) := hHd hb8.size
    obtain ⟨tg, htg⟩ : ∃ n, n = (2 * xk + 1).toNat := ⟨_, rfl⟩
    obtain ⟨K, hK⟩ : ∃ K, K = inE18 ⟨xk, xw, (xp, xpf), (xo, xof)⟩ := ⟨_, rfl⟩
    have htl : tg < 18446744073709551616 := by
     have h9 := hoke
     simp only [okE18, Bool.and_eq_true, Bool.or_eq_true, decide_eq_true_eq] at h9
     have := h9.1.1.1.1.1.1
     omega
    have HIO : ∀ W, Below w.heap.size w W → Hid (Calls Tryz.prog 21 #[.agg #[.int .i64 xk, .slice Aw xw.length cw, .string (txt xp.name), .string (txt xp.key), .int .i64 xp.kind, .int .u64 (xp.num : Int), .string (txt xp.text), .slice An xpf.len cn, .string (txt xo.name), .string (txt xo.key), .int .i64 xo.kind, .int .u64 (xo.num : Int), .string (txt xo.text), .slice Ao xof.len co]] W (ItmI18 tg K W)) := fun W hW => hHd (by
     rw [htg, hK]
     exact iof_any18 xk xw xp xpf xo xof Aw cw An cn Ao co W (WayV.below hw9 hW) (hn8.under hW (Nat.le_refl _) hW.size) (ho8.under hW (Nat.le_refl _) hW.size) hokx hoke)
    obtain ⟨Fj, hFj⟩ : ∃ F, F = itsE18 leastB (l.take j) := ⟨_, rfl⟩
    have HTK : Hid (itsE18 leastB (l.take (j + 1)) = Fj.app (.cons tg [] K .nil)) := hHd (by
     rw [List.take_add_one, hx, its_app18, ← hFj]
     show Fj.app (itsE18 leastB [_]) = _
     rw [its_cons18, htg, hK]
     rfl)
    have HLJ : Hid (Fj.len ≤ 1000000) := hHd (by
     rw [hFj]
     have : ∀ m : List EdD, (itsE18 leastB m).len = m.length := fun m => by
      induction m with
      | nil => rfl
      | cons y m ih => rw [its_cons18]; simp only [Fo.len, List.length_cons, ih]
     rw [this, List.length_take]
     have := HL.out
     omega)
    rw [← hFj] at HO8
    have HTL := hHd htl
    have HCL : ∀ i u, (edC xk (.slice Aw xw.length cw) xp (.slice An xpf.len cn) xo (.slice Ao xof.len co))[i]? = some u → w7.cell? ⟨g9, o9 + j * 14 + i, none⟩ = some u := fun i u hu => (HB.out.cell (p := ⟨g9, o9 + j * 14 + i, none⟩) hg9).trans (hcl i u hu)
    have p0 : w7.cell? ⟨g9, o9 + j * 14, none⟩ = _ := HCL 0 _ rfl
    have p1 := HCL 1 _ rfl
    have p2 := HCL 2 _ rfl
    have p3 := HCL 3 _ rfl
    have p4 := HCL 4 _ rfl
    have p5 := HCL 5 _ rfl
    have p6 := HCL 6 _ rfl
    have p7 := HCL 7 _ rfl
    have p8 := HCL 8 _ rfl
    have p9 := HCL 9 _ rfl
    have p10 := HCL 10 _ rfl
    have p11 := HCL 11 _ rfl
    have p12 := HCL 12 _ rfl
    have p13 := HCL 13 _ rfl
    have n0 : j < l.length := hlt
    clear hw9 hn8 ho8 hn9 ho9 hcl hx hg9 hlt hb8 HCL hokx hoke htg hK htl hFj HO
    go_upto_region 7 with (fail)
    clear p0 p1 p2 p3 p4 p5 p6 p7 p8 p9 p10 p11 p12 p13
    have HSB := hHd HB.out.size
    revert HB8 HE8 HO8 HS78
    generalize (w7.alloc (.cells #[.int .i64 xk, .slice Aw xw.length cw, .string (txt xp.name), .string (txt xp.key), .int .i64 xp.kind, .int .u64 (xp.num : Int), .string (txt xp.text), .slice An xpf.len cn, .string (txt xo.name), .string (txt xo.key), .int .i64 xo.kind, .int .u64 (xo.num : Int), .string (txt xo.text), .slice Ao xof.len co] 55)) = w8
    intro HB8 HE8 HS78 HO8
    go_wp2_with (first | (refine wpList_load_row rfl 55 (.tmp 6) rfl w7.heap.size (by rfl) 55 _ (0, 0) _ HE8.out Tryz.underlying55 rfl (by kernel_rfl) ?_) | (refine wpList_load_row_on (by rfl) 55 (.tmp 6) rfl w7.heap.size (by rfl) 55 _ (0, 0) _ HE8.out Tryz.underlying55 rfl (by kernel_rfl) ?_))
    refine (HIO _ HB8.out).out.mono ?_
    rintro r w9 ⟨A8, c8, rfl, hfv, hb9⟩
    obtain ⟨n, hn⟩ : ∃ n, n = K.len := ⟨_, rfl⟩
    rw [← hn]
    rw [← hn] at hfv
    clear hn
    obtain ⟨tv, htv⟩ : ∃ z : Int, z = (tg : Int) := ⟨_, rfl⟩
    rw [← htv]
    have hb10 : Below w9.heap.size w9 (w9.alloc (.cells #[.int .u64 tv, .slice none 0 0, .slice A8 n c8] 58)) := bAl
    have HOA : Hid (OwnF DataI 58 (w9.alloc (.cells #[.int .u64 tv, .slice none 0 0, .slice A8 n c8] 58)) w.heap.size v Fj) := hHd ((HO8.out.below stays_I hb9).below stays_I hb10)
    have HBL : Hid (Blk (w9.alloc (.cells #[.int .u64 tv, .slice none 0 0, .slice A8 n c8] 58)) w9.heap.size 58 #[.int .u64 (tg : Int), .slice none 0 0, .slice A8 n c8]) := hHd (by rw [← htv]; exact Blk.new _ _ _)
    have HFV : Hid (FV DataI (w9.alloc (.cells #[.int .u64 tv, .slice none 0 0, .slice A8 n c8] 58)) (ItsI w.heap.size (w9.alloc (.cells #[.int .u64 tv, .slice none 0 0, .slice A8 n c8] 58)) v) (.slice A8 n c8) K) := hHd (its_fv18 HO8.out HB8.out.size (hfv.kept stays_I (fun g hg => Below.heap_alloc _ _ _ hg.2) (fun g hg => ⟨hg.1, Nat.lt_of_lt_of_le hg.2 (by simp)⟩)))
    have HBA : Hid (Below w.heap.size w (w9.alloc (.cells #[.int .u64 tv, .slice none 0 0, .slice A8 n c8] 58))) := hHd ((HB8.out.trans (hb9.mono HB8.out.size)).trans (hb10.mono (Nat.le_trans HB8.out.size hb9.size)))
    clear hb9 hb10 hfv htv HO8 HE8
    go_wp2_with (at_builtin; refine wpList_append_it stays_I one_I Tryz.underlying56 Tryz.infoT18 zeroI18 rfl (.tmp 18) (.tmp 21) rfl rfl w.heap.size v Fj rfl HOA.out w9.heap.size rfl tg [] K (.slice none 0 0) (.slice A8 n c8) HBL.out HTL.out (dataI_nil18 _ _) HFV.out (by have := HLJ.out; omega) (by have := HLJ.out; omega) HBA.out.size ?_)
    intro v9 w10 hap
    have H9 : Hid (OwnF DataI 58 w10 w.heap.size v9 (itsE18 leastB (l.take (j + 1)))) := hHd (by rw [HTK.out]; exact hap.1)
    have HB9 : Hid (Below w.heap.size w w10) := hHd (HBA.out.trans (hap.below HOA.out HBA.out.size))
    clear hap HBL HFV HOA HBA HB8
    go_wp2_with fail
    go_roundw
    case rel => exact ⟨v9, j + 1, by omega, rfl, by go_num, H9, HB9⟩
    case measure => simp [intOf]; omega
   ·obtain rfl : j = l.length := by omega
    have i2 : ¬ (l.length : Int) < (l.length : Int) := by omega
    have hO := HO.out
    rw [List.take_length] at hO
    obtain ⟨A8, c8, rfl⟩ := hO.shape
    obtain ⟨F, hF⟩ : ∃ F, F = itsE18 leastB l := ⟨_, rfl⟩
    rw [← hF] at hO HX HNE
    have HPU : Hid (Calls Tryz.prog 22 #[.slice A8 F.len c8] w7 (PutQ18 F w7)) := hHd (putQ18 F w7 _ ((hO.fv stays_I).kept stays_I (fun _ _ => rfl) (fun g hg => hg.2)) (by rw [hF]; exact HSZ.out))
    obtain ⟨n, hn⟩ : ∃ n, n = F.len := ⟨_, rfl⟩
    rw [← hF]
    have HPOS : Hid (F.ok = false → 0 < w7.heap.size) := hHd (fun h => Nat.lt_of_lt_of_le (eds_pos18 HV.out (HNE.out h)) HB.out.size)
    have HFA : Hid (F.ok = true → F.all.length ≤ 8192) := hHd (fun h => by unfold Fo.ok at h; simp only [Bool.and_eq_true, decide_eq_true_eq] at h; exact h.2)
    rw [← hn] at HPU ⊢
    clear hF hO HO hlt hn HNE
    cases ho : F.ok with
    | false =>
     have HX2 : Hid (putX18 leastB l = ([], 14)) := hHd (by rw [HX.out, ho]; rfl)
     have HP2 : Hid (Calls Tryz.prog 22 #[.slice A8 n c8] w7 (fun r w' => ∃ v, r = .returned (.tuple #[v, .int .i64 1]) ∧ Below w7.heap.size w7 w')) := hHd (HPU.out.mono fun r w' ⟨v, h1, _, h3, _⟩ => ⟨v, by rw [h1, ho]; rfl, h3⟩)
     have HPO : Hid (0 < w7.heap.size) := hHd (HPOS.out ho)
     clear ho HX HPU HFA HPOS
     go_wp2_with fail
     refine HP2.out.mono ?_
     rintro r w8 ⟨v8, rfl, hb8⟩
     have HB8 := hHd (HB.out.trans (hb8.mono HB.out.size))
     have HS8 := hHd (Nat.lt_of_lt_of_le HPO.out hb8.size)
     clear hb8
     go_wp2_with fail
     go_ret2
     unfold PutI18
     rw [HX2.out]
     exact ⟨0, none, 0, rfl, Rd.nil _ _, HS8.out, HB8.out⟩
    | true =>
     have HX2 : Hid (putX18 leastB l = (F.all, 0)) := hHd (by rw [HX.out, ho]; rfl)
     have HP2 : Hid (Calls Tryz.prog 22 #[.slice A8 n c8] w7 (fun r w' => ∃ v, r = .returned (.tuple #[v, .int .i64 0]) ∧ Own w' w7.heap.size v F.all ∧ Below w7.heap.size w7 w' ∧ w7.heap.size < w'.heap.size)) := hHd (HPU.out.mono fun r w' ⟨v, h1, h2, h3, h4⟩ => ⟨v, by rw [h1, ho]; rfl, by rw [ho] at h2; exact h2, h3, h4 ho⟩)
     have HAL8 := hHd (HFA.out ho)
     clear ho HX HPU HFA HPOS
     go_wp2_with fail
     refine HP2.out.mono ?_
     rintro r w8 ⟨v8, rfl, ho8, hb8, hs8⟩
     have HB8 := hHd (HB.out.trans (hb8.mono HB.out.size))
     have HR : Hid (∃ d A c, v8 = .slice A F.all.length c ∧ Rd w8 d (.slice A F.all.length c) F.all ∧ d < w8.heap.size) := hHd (by
      obtain ⟨d, h1, h2, h3⟩ := ho8.rd (by have := HAL8.out; omega)
      obtain ⟨A, c, e, -⟩ := id h3
      subst e
      by_cases he : F.all = []
      ·exact ⟨0, A, c, rfl, h3.block he 0, by omega⟩
      ·exact ⟨d, A, c, rfl, h3, h3.lt (List.length_pos_iff.2 he)⟩)
     clear ho8 hb8 hs8
     go_wp2_with fail
     go_ret2
     unfold PutI18
     rw [HX2.out]
     obtain ⟨d, A, c, rfl, h2, h3⟩ := HR.out
     exact ⟨d, A, c, rfl, h2, h3, HB8.out⟩
end
end Go.Proofs.YtleidkpdpabkpaaGreatDoor
