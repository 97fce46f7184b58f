/- EdvI -/
import Derived.Test.YtleidkpdpabkpaaGreatDoorAM27
set_option linter.unusedSimpArgs false
set_option linter.unusedVariables false
set_option maxRecDepth 100000
set_option maxHeartbeats 8000000
namespace Go.Proofs.YtleidkpdpabkpaaGreatDoor
open Go.RowKit
section
attribute [local go_sem] Oper.semAt_some
theorem fld_item18 (t : Int) (dA : Option Addr) (dn dc : Nat) (kA : Option Addr) (kn kc : Nat) (w : World) : (Instr.field 58 (.agg #[.int .u64 t, .slice dA dn dc, .slice kA kn kc]) 1).run Tryz.prog w = .ok (.slice dA dn dc) w := by kernel_rfl
theorem lt_left18 {S : Nat → Prop} {w w' : World} {g t : Nat} {d : List UInt8} {q r : Fo} (h : RdI18 S w' g r) (h2 : leftI18 w g = (Fo.cons t d q r).len) : leftI18 w' g < leftI18 w g := by
 rw [h2, leftI_of18 h]
 exact Nat.lt_succ_self _
theorem nodP_no18 {q : Fo} {w : World} {r : Ending} {w' : World} (hq : ex18 q 0 = false) (h : NodP18 q w r w') : r = .panicked inv18 ∧ Below w.heap.size w w' := by
 rcases h with ⟨h1, -⟩ | ⟨-, h2⟩
 ·rw [hq] at h1; cases h1
 ·exact h2
theorem nodP_yes18 {q : Fo} {w : World} {r : Ending} {w' : World} (hq : ex18 q 0 = true) (h : NodP18 q w r w') : PTreP1 0 (kid18 V18 q, red18 V18 q) w r w' := by
 rcases h with ⟨-, h1⟩ | ⟨h2, -⟩
 ·exact h1
 ·rw [hq] at h2; cases h2
theorem nodeof_row18 (k : Fo) (hkids : Fo.kidsAll NodeI18 k) : NodeI18 k := by
 intro t dA dn dc A c w hv hsz
 have h0 : Below w.heap.size w (((w.alloc (.cells #[.int .u64 (t : Int), .slice dA dn dc, .slice A k.len c] 58)).alloc (.cells #[.string ⟨#[]⟩, .string ⟨#[]⟩, .int .i64 0, .int .u64 0, .string ⟨#[]⟩, .slice none 0 0] 42)).alloc (.cells #[.slice A k.len c] 138)) := (bAl.alloc (by simp) _).alloc (by simp; omega) _
 have hb2 : Blk (((w.alloc (.cells #[.int .u64 (t : Int), .slice dA dn dc, .slice A k.len c] 58)).alloc (.cells #[.string ⟨#[]⟩, .string ⟨#[]⟩, .int .i64 0, .int .u64 0, .string ⟨#[]⟩, .slice none 0 0] 42)).alloc (.cells #[.slice A k.len c] 138)) (w.heap.size + 1) 42 #[.string ⟨#[]⟩, .string ⟨#[]⟩, .int .i64 0, .int .u64 0, .string ⟨#[]⟩, .slice none 0 0] := Blk.alloc (blk_atk18 (by simp) _ _) _
 have hrd : RdI18 (Lo w) (((w.alloc (.cells #[.int .u64 (t : Int), .slice dA dn dc, .slice A k.len c] 58)).alloc (.cells #[.string ⟨#[]⟩, .string ⟨#[]⟩, .int .i64 0, .int .u64 0, .string ⟨#[]⟩, .slice none 0 0] 42)).alloc (.cells #[.slice A k.len c] 138)) (w.heap.size + 2) k := ⟨fun b hb => ⟨Nat.lt_of_lt_of_le hb h0.size, by have : b < w.heap.size := hb; omega⟩, A, c, blk_atk18 (by simp) _ _, hv.kept stays_I (fun g hg => h0.block g hg) (fun _ h => h)⟩
 have lsz : ∀ r : Fo, r.sz ≤ 1000000 → r.len ≤ 1000000 := fun r h => Nat.le_trans (len_sz18 r) h
 have HAS : ∀ (u : Nat) (W : World) (r : Fo), RdI18 (Lo w) W (w.heap.size + 2) r → r.sz ≤ 1000000 → Hid (Calls Tryz.prog 110 #[.pointer (some ⟨w.heap.size + 1 + 1, 0, none⟩), .int .u64 (u : Int)] W (fun e w' => e = .returned (.bool (hasX18 u r)) ∧ W = w')) := fun u W r hr h => hHd (has_any18 (Lo w) _ u r W hr (lsz r h))
 have TNO : ∀ (u : Nat) (W : World) (r : Fo), RdI18 (Lo w) W (w.heap.size + 2) r → r.sz ≤ 1000000 → hasX18 u r = false → Hid (Calls Tryz.prog 89 #[.pointer (some ⟨w.heap.size + 1 + 1, 0, none⟩), .int .u64 (u : Int)] W (fun e w' => e = .panicked inv18 ∧ Below W.heap.size W w')) := fun u W r hr h hx => hHd (take_no18 (Lo w) _ u r W hr (lsz r h) hx)
 have TYE : ∀ (u : Nat) (W : World) (d : List UInt8) (q r : Fo), RdI18 (Lo w) W (w.heap.size + 2) (.cons u d q r) → (Fo.cons u d q r).sz ≤ 1000000 → Hid (Calls Tryz.prog 89 #[.pointer (some ⟨w.heap.size + 1 + 1, 0, none⟩), .int .u64 (u : Int)] W (TakP18 (Lo w) (w.heap.size + 2) u d q r W)) := fun u W d q r hr h => hHd (take_yes18 (Lo w) _ u d q r W hr (by have h9 := lsz _ h; simpa [Fo.len] using h9))
 have HAS2 : ∀ (W : World) (r : Fo), RdI18 (Lo w) W (w.heap.size + 2) r → r.sz ≤ 1000000 → Hid (Calls Tryz.prog 110 #[.pointer (some ⟨w.heap.size + 1 + 1, 0, none⟩), .int .u64 2] W (fun e w' => e = .returned (.bool (hasX18 2 r)) ∧ W = w')) := HAS 2
 have HAS4 : ∀ (W : World) (r : Fo), RdI18 (Lo w) W (w.heap.size + 2) r → r.sz ≤ 1000000 → Hid (Calls Tryz.prog 110 #[.pointer (some ⟨w.heap.size + 1 + 1, 0, none⟩), .int .u64 4] W (fun e w' => e = .returned (.bool (hasX18 4 r)) ∧ W = w')) := HAS 4
 have HAS7 : ∀ (W : World) (r : Fo), RdI18 (Lo w) W (w.heap.size + 2) r → r.sz ≤ 1000000 → Hid (Calls Tryz.prog 110 #[.pointer (some ⟨w.heap.size + 1 + 1, 0, none⟩), .int .u64 7] W (fun e w' => e = .returned (.bool (hasX18 7 r)) ∧ W = w')) := HAS 7
 have TNO0 : ∀ (W : World) (r : Fo), RdI18 (Lo w) W (w.heap.size + 2) r → r.sz ≤ 1000000 → hasX18 0 r = false → Hid (Calls Tryz.prog 89 #[.pointer (some ⟨w.heap.size + 1 + 1, 0, none⟩), .int .u64 0] W (fun e w' => e = .panicked inv18 ∧ Below W.heap.size W w')) := TNO 0
 have TYE0 : ∀ (W : World) (d : List UInt8) (q r : Fo), RdI18 (Lo w) W (w.heap.size + 2) (.cons 0 d q r) → (Fo.cons 0 d q r).sz ≤ 1000000 → Hid (Calls Tryz.prog 89 #[.pointer (some ⟨w.heap.size + 1 + 1, 0, none⟩), .int .u64 0] W (TakP18 (Lo w) (w.heap.size + 2) 0 d q r W)) := TYE 0
 have TYE2 : ∀ (W : World) (d : List UInt8) (q r : Fo), RdI18 (Lo w) W (w.heap.size + 2) (.cons 2 d q r) → (Fo.cons 2 d q r).sz ≤ 1000000 → Hid (Calls Tryz.prog 89 #[.pointer (some ⟨w.heap.size + 1 + 1, 0, none⟩), .int .u64 2] W (TakP18 (Lo w) (w.heap.size + 2) 2 d q r W)) := TYE 2
 have TYE4 : ∀ (W : World) (d : List UInt8) (q r : Fo), RdI18 (Lo w) W (w.heap.size + 2) (.cons 4 d q r) → (Fo.cons 4 d q r).sz ≤ 1000000 → Hid (Calls Tryz.prog 89 #[.pointer (some ⟨w.heap.size + 1 + 1, 0, none⟩), .int .u64 4] W (TakP18 (Lo w) (w.heap.size + 2) 4 d q r W)) := TYE 4
 have TYE7 : ∀ (W : World) (d : List UInt8) (q r : Fo), RdI18 (Lo w) W (w.heap.size + 2) (.cons 7 d q r) → (Fo.cons 7 d q r).sz ≤ 1000000 → Hid (Calls Tryz.prog 89 #[.pointer (some ⟨w.heap.size + 1 + 1, 0, none⟩), .int .u64 7] W (TakP18 (Lo w) (w.heap.size + 2) 7 d q r W)) := TYE 7
 have HEN : ∀ (W : World) (r : Fo), RdI18 (Lo w) W (w.heap.size + 2) r → r.sz ≤ 1000000 → Hid (Calls Tryz.prog 91 #[.pointer (some ⟨w.heap.size + 1 + 1, 0, none⟩)] W (ReqP (decide (r = .nil)) W)) := fun W r hr h => hHd (end_any18 (Lo w) _ r W hr (lsz r h))
 have HR : ∀ b W, Hid (Calls Tryz.prog 61 #[.bool b] W (ReqP b W)) := fun b W => hHd (require_any b W)
 have hfd := fld_item18
 have H0 := hHd h0
 have HB2 := hHd hb2
 have HRD := hHd hrd
 have HSZ := hHd hsz
 have HI := hHd hkids
 clear hv hsz hkids h0 hb2 hrd lsz HAS TNO TYE
 go_enter Tryz.func90, Tryz.ntmps90
 go_upto_region 2 with (fail)
 revert H0 HB2 HRD
 generalize (((w.alloc (.cells #[.int .u64 (t : Int), .slice dA dn dc, .slice A k.len c] 58)).alloc (.cells #[.string ⟨#[]⟩, .string ⟨#[]⟩, .int .i64 0, .int .u64 0, .string ⟨#[]⟩, .slice none 0 0] 42)).alloc (.cells #[.slice A k.len c] 138)) = w1
 intro H0 HB2 HRD
 cases h0x : hasX18 0 k with
 | false =>
  have HX : Hid (ex18 k 0 = false) := hHd (by
   cases k with
   | nil => rfl
   | cons u d q r =>
    have hu : ¬ u = 0 := by simpa [hasX18] using h0x
    simp [ex18, hu])
  have HT := TNO0 w1 k HRD.out HSZ.out h0x
  clear h0x
  go_wp2_with fail
  refine HT.out.mono ?_
  rintro e w2 ⟨rfl, hb⟩
  have HBB := hHd (H0.out.trans (hb.mono H0.out.size))
  clear hb
  go_wp2
  exact ⟨rfl, .inr ⟨HX.out, rfl, HBB.out⟩⟩
 | true =>
 obtain ⟨nm, q0, r0, hk⟩ := has_cons18 h0x
 have HK := hHd hk
 have HT : Hid (Calls Tryz.prog 89 #[.pointer (some ⟨w.heap.size + 1 + 1, 0, none⟩), .int .u64 0] w1 (TakP18 (Lo w) (w.heap.size + 2) 0 nm q0 r0 w1)) := TYE0 w1 nm q0 r0 (by rw [← hk]; exact HRD.out) (by rw [← hk]; exact HSZ.out)
 have HS0 : Hid (r0.sz ≤ 1000000) := hHd (by have := HSZ.out; rw [hk] at this; simp only [Fo.sz] at this; omega)
 clear h0x hk
 go_wp2_with fail
 refine HT.out.mono ?_
 rintro e w2 ⟨eA, ec, fA, fc, rfl, hd2, -, hr2, hg2⟩
 obtain ⟨db, hdr, -⟩ := hd2
 have hst : (convert 25 9 (.slice eA nm.length ec)).run Tryz.prog w2 = .ok (.string (txt nm)) w2 := str_of hdr
 have hlt : w.heap.size + 2 < w2.heap.size := hr2.lt
 have hn2 : Blk w2 (w.heap.size + 1) 42 #[.string ⟨#[]⟩, .string ⟨#[]⟩, .int .i64 0, .int .u64 0, .string ⟨#[]⟩, .slice none 0 0] := HB2.out.grown hg2 (fun e => by have := Option.some.inj e; omega)
 have hb2 : Below w.heap.size w w2 := H0.out.grown hg2 H0.out.size (fun b e => by have := Option.some.inj e; omega)
 have hb3 : Below w2.heap.size w2 (w2.alloc (.cells #[.string (txt nm), .string ⟨#[]⟩, .int .i64 0, .int .u64 0, .string ⟨#[]⟩, .slice none 0 0] 42)) := bAl
 have HND : Hid (Nd18 w w2.heap.size ⟨nm, [], 0, 0, []⟩ (.slice none 0 0) r0 (w2.alloc (.cells #[.string (txt nm), .string ⟨#[]⟩, .int .i64 0, .int .u64 0, .string ⟨#[]⟩, .slice none 0 0] 42))) := hHd ⟨hn2.below hb3 hn2.lt, hr2.go hb3, Blk.new _ _ _, hb2.trans (hb3.mono hb2.size), hlt⟩
 clear hr2 hg2 hdr hlt hn2 hb2 hb3 HT
 go_upto_region 3 with (fail)
 clear hst
 revert HND
 generalize (w2.alloc (.cells #[.string (txt nm), .string ⟨#[]⟩, .int .i64 0, .int .u64 0, .string ⟨#[]⟩, .slice none 0 0] 42)) = w3
 generalize w2.heap.size = gn
 intro HND
 go_cut [12] (fun b wx => b = .bool (hasX18 2 r0) ∧ w3 = wx)
 case first =>
  go_wp2_with fail
  refine (HAS2 w3 r0 HND.out.2.1 HS0.out).out.mono ?_
  rintro e w9 ⟨rfl, rfl⟩
  go_wp2_with fail
  go_meet
  exact ⟨rfl, rfl⟩
 case rest =>
 obtain ⟨rfl, rfl⟩ := hcut
 go_upto_if 12 with (fail)
 go_cut [] (fun wx => ∃ (ky : List UInt8) (r1 : Fo), Hid (AtK18 k r1 nm ky) ∧ Hid (Nd18 w gn ⟨nm, ky, 0, 0, []⟩ (.slice none 0 0) r1 wx))
 case first =>
  cases h2x : hasX18 2 r0 with
  | false =>
   have HA : Hid (AtK18 k r0 nm []) := hHd (atK_no18 HK.out HSZ.out HI.out h2x)
   go_wp2_with fail
   go_meet
   exact ⟨[], r0, HA, HND⟩
  | true =>
   obtain ⟨ky, q1, r1, rfl⟩ := has_cons18 h2x
   have HT := TYE2 w3 ky q1 r1 HND.out.2.1 HS0.out
   clear h2x
   go_wp2_with fail
   refine HT.out.mono ?_
   rintro e w4 ⟨eA, ec, fA, fc, rfl, ⟨db, hdr, -⟩, -, hr4, hg4⟩
   have hst : (convert 25 9 (.slice eA ky.length ec)).run Tryz.prog w4 = .ok (.string (txt ky)) w4 := str_of hdr
   have hn4 := HND.out.tak hr4 hg4
   have fz := hn4.2.2.1.frozen 1
   have fq := (hn4.2.2.1.cell 1).trans rfl
   have hx5 := hn4.2.2.1.set_ 1 (.string (txt ky))
   simp only [layS] at hx5
   have HN5 : Hid (Nd18 w gn ⟨nm, ky, 0, 0, []⟩ (.slice none 0 0) r1 (w4.setCell ⟨gn, 1, none⟩ (.string (txt ky)))) := hHd (hn4.low ((Below.refl _ _).setCell (p := ⟨gn, 1, none⟩) (Nat.le_refl _) _) hx5)
   clear hdr hr4 hg4 hn4 hx5 HT HND
   go_upto_region 5 with (fail)
   clear fz fq hst
   revert HN5
   generalize (w4.setCell ⟨gn, 1, none⟩ (.string (txt ky))) = w5
   intro HN5
   have q1 : w5.cell? ⟨gn, 1, none⟩ = some (.string (txt ky)) := (HN5.out.2.2.1.cell 1).trans rfl
   have tk : (txt ky).toList = ky := txt_toList _
   by_cases hy : ky = []
   ·have e1 : (ky == []) = true := by rw [hy]; rfl
    have e2 : ky.isEmpty = true := by rw [hy]; rfl
    have e3 : (ky != []) = false := by rw [hy]; rfl
    have HX : Hid (ex18 k 0 = false) := hHd (exK_bad18 (by rw [HK.out, hy]))
    clear hy
    go_wp2_with fail
    refine (HR false _).out.mono ?_
    rintro r w6 ⟨h1, rfl⟩
    obtain rfl : r = .panicked inv18 := by simpa using h1
    go_wp2
    exact ⟨rfl, .inr ⟨HX.out, rfl, HN5.out.2.2.2.1⟩⟩
   ·have e1 : (ky == []) = false := by cases e : ky with | nil => exact absurd e hy | cons => rfl
    have e2 : ky.isEmpty = false := by cases e : ky with | nil => exact absurd e hy | cons => rfl
    have e3 : (ky != []) = true := by simp [hy]
    have HA : Hid (AtK18 k r1 nm ky) := hHd (atK_yes18 HK.out HSZ.out HI.out hy)
    clear hy
    go_wp2_with fail
    refine (HR true _).out.mono ?_
    rintro r w6 ⟨h1, rfl⟩
    obtain rfl : r = .returned (.tuple #[]) := by simpa using h1
    go_wp2_with fail
    go_meet
    exact ⟨ky, r1, HA, HN5⟩
 case rest =>
 obtain ⟨ky, r1, HA, HND⟩ := hcut
 obtain ⟨w6, hw6⟩ : ∃ x, x = wc := ⟨_, rfl⟩
 subst hw6
 clear HI HSZ HK HS0 HAS2 TNO0 TYE0 TYE2
 go_upto_region 6 with (fail)
 have HS1 : Hid (r1.sz ≤ 1000000) := hHd HA.out.2.2.1
 go_cut [21] (fun b wx => b = .bool (hasX18 4 r1) ∧ w6 = wx)
 case first =>
  go_wp2_with fail
  refine (HAS4 w6 r1 HND.out.2.1 HS1.out).out.mono ?_
  rintro e w9 ⟨rfl, rfl⟩
  go_wp2_with fail
  go_meet
  exact ⟨rfl, rfl⟩
 case rest =>
 obtain ⟨rfl, rfl⟩ := hcut
 go_upto_if 21 with (fail)
 go_cut [] (fun wx => ∃ (a : NdD) (r2 : Fo), Hid (AtV18 k r2 a .nil) ∧ Hid (Nd18 w gn a (.slice none 0 0) r2 wx))
 case first =>
  cases h4x : hasX18 4 r1 with
  | false =>
   have HV : Hid (AtV18 k r1 ⟨nm, ky, 0, 0, []⟩ .nil) := hHd (atV_no18 HA.out h4x)
   go_wp2_with fail
   go_meet
   exact ⟨_, r1, HV, HND⟩
  | true =>
   obtain ⟨vd, q2, r2, rfl⟩ := has_cons18 h4x
   have HT := TYE4 w6 vd q2 r2 HND.out.2.1 HS1.out
   have HVL : Hid (vd.length ≤ 1000000) := hHd (by have := HS1.out; simp only [Fo.sz] at this; omega)
   clear h4x
   go_wp2_with fail
   refine HT.out.mono ?_
   rintro e w7 ⟨eA, ec, fA, fc, rfl, ⟨db, hdr, -⟩, -, hr7, hg7⟩
   have HN7 := hHd (HND.out.tak hr7 hg7)
   have HVA := hHd (val_any18 vd db _ w7 hdr HVL.out)
   clear hdr hr7 hg7 HT HND
   go_wp2_with fail
   refine HVA.out.mono ?_
   intro e w8 hp
   obtain ⟨hb8, hp⟩ := hp
   have HN8 := hHd (HN7.out.go hb8)
   clear hb8 HN7 HVA
   cases hvo : valOk18 vd with
   | false =>
    rw [hvo, if_neg (by decide)] at hp
    subst hp
    have HX : Hid (ex18 k 0 = false) := hHd (exV_bad18 HA.out hvo)
    clear hvo
    go_wp2
    exact ⟨rfl, .inr ⟨HX.out, rfl, HN8.out.2.2.2.1⟩⟩
   | true =>
    rw [hvo, if_pos rfl] at hp
    subst hp
    have HV : Hid (AtV18 k r2 ⟨nm, ky, (valD18 vd).1, (valD18 vd).2.1, (valD18 vd).2.2⟩ .nil) := hHd (atV_yes18 HA.out hvo)
    clear hvo
    obtain ⟨vk, hvk⟩ : ∃ x, x = (valD18 vd).1 := ⟨_, rfl⟩
    obtain ⟨vn, hvn⟩ : ∃ x, x = (valD18 vd).2.1 := ⟨_, rfl⟩
    obtain ⟨vt, hvt⟩ : ∃ x, x = (valD18 vd).2.2 := ⟨_, rfl⟩
    rw [← hvk, ← hvn, ← hvt] at HV
    rw [← hvk, ← hvn, ← hvt]
    clear hvk hvn hvt
    have z2 := HN8.out.2.2.1.frozen 2
    have z3 := HN8.out.2.2.1.frozen 3
    have z4 := HN8.out.2.2.1.frozen 4
    have y2 := (HN8.out.2.2.1.cell 2).trans rfl
    have y3 := (HN8.out.2.2.1.cell 3).trans rfl
    have y4 := (HN8.out.2.2.1.cell 4).trans rfl
    have V9 : Veil18 (Nd18 w gn ⟨nm, ky, vk, vn, vt⟩ (.slice none 0 0) r2 (((w8.setCell ⟨gn, 2, none⟩ (.int .i64 vk)).setCell ⟨gn, 3, none⟩ (.int .u64 (vn : Int))).setCell ⟨gn, 4, none⟩ (.string (txt vt)))) := .mk (by
     have hx := ((HN8.out.2.2.1.set_ 2 (.int .i64 vk)).set_ 3 (.int .u64 (vn : Int))).set_ 4 (.string (txt vt))
     simp only [layS] at hx
     exact HN8.out.low ((((Below.refl _ _).setCell (p := ⟨gn, 2, none⟩) (Nat.le_refl _) _).setCell (p := ⟨gn, 3, none⟩) (Nat.le_refl _) _).setCell (p := ⟨gn, 4, none⟩) (Nat.le_refl _) _) hx)
    clear HN8
    go_wp2_with fail
    go_meet
    exact ⟨_, r2, HV, hHd V9.out⟩
 case rest =>
 obtain ⟨a, r2, HV, HND⟩ := hcut
 clear HA HS1 HAS4 TYE4
 obtain ⟨w7, hw7⟩ : ∃ x, x = wc := ⟨_, rfl⟩
 subst hw7
 have HO0 : Hid (OwnR18 (gn + 1) w7 (.slice none 0 0) .nil) := hHd (OwnR18.nil _ _)
 go_wp2
 go_loopw [] (fun wr => ∃ (r : Fo) (v : Value) (F : NdF), Hid (AtV18 k r a F) ∧ Hid (Nd18 w gn a v r wr) ∧ Hid (OwnR18 (gn + 1) wr v F) ∧ Hid (F.len + r.len ≤ 1000000)) (fun wr => leftI18 wr (w.heap.size + 2))
 case atStart => exact ⟨r2, _, .nil, HV, HND, HO0, hHd (by have := Nat.le_trans (len_sz18 r2) HV.out.2.2.1; simp only [Fr.len]; omega)⟩
 case round =>
  clear HV HND HO0
  obtain ⟨r, v, F, HV, HND, HO, HFL⟩ := hrel
  obtain ⟨w8, hw8⟩ : ∃ x, x = wr := ⟨_, rfl⟩
  subst hw8
  have HS1 : Hid (r.sz ≤ 1000000) := hHd HV.out.2.2.1
  have HMR := hHd (leftI_of18 HND.out.2.1)
  go_wp2_with fail
  refine (HAS7 w8 r HND.out.2.1 HS1.out).out.mono ?_
  rintro e w9 ⟨rfl, rfl⟩
  cases h7x : hasX18 7 r with
  | false =>
   have HX : Hid (ex18 k 0 = decide (r = .nil)) := hHd (exV_end18 HV.out h7x)
   obtain ⟨b, hb⟩ : ∃ b, b = decide (r = .nil) := ⟨_, rfl⟩
   have HE := HEN w8 r HND.out.2.1 HS1.out
   rw [← hb] at HE HX
   have HBE := hHd hb
   clear hb h7x
   cases b with
   | false =>
    go_wp2_with fail
    refine HE.out.mono ?_
    rintro e w9 ⟨h1, rfl⟩
    obtain rfl : e = .panicked inv18 := by simpa using h1
    go_wp2
    exact ⟨rfl, .inr ⟨HX.out, rfl, HND.out.2.2.2.1⟩⟩
   | true =>
    have hrn : r = .nil := by simpa using HBE.out
    have hv := HV.out.2.1 (by rw [hrn]; rfl)
    have HVE : Hid ((kid18 V18 k, red18 V18 k) = (a, F)) := hHd (by rw [hv.1, hv.2, hrn]; show (a, F.app .nil) = _; rw [Fr.app_nil])
    clear hv hrn
    go_wp2_with fail
    refine HE.out.mono ?_
    rintro e w9 ⟨h1, rfl⟩
    obtain rfl : e = .returned (.tuple #[]) := by simpa using h1
    obtain ⟨A3, c3, rfl⟩ := HO.out.shape
    obtain ⟨n, hn⟩ : ∃ n, n = F.len := ⟨_, rfl⟩
    have HN := hHd hn
    rw [← hn] at HND HO
    clear hn
    have V9 : Veil18k (Blk (set6 w8 (w.heap.size + 1) (.string (txt a.name)) (.string (txt a.key)) (.int .i64 a.kind) (.int .u64 (a.num : Int)) (.string (txt a.text)) (.slice A3 n c3)) (w.heap.size + 1) 42 (cN a (.slice A3 n c3)) ∧ LieP 0 w.heap.size (set6 w8 (w.heap.size + 1) (.string (txt a.name)) (.string (txt a.key)) (.int .i64 a.kind) (.int .u64 (a.num : Int)) (.string (txt a.text)) (.slice A3 n c3)) (ndC a (.slice A3 n c3)) (a, F) ∧ Below w.heap.size w (set6 w8 (w.heap.size + 1) (.string (txt a.name)) (.string (txt a.key)) (.int .i64 a.kind) (.int .u64 (a.num : Int)) (.string (txt a.text)) (.slice A3 n c3))) := .mk
     ⟨HND.out.1.set6 _ _ _ _ _ _, ((LieP.make (a := a) HO.out.row).set6 (Nat.zero_le _) (by have := HND.out.2.2.2.2; omega) _ _ _ _ _ _).after (by have := HND.out.2.2.2.2; omega), HND.out.2.2.2.1.trans (set6_below (Nat.le_succ _))⟩
    obtain ⟨y0, y1, y2, y3, y4, y5⟩ := cl6 HND.out.2.2.1
    have fz0 : (w8).frozen? ⟨w.heap.size + 1, 0, none⟩ = false := HND.out.1.frozen 0
    have fq0 := (HND.out.1.cell 0).trans rfl
    have fz1 : (w8).frozen? ⟨w.heap.size + 1, 1, none⟩ = false := HND.out.1.frozen 1
    have fq1 := (HND.out.1.cell 1).trans rfl
    have fz2 : (w8).frozen? ⟨w.heap.size + 1, 2, none⟩ = false := HND.out.1.frozen 2
    have fq2 := (HND.out.1.cell 2).trans rfl
    have fz3 : (w8).frozen? ⟨w.heap.size + 1, 3, none⟩ = false := HND.out.1.frozen 3
    have fq3 := (HND.out.1.cell 3).trans rfl
    have fz4 : (w8).frozen? ⟨w.heap.size + 1, 4, none⟩ = false := HND.out.1.frozen 4
    have fq4 := (HND.out.1.cell 4).trans rfl
    have fz5 : (w8).frozen? ⟨w.heap.size + 1, 5, none⟩ = false := HND.out.1.frozen 5
    have fq5 := (HND.out.1.cell 5).trans rfl
    clear HND HO HV HE
    go_wp2_with fail
    refine bodyPost_ret (results_cell_row rfl _ _ (w.heap.size + 1) 42 _ (0, 0) _ rfl V9.out.1 Tryz.underlying42 rfl (by kernel_rfl)) rfl ?_
    exact .inl ⟨HX.out, by rw [HVE.out]; exact ⟨_, rfl, V9.out.2.1, V9.out.2.2⟩⟩
  | true =>
   obtain ⟨vd, q, r', rfl⟩ := has_cons18 h7x
   obtain ⟨A3, c3, rfl⟩ := HO.out.shape
   obtain ⟨n, hn⟩ : ∃ n, n = F.len := ⟨_, rfl⟩
   have HN := hHd hn
   rw [← hn] at HND HO
   have HSQ : Hid (q.sz ≤ 1000000) := hHd (by have := HS1.out; simp only [Fo.sz] at this; omega)
   have HFL2 : Hid ((F.len + 1) + r'.len ≤ 1000000) := hHd (by have := HFL.out; simp only [Fo.len] at this; omega)
   have HWD : Hid (Below w8.heap.size w8 w8.drew) := hHd (Below.refl _ _).drew
   have HND0 : Hid (Nd18 w gn a (.slice A3 n c3) (.cons 7 vd q r') w8.drew) := hHd (HND.out.go HWD.out)
   have HO0 : Hid (OwnR18 (gn + 1) w8.drew (.slice A3 n c3) F) := hHd (HO.out.below HWD.out)
   have HT : Hid (Calls Tryz.prog 89 #[.pointer (some ⟨w.heap.size + 1 + 1, 0, none⟩), .int .u64 7] w8.drew (TakP18 (Lo w) (w.heap.size + 2) 7 vd q r' w8.drew)) := TYE7 w8.drew vd q r' HND0.out.2.1 HS1.out
   have HIQ : Hid (NodeI18 q) := hHd HV.out.2.2.2.1
   have HGS : Hid (gn + 1 ≤ w8.heap.size) := hHd HND.out.2.2.1.lt
   have HLW : Hid (w.heap.size ≤ gn) := hHd (by have := HND.out.2.2.2.2; omega)
   clear h7x hn HND HO
   cases hq : ex18 q 0 with
   | false =>
    have HX : Hid (ex18 k 0 = false) := hHd (exV_kid18 HV.out hq)
    have HQ := hHd hq
    clear hq
    go_upto_region 9 with (fail)
    refine wp_region_panicAt (fun c w' => NodP18 k w (.panicked c) w') (fun _ _ _ h1 h2 => ⟨h1, h2⟩) ?_
    refine wp_region_held_drew (S := fun _ => True) (by kernel_rfl) trivial (fun hS => ?_)
    refine tkH 0 hS ?_ (hQ := fun _ _ _ h => panic_put h)
    refine rdy [1, 2] (rdC (fun K hK => ?str_0) (rdC (fun K hK => ?str_1) .nil))
    case' str_0 =>
     have y5 := (HND0.out.2.2.1.cell 5).trans rfl
     go_simp
     refine hK.out _ _ ?sr_0 (fun hS => ?_)
     case sr_0 => (exact trivial)
     clear hK K
     (try simp only [Act.put, layS])
     clear y5
     refine rdy1 2 fun K hK => ?_
     go_simp
     refine HT.out.mono ?_
     rintro e w9 ⟨eA, ec, fA, fc, rfl, -, hk9, hr9, hg9⟩
     have HN9 := hHd (HND0.out.tak hr9 hg9)
     have HIQ9 : Hid (Calls Tryz.prog 90 #[.agg #[.int .u64 7, .slice eA vd.length ec, .slice fA q.len fc]] w9 (fun r w' => r = .panicked inv18 ∧ Below w9.heap.size w9 w')) := hHd ((HIQ.out 7 eA vd.length ec fA fc w9 (hk9.kept stays_I (fun _ _ => rfl) (fun g hg => Nat.lt_of_lt_of_le hg HN9.out.2.2.2.1.size)) HSQ.out).mono (fun _ _ h => nodP_no18 HQ.out h))
     clear hk9 hr9 hg9
     go_wp2_with fail
     refine hK.out _ _ ?sr_2 (fun hS => ?_)
     case sr_2 => (exact trivial)
     clear hK K
     (try simp only [Act.put, layS])
     refine rdy1 3 fun K hK => ?_
     go_simp
     refine HIQ9.out.mono ?_
     rintro e w10 ⟨rfl, hb10⟩
     exact ⟨rfl, .inr ⟨HX.out, rfl, HN9.out.2.2.2.1.trans (hb10.mono HN9.out.2.2.2.1.size)⟩⟩
    case' str_1 =>
     go_simp
     refine HT.out.mono ?_
     rintro e w9 ⟨eA, ec, fA, fc, rfl, -, hk9, hr9, hg9⟩
     have HN9 := hHd (HND0.out.tak hr9 hg9)
     have HIQ9 : Hid (Calls Tryz.prog 90 #[.agg #[.int .u64 7, .slice eA vd.length ec, .slice fA q.len fc]] w9 (fun r w' => r = .panicked inv18 ∧ Below w9.heap.size w9 w')) := hHd ((HIQ.out 7 eA vd.length ec fA fc w9 (hk9.kept stays_I (fun _ _ => rfl) (fun g hg => Nat.lt_of_lt_of_le hg HN9.out.2.2.2.1.size)) HSQ.out).mono (fun _ _ h => nodP_no18 HQ.out h))
     clear hk9 hr9 hg9
     go_wp2_with fail
     refine hK.out _ _ ?sr_1 (fun hS => ?_)
     case sr_1 => (exact trivial)
     clear hK K
     (try simp only [Act.put, layS])
     refine rdy [1, 3] (rdC (fun K hK => ?str_4) (rdC (fun K hK => ?str_5) .nil))
     case' str_4 =>
      have y5 := (HN9.out.2.2.1.cell 5).trans rfl
      go_simp
      refine hK.out _ _ ?sr_4 (fun hS => ?_)
      case sr_4 => (exact trivial)
      clear hK K
      (try simp only [Act.put, layS])
      clear y5
      refine rdy1 3 fun K hK => ?_
      go_simp
      refine HIQ9.out.mono ?_
      rintro e w10 ⟨rfl, hb10⟩
      exact ⟨rfl, .inr ⟨HX.out, rfl, HN9.out.2.2.2.1.trans (hb10.mono HN9.out.2.2.2.1.size)⟩⟩
     case' str_5 =>
      go_simp
      refine HIQ9.out.mono ?_
      rintro e w10 ⟨rfl, hb10⟩
      exact ⟨rfl, .inr ⟨HX.out, rfl, HN9.out.2.2.2.1.trans (hb10.mono HN9.out.2.2.2.1.size)⟩⟩
   | true =>
    obtain ⟨⟨qa, qf⟩, hqq⟩ : ∃ y, y = (kid18 V18 q, red18 V18 q) := ⟨_, rfl⟩
    have hv2 := atV_kid18 HV.out hq
    rw [show kid18 V18 q = qa from (congrArg Prod.fst hqq).symm, show red18 V18 q = qf from (congrArg Prod.snd hqq).symm] at hv2
    have HV2 := hHd hv2
    have HQQ := hHd hqq
    have HQ := hHd hq
    have HL2 : Hid ((F.app (.cons qa qf .nil)).len + r'.len ≤ 1000000) := hHd (by rw [Fr.len_app]; have := HFL2.out; simp only [Fr.len]; omega)
    clear hq hqq hv2
    go_upto_region 9 with (fail)
    refine wp_region_noPanic ?_
    refine wp_region_held_drew (S := fun _ => True) (by kernel_rfl) trivial (fun hS => ?_)
    refine tkH 0 hS ?_
    refine rdy [1, 2] (rdC (fun K hK => ?str_7) (rdC (fun K hK => ?str_8) .nil))
    case' str_7 =>
     have y5 := (HND0.out.2.2.1.cell 5).trans rfl
     go_simp
     refine hK.out _ _ ?sr_7 (fun hS => ?_)
     case sr_7 => (exact trivial)
     clear hK K
     (try simp only [Act.put, layS])
     clear y5
     refine rdy1 2 fun K hK => ?_
     go_simp
     refine HT.out.mono ?_
     rintro e w9 ⟨eA, ec, fA, fc, rfl, -, hk9, hr9, hg9⟩
     have HN9 := hHd (HND0.out.tak hr9 hg9)
     have HO9 := hHd (HO0.out.grownR hg9 (by have := HN9.out.2.2.2.2; omega))
     have HIQ9 : Hid (Calls Tryz.prog 90 #[.agg #[.int .u64 7, .slice eA vd.length ec, .slice fA q.len fc]] w9 (PTreP1 0 (qa, qf) w9)) := hHd ((HIQ.out 7 eA vd.length ec fA fc w9 (hk9.kept stays_I (fun _ _ => rfl) (fun g hg => Nat.lt_of_lt_of_le hg HN9.out.2.2.2.1.size)) HSQ.out).mono (fun _ _ h => by rw [HQQ.out]; exact nodP_yes18 HQ.out h))
     clear hk9 hr9 hg9
     go_wp2_with fail
     refine hK.out _ _ ?sr_9 (fun hS => ?_)
     case sr_9 => (exact trivial)
     clear hK K
     (try simp only [Act.put, layS])
     refine rdy1 3 fun K hK => ?_
     go_simp
     refine HIQ9.out.mono ?_
     intro e w10 hr
     obtain ⟨A8, c8, rfl, hl8, hb10⟩ := hr.flat
     have HN10 := hHd (HN9.out.go hb10)
     have HB10 := hHd hb10
     have HL10 := hHd hl8
     clear hr hl8 hb10
     go_wp2_with fail
     refine hK.out _ _ ?sr_a (fun hS => ?_)
     case sr_a => (exact trivial)
     clear hK K
     (try simp only [Act.put, layS])
     refine rdy1 4 fun K hK => ?_
     have hb11 : Below w10.heap.size w10 (w10.alloc (.cells (cN qa (.slice A8 qf.len c8)) 42)) := bAl
     have HN11 := hHd (HN10.out.go hb11)
     have HBL : Hid (Blk (w10.alloc (.cells (cN qa (.slice A8 qf.len c8)) 42)) w10.heap.size 42 (ndC qa (.slice A8 qf.len c8)).toArray) := hHd (Blk.new _ _ _)
     have HM11 := hHd (HO9.out.more (HB10.out.trans (hb11.mono HB10.out.size)) (Nat.le_refl _) HN9.out.2.2.1.lt (HL10.out.below hb11 (Nat.zero_le _)))
     clear hb11
     go_simp
     refine hK.out _ _ ?sr_b (fun hS => ?_)
     case sr_b => (exact trivial)
     clear hK K
     (try simp only [Act.put, layS])
     refine rdy1 5 fun K hK => ?_
     obtain ⟨S9, hS9, hO9, hT9⟩ := HM11.out
     refine wp_append_g stay_nd one_nd Tryz.underlying40 Tryz.cellsNd rfl (by decide) (.tmp 28) (.tmp 31) rfl rfl rfl hO9 rfl HBL.out hT9 (by have := HFL2.out; omega) (by have := HFL2.out; omega) HN11.out.2.2.1.lt ?_
     intro v9 w12 hap
     have HQ12 := hHd (nd_app18 HN11.out hS9 hO9 hap)
     obtain ⟨g9, c9, rfl⟩ := hap.2.2.2
     clear hap hO9 hT9 hS9 HM11
     refine hK.out _ _ ?sr_c (fun hS => ?_)
     case sr_c => (exact trivial)
     clear hK K
     (try simp only [Act.put, layS])
     refine tkH 6 hS ?_
     refine rdy1 7 fun K hK => ?_
     have fz5 := HQ12.out.2.2.2.1.frozen 5
     have fq5 := (HQ12.out.2.2.2.1.cell 5).trans rfl
     have HF9 := Veil18k.mk (nd_set18 HQ12.out)
     go_simp
     refine hK.out _ _ ?sr_d (fun hS => ?_)
     case sr_d => (exact trivial)
     clear hK K
     (try simp only [Act.put, layS])
     refine wpAnyH_done (by kernel_rfl) ?_ _
     refine NoPanic.normal ?_
    case' str_8 =>
     go_simp
     refine HT.out.mono ?_
     rintro e w9 ⟨eA, ec, fA, fc, rfl, -, hk9, hr9, hg9⟩
     have HN9 := hHd (HND0.out.tak hr9 hg9)
     have HO9 := hHd (HO0.out.grownR hg9 (by have := HN9.out.2.2.2.2; omega))
     have HIQ9 : Hid (Calls Tryz.prog 90 #[.agg #[.int .u64 7, .slice eA vd.length ec, .slice fA q.len fc]] w9 (PTreP1 0 (qa, qf) w9)) := hHd ((HIQ.out 7 eA vd.length ec fA fc w9 (hk9.kept stays_I (fun _ _ => rfl) (fun g hg => Nat.lt_of_lt_of_le hg HN9.out.2.2.2.1.size)) HSQ.out).mono (fun _ _ h => by rw [HQQ.out]; exact nodP_yes18 HQ.out h))
     clear hk9 hr9 hg9
     go_wp2_with fail
     refine hK.out _ _ ?sr_8 (fun hS => ?_)
     case sr_8 => (exact trivial)
     clear hK K
     (try simp only [Act.put, layS])
     refine rdy [1, 3] (rdC (fun K hK => ?str_e) (rdC (fun K hK => ?str_f) .nil))
     case' str_e =>
      have y5 := (HN9.out.2.2.1.cell 5).trans rfl
      go_simp
      refine hK.out _ _ ?sr_e (fun hS => ?_)
      case sr_e => (exact trivial)
      clear hK K
      (try simp only [Act.put, layS])
      clear y5
      refine rdy1 3 fun K hK => ?_
      go_simp
      refine HIQ9.out.mono ?_
      intro e w10 hr
      obtain ⟨A8, c8, rfl, hl8, hb10⟩ := hr.flat
      have HN10 := hHd (HN9.out.go hb10)
      have HB10 := hHd hb10
      have HL10 := hHd hl8
      clear hr hl8 hb10
      go_wp2_with fail
      refine hK.out _ _ ?sr_g (fun hS => ?_)
      case sr_g => (exact trivial)
      clear hK K
      (try simp only [Act.put, layS])
      refine rdy1 4 fun K hK => ?_
      have hb11 : Below w10.heap.size w10 (w10.alloc (.cells (cN qa (.slice A8 qf.len c8)) 42)) := bAl
      have HN11 := hHd (HN10.out.go hb11)
      have HBL : Hid (Blk (w10.alloc (.cells (cN qa (.slice A8 qf.len c8)) 42)) w10.heap.size 42 (ndC qa (.slice A8 qf.len c8)).toArray) := hHd (Blk.new _ _ _)
      have HM11 := hHd (HO9.out.more (HB10.out.trans (hb11.mono HB10.out.size)) (Nat.le_refl _) HN9.out.2.2.1.lt (HL10.out.below hb11 (Nat.zero_le _)))
      clear hb11
      go_simp
      refine hK.out _ _ ?sr_h (fun hS => ?_)
      case sr_h => (exact trivial)
      clear hK K
      (try simp only [Act.put, layS])
      refine rdy1 5 fun K hK => ?_
      obtain ⟨S9, hS9, hO9, hT9⟩ := HM11.out
      refine wp_append_g stay_nd one_nd Tryz.underlying40 Tryz.cellsNd rfl (by decide) (.tmp 28) (.tmp 31) rfl rfl rfl hO9 rfl HBL.out hT9 (by have := HFL2.out; omega) (by have := HFL2.out; omega) HN11.out.2.2.1.lt ?_
      intro v9 w12 hap
      have HQ12 := hHd (nd_app18 HN11.out hS9 hO9 hap)
      obtain ⟨g9, c9, rfl⟩ := hap.2.2.2
      clear hap hO9 hT9 hS9 HM11
      refine hK.out _ _ ?sr_i (fun hS => ?_)
      case sr_i => (exact trivial)
      clear hK K
      (try simp only [Act.put, layS])
      refine tkH 6 hS ?_
      refine rdy1 7 fun K hK => ?_
      have fz5 := HQ12.out.2.2.2.1.frozen 5
      have fq5 := (HQ12.out.2.2.2.1.cell 5).trans rfl
      have HF9 := Veil18k.mk (nd_set18 HQ12.out)
      go_simp
      refine hK.out _ _ ?sr_j (fun hS => ?_)
      case sr_j => (exact trivial)
      clear hK K
      (try simp only [Act.put, layS])
      refine wpAnyH_done (by kernel_rfl) ?_ _
      refine NoPanic.normal ?_
     case' str_f =>
      go_simp
      refine HIQ9.out.mono ?_
      intro e w10 hr
      obtain ⟨A8, c8, rfl, hl8, hb10⟩ := hr.flat
      have HN10 := hHd (HN9.out.go hb10)
      have HB10 := hHd hb10
      have HL10 := hHd hl8
      clear hr hl8 hb10
      go_wp2_with fail
      refine hK.out _ _ ?sr_f (fun hS => ?_)
      case sr_f => (exact trivial)
      clear hK K
      (try simp only [Act.put, layS])
      refine rdy [1, 4] (rdC (fun K hK => ?str_k) (rdC (fun K hK => ?str_l) .nil))
      case' str_k =>
       have y5 := (HN9.out.2.2.1.cell 5).trans rfl
       have z5 := (HN10.out.2.2.1.cell 5).trans rfl
       go_simp
       refine hK.out _ _ ?sr_k (fun hS => ?_)
       case sr_k => (exact trivial)
       clear hK K
       (try simp only [Act.put, layS])
       clear z5
       clear y5
       refine rdy1 4 fun K hK => ?_
       have hb11 : Below w10.heap.size w10 (w10.alloc (.cells (cN qa (.slice A8 qf.len c8)) 42)) := bAl
       have HN11 := hHd (HN10.out.go hb11)
       have HBL : Hid (Blk (w10.alloc (.cells (cN qa (.slice A8 qf.len c8)) 42)) w10.heap.size 42 (ndC qa (.slice A8 qf.len c8)).toArray) := hHd (Blk.new _ _ _)
       have HM11 := hHd (HO9.out.more (HB10.out.trans (hb11.mono HB10.out.size)) (Nat.le_refl _) HN9.out.2.2.1.lt (HL10.out.below hb11 (Nat.zero_le _)))
       clear hb11
       go_simp
       refine hK.out _ _ ?sr_m (fun hS => ?_)
       case sr_m => (exact trivial)
       clear hK K
       (try simp only [Act.put, layS])
       refine rdy1 5 fun K hK => ?_
       obtain ⟨S9, hS9, hO9, hT9⟩ := HM11.out
       refine wp_append_g stay_nd one_nd Tryz.underlying40 Tryz.cellsNd rfl (by decide) (.tmp 28) (.tmp 31) rfl rfl rfl hO9 rfl HBL.out hT9 (by have := HFL2.out; omega) (by have := HFL2.out; omega) HN11.out.2.2.1.lt ?_
       intro v9 w12 hap
       have HQ12 := hHd (nd_app18 HN11.out hS9 hO9 hap)
       obtain ⟨g9, c9, rfl⟩ := hap.2.2.2
       clear hap hO9 hT9 hS9 HM11
       refine hK.out _ _ ?sr_n (fun hS => ?_)
       case sr_n => (exact trivial)
       clear hK K
       (try simp only [Act.put, layS])
       refine tkH 6 hS ?_
       refine rdy1 7 fun K hK => ?_
       have fz5 := HQ12.out.2.2.2.1.frozen 5
       have fq5 := (HQ12.out.2.2.2.1.cell 5).trans rfl
       have HF9 := Veil18k.mk (nd_set18 HQ12.out)
       go_simp
       refine hK.out _ _ ?sr_o (fun hS => ?_)
       case sr_o => (exact trivial)
       clear hK K
       (try simp only [Act.put, layS])
       refine wpAnyH_done (by kernel_rfl) ?_ _
       refine NoPanic.normal ?_
      case' str_l =>
       have hb11 : Below w10.heap.size w10 (w10.alloc (.cells (cN qa (.slice A8 qf.len c8)) 42)) := bAl
       have HN11 := hHd (HN10.out.go hb11)
       have HBL : Hid (Blk (w10.alloc (.cells (cN qa (.slice A8 qf.len c8)) 42)) w10.heap.size 42 (ndC qa (.slice A8 qf.len c8)).toArray) := hHd (Blk.new _ _ _)
       have HM11 := hHd (HO9.out.more (HB10.out.trans (hb11.mono HB10.out.size)) (Nat.le_refl _) HN9.out.2.2.1.lt (HL10.out.below hb11 (Nat.zero_le _)))
       clear hb11
       go_simp
       refine hK.out _ _ ?sr_l (fun hS => ?_)
       case sr_l => (exact trivial)
       clear hK K
       (try simp only [Act.put, layS])
       refine rdy1 1 fun K hK => ?_
       have y5 := (HN9.out.2.2.1.cell 5).trans rfl
       have z5 := (HN10.out.2.2.1.cell 5).trans rfl
       have u5 := (HN11.out.2.2.1.cell 5).trans rfl
       go_simp
       refine hK.out _ _ ?sr_p (fun hS => ?_)
       case sr_p => (exact trivial)
       clear hK K
       (try simp only [Act.put, layS])
       clear u5
       clear z5
       clear y5
       refine rdy1 5 fun K hK => ?_
       obtain ⟨S9, hS9, hO9, hT9⟩ := HM11.out
       refine wp_append_g stay_nd one_nd Tryz.underlying40 Tryz.cellsNd rfl (by decide) (.tmp 28) (.tmp 31) rfl rfl rfl hO9 rfl HBL.out hT9 (by have := HFL2.out; omega) (by have := HFL2.out; omega) HN11.out.2.2.1.lt ?_
       intro v9 w12 hap
       have HQ12 := hHd (nd_app18 HN11.out hS9 hO9 hap)
       obtain ⟨g9, c9, rfl⟩ := hap.2.2.2
       clear hap hO9 hT9 hS9 HM11
       refine hK.out _ _ ?sr_q (fun hS => ?_)
       case sr_q => (exact trivial)
       clear hK K
       (try simp only [Act.put, layS])
       refine tkH 6 hS ?_
       refine rdy1 7 fun K hK => ?_
       have fz5 := HQ12.out.2.2.2.1.frozen 5
       have fq5 := (HQ12.out.2.2.2.1.cell 5).trans rfl
       have HF9 := Veil18k.mk (nd_set18 HQ12.out)
       go_simp
       refine hK.out _ _ ?sr_r (fun hS => ?_)
       case sr_r => (exact trivial)
       clear hK K
       (try simp only [Act.put, layS])
       refine wpAnyH_done (by kernel_rfl) ?_ _
       refine NoPanic.normal ?_
    all_goals clear hS HQ12 HN11 HBL HB10 HN10 HL10 HN9 HO9 HIQ9 HND0 HO0 HV HWD HT fz5 fq5
    all_goals (go_wp2_with fail; go_roundw <;> first | exact ⟨r', _, _, HV2, hHd HF9.out.2, hHd HF9.out.1, HL2⟩ | exact lt_left18 HF9.out.2.2.1 HMR.out)
theorem nodeof_any18 (k : Fo) : NodeI18 k := Fo.byKids (P := NodeI18) nodeof_row18 k
end
end Go.Proofs.YtleidkpdpabkpaaGreatDoor
