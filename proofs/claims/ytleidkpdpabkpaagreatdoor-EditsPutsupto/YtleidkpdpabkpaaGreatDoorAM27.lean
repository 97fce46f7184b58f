/- EdvG EdvH -/
import Derived.Test.YtleidkpdpabkpaaGreatDoorAM26
set_option linter.unusedSimpArgs false
set_option linter.unusedVariables false
set_option maxRecDepth 100000
set_option maxHeartbeats 8000000
namespace Go.Proofs.YtleidkpdpabkpaaGreatDoor
open Go.RowKit
section
attribute [local go_sem] Oper.semAt_some
def WayOP18 (s : List UInt8) (w : World) (r : Ending) (w' : World) : Prop := Below w.heap.size w w' ∧ (if (parseX15 s).2.1 = 0 then ∃ v, r = .returned v ∧ WayN15 w.heap.size w' v (parseX15 s).1 else r = .panicked inv18)
theorem way_any18 (s : List UInt8) (db : Nat) (v : Value) (w : World) (hr : Rd w db v s) (hs : s.length ≤ 9223372036854775807) : Calls Tryz.prog 88 #[v] w (WayOP18 s w) := by
 have hc := str_of hr
 obtain ⟨⟨L, e, p⟩, hx⟩ : ∃ x, x = parseX15 s := ⟨_, rfl⟩
 have hp := parse15n_any s hs w
 rw [← hx] at hp
 have HP := hHd hp
 have HX := hHd hx
 obtain ⟨A, c, rfl⟩ : ∃ A c, v = .slice A s.length c := by obtain ⟨A, c, e, _⟩ := hr; exact ⟨A, c, e⟩
 have HR : ∀ b W, Hid (Calls Tryz.prog 61 #[.bool b] W (ReqP b W)) := fun b W => hHd (require_any b W)
 by_cases he : e = 0
 ·have e1 : ((e : Int) == 0) = true := by rw [he]; rfl
  have e2 : (e == 0) = true := by rw [he]; rfl
  have HE := hHd he
  clear hx hp hr hs he
  go_enter Tryz.func88, Tryz.ntmps88
  go_wp2_with fail
  refine HP.out.mono ?_
  rintro r w1 ⟨v1, rfl, hw, hb⟩
  obtain ⟨A1, c1, rfl⟩ : ∃ A c, v1 = .slice A L.length c := by obtain ⟨A, c, e, _⟩ := hw; exact ⟨A, c, e⟩
  have HF : Hid (WayOP18 s w (.returned (.slice A1 L.length c1)) w1) := hHd (by
   refine ⟨hb, ?_⟩
   rw [← HX.out, if_pos HE.out]
   exact ⟨_, rfl, hw⟩)
  clear hw hb hc
  go_wp2_with fail
  refine (HR true _).out.mono ?_
  rintro r w2 ⟨h1, rfl⟩
  obtain rfl : r = .returned (.tuple #[]) := by simpa using h1
  go_wp2
  go_ret
  exact HF.out
 ·have e1 : ((e : Int) == 0) = false := by rw [beq_eq_false_iff_ne]; omega
  have e2 : (e == 0) = false := beq_eq_false_iff_ne.2 he
  have HE := hHd he
  clear hx hp hr hs he
  go_enter Tryz.func88, Tryz.ntmps88
  go_wp2_with fail
  refine HP.out.mono ?_
  rintro r w1 ⟨v1, rfl, hw, hb⟩
  have HF : Hid (WayOP18 s w (.panicked inv18) w1) := hHd (by
   refine ⟨hb, ?_⟩
   rw [← HX.out, if_neg HE.out])
  clear hw hb hc
  go_wp2_with fail
  refine (HR false _).out.mono ?_
  rintro r w2 ⟨h1, rfl⟩
  obtain rfl : r = .panicked inv18 := by simpa using h1
  go_wp2
  exact ⟨rfl, HF.out⟩
def NumOP18 (s : List UInt8) (w : World) (r : Ending) (w' : World) : Prop := Below w.heap.size w w' ∧ (if numOk18 s = true then r = .returned (.int .u64 (valB s : Int)) else r = .panicked inv18)
theorem num_any18 (s : List UInt8) (db : Nat) (v : Value) (w : World) (hr : Rd w db v s) : Calls Tryz.prog 119 #[v] w (NumOP18 s w) := by
 obtain ⟨A, c, rfl⟩ : ∃ A c, v = .slice A s.length c := by obtain ⟨A, c, e, _⟩ := hr; exact ⟨A, c, e⟩
 have hsl := hr.len
 have HR : ∀ b W, Hid (Calls Tryz.prog 61 #[.bool b] W (ReqP b W)) := fun b W => hHd (require_any b W)
 by_cases hv : valB s < 18446744073709551616
 ·have HV := hHd (value_yes db _ s w hr hv)
  have HL := hHd ((least_any (valB s) w hv).mono fun r w' h => datP_big h)
  obtain ⟨b, hb⟩ : ∃ b, b = decide ((leastB (valB s)).length = s.length) := ⟨_, rfl⟩
  have HO : Hid (numOk18 s = b) := hHd (by unfold numOk18; rw [decide_eq_true hv, Bool.true_and, hb])
  obtain ⟨N, hN⟩ : ∃ N, N = valB s := ⟨_, rfl⟩
  have HNE := hHd hN
  rw [← hN] at HV HL hb
  have HN : Hid (N < 18446744073709551616) := hHd (by rw [hN]; exact hv)
  have hll := least_len18 N (by rw [hN]; exact hv)
  obtain ⟨T, hT⟩ : ∃ T, T = leastB N := ⟨_, rfl⟩
  have HL : Hid (Calls Tryz.prog 103 #[.int .u64 (N : Int)] w (DatP T w)) := hHd (by rw [hT]; exact HL.out)
  rw [← hT] at hb hll
  obtain ⟨m, hm⟩ : ∃ m, m = T.length := ⟨_, rfl⟩
  rw [← hm] at hb hll
  clear hr hv hN hT
  cases b with
  | true =>
   have hml : m = s.length := by simpa using hb.symm
   have e1 : ((m : Int) == (s.length : Int)) = true := by rw [hml]; exact beq_self_eq_true _
   have e2 : (m == s.length) = true := by rw [hml]; exact beq_self_eq_true _
   clear hb hml hsl
   have HM := hHd hm
   clear hm
   go_enter Tryz.func119, Tryz.ntmps119
   go_wp2_with fail
   refine HV.out.mono ?_
   rintro r w1 ⟨rfl, rfl⟩
   go_wp2_with fail
   refine HL.out.mono ?_
   rintro r w1 ⟨v1, rfl, hd, hb1⟩
   obtain ⟨A1, c1, rfl⟩ : ∃ A c, v1 = .slice A m c := by obtain ⟨_, ⟨A, c, e, _⟩, _⟩ := hd; rw [HM.out]; exact ⟨A, c, e⟩
   have HF : Hid (NumOP18 s w (.returned (.int .u64 (N : Int))) w1) := hHd (by
    refine ⟨hb1, ?_⟩
    rw [HO.out, if_pos rfl, HNE.out])
   clear hd hb1
   go_wp2_with fail
   refine (HR true _).out.mono ?_
   rintro r w2 ⟨h1, rfl⟩
   obtain rfl : r = .returned (.tuple #[]) := by simpa using h1
   go_wp2
   go_ret
   exact HF.out
  | false =>
   have hml : ¬ m = s.length := by simpa using hb.symm
   have e1 : ((m : Int) == (s.length : Int)) = false := by rw [beq_eq_false_iff_ne]; omega
   have e2 : (m == s.length) = false := beq_eq_false_iff_ne.2 hml
   clear hb hml hsl
   have HM := hHd hm
   clear hm
   go_enter Tryz.func119, Tryz.ntmps119
   go_wp2_with fail
   refine HV.out.mono ?_
   rintro r w1 ⟨rfl, rfl⟩
   go_wp2_with fail
   refine HL.out.mono ?_
   rintro r w1 ⟨v1, rfl, hd, hb1⟩
   obtain ⟨A1, c1, rfl⟩ : ∃ A c, v1 = .slice A m c := by obtain ⟨_, ⟨A, c, e, _⟩, _⟩ := hd; rw [HM.out]; exact ⟨A, c, e⟩
   have HF : Hid (NumOP18 s w (.panicked inv18) w1) := hHd (by
    refine ⟨hb1, ?_⟩
    rw [HO.out, if_neg (by decide)])
   clear hd hb1
   go_wp2_with fail
   refine (HR false _).out.mono ?_
   rintro r w2 ⟨h1, rfl⟩
   obtain rfl : r = .panicked inv18 := by simpa using h1
   go_wp2
   exact ⟨rfl, HF.out⟩
 ·have HV := hHd (value_no db _ s w hr hv)
  have HF : Hid (NumOP18 s w (.panicked inv18) w) := hHd (by
   refine ⟨Below.refl _ _, ?_⟩
   unfold numOk18
   rw [decide_eq_false hv, if_neg (by simp)])
  clear hr hv hsl
  go_enter Tryz.func119, Tryz.ntmps119
  go_wp2_with fail
  refine HV.out.mono ?_
  rintro r w1 ⟨rfl, rfl⟩
  go_wp2_with fail
  refine (HR false _).out.mono ?_
  rintro r w2 ⟨h1, rfl⟩
  obtain rfl : r = .panicked inv18 := by simpa using h1
  go_wp2
  exact ⟨rfl, HF.out⟩
theorem nm_cons18 (x : UInt8) (l : List UInt8) : nm (x :: l) 0 1 = (x.toNat, l, 0) := by
 unfold nm
 rw [if_neg (by decide), nx_ok (by decide) (by simp only [List.length_cons]; omega)]
 show (valB [x], l, 0) = _
 rw [show valB [x] = x.toNat by simp [valB]]
theorem nm_nil18 : nm [] 0 1 = (0, [], 10) := by
 unfold nm
 rw [if_neg (by decide), nx_short (by decide) (by simp)]
 rfl
def valD18 : List UInt8 → Int × Nat × List UInt8
 | x :: y :: s => if y = 0 then ((x.toNat : Int), valB s, []) else ((x.toNat : Int), 0, s)
 | _ => (0, 0, [])
def ValP18 (d : List UInt8) (w : World) (r : Ending) (w' : World) : Prop := Below w.heap.size w w' ∧ (if valOk18 d = true then r = .returned (.agg #[.int .i64 (valD18 d).1, .int .u64 ((valD18 d).2.1 : Int), .string (txt (valD18 d).2.2)]) else r = .panicked inv18)
theorem val_any18 (d : List UInt8) (db : Nat) (v : Value) (w : World) (hr : Rd w db v d) (hl : d.length ≤ 1000000) : Calls Tryz.prog 111 #[v] w (ValP18 d w) := by
 obtain ⟨A, c, rfl⟩ : ∃ A c, v = .slice A d.length c := by obtain ⟨A, c, e, _⟩ := hr; exact ⟨A, c, e⟩
 have HR : ∀ b W, Hid (Calls Tryz.prog 61 #[.bool b] W (ReqP b W)) := fun b W => hHd (require_any b W)
 have hb0 : Below w.heap.size w (w.alloc (.cells #[.int .i64 0, .int .u64 0, .string ⟨#[]⟩] 39)) := bAl
 have hz0 : (w.alloc (.cells #[.int .i64 0, .int .u64 0, .string ⟨#[]⟩] 39)).heap.size = w.heap.size + 1 := by simp
 have hop := open_any db _ d (w.alloc (.cells #[.int .i64 0, .int .u64 0, .string ⟨#[]⟩] 39)) (hr.below' hb0)
 unfold OpenPost at hop
 rw [hz0] at hop
 have HOP := hHd hop
 obtain ⟨⟨N1, L1, E1⟩, h1⟩ : ∃ x, x = nm d 0 1 := ⟨_, rfl⟩
 obtain ⟨⟨N2, L2, E2⟩, h2⟩ : ∃ x, x = nm L1 E1 1 := ⟨_, rfl⟩
 have hn1 : N1 < 256 := by have := nm_one_lt d 0; rwa [← h1] at this
 have kw : IntKind.i64.wrap (N1 : Int) = (N1 : Int) := Go.IntWalk.i64_in _ (by omega)
 have HBT1 : ∀ W, Win W (w.heap.size + 1 + 1) (w.heap.size + 1) d 0 → Hid (Calls Tryz.prog 118 #[.pointer (some ⟨(w.heap.size + 1 + 1), 0, none⟩)] W (fun r w' => r = .returned (.int .u8 (N1 : Int)) ∧ Win w' (w.heap.size + 1 + 1) (w.heap.size + 1) L1 E1 ∧ W.grownBy w' (some (w.heap.size + 1 + 1)) ∧ w'.heap.size = W.heap.size)) := fun W hW => hHd ((byte_any (w.heap.size + 1 + 1) (w.heap.size + 1) d 0 W hW (by omega)).mono fun r w' ⟨k1, k2, k3, k4⟩ => by rw [← h1] at k1 k2; exact ⟨k1, k2, k3, k4⟩)
 have HBT2 : ∀ W, Win W (w.heap.size + 1 + 1) (w.heap.size + 1) L1 E1 → Hid (Calls Tryz.prog 118 #[.pointer (some ⟨(w.heap.size + 1 + 1), 0, none⟩)] W (fun r w' => r = .returned (.int .u8 (N2 : Int)) ∧ Win w' (w.heap.size + 1 + 1) (w.heap.size + 1) L2 E2 ∧ W.grownBy w' (some (w.heap.size + 1 + 1)) ∧ w'.heap.size = W.heap.size)) := fun W hW => hHd ((byte_any (w.heap.size + 1 + 1) (w.heap.size + 1) L1 E1 W hW (by omega)).mono fun r w' ⟨k1, k2, k3, k4⟩ => by rw [← h2] at k1 k2; exact ⟨k1, k2, k3, k4⟩)
 have HNM := hHd (And.intro h1 h2)
 have HB0 := hHd hb0
 have HT0 : Hid (Blk (w.alloc (.cells #[.int .i64 0, .int .u64 0, .string ⟨#[]⟩] 39)) w.heap.size 39 #[.int .i64 0, .int .u64 0, .string ⟨#[]⟩]) := hHd (Blk.new _ _ _)
 have HL := hHd hl
 have HZ0 := hHd hz0
 clear hr hl hop h1 h2 hn1 hb0 hz0
 go_enter Tryz.func111, Tryz.ntmps111
 go_wp2_with fail
 refine HOP.out.mono ?_
 rintro r w1 ⟨rfl, hw1, hb1, hs1⟩
 have HW1 := hHd hw1
 have HT1 := hHd (HT0.out.below hb1 (Nat.lt_succ_self _))
 have HB1 := hHd (HB0.out.trans (hb1.mono (Nat.le_succ _)))
 have HZ1 : Hid (w1.heap.size = w.heap.size + 3) := hHd (by unfold Sz at hs1; omega)
 clear hw1 hb1 hs1 HT0 HB0 HOP HZ0
 go_wp2_with fail
 refine (HBT1 _ HW1.out).out.mono ?_
 rintro r w2 ⟨rfl, hw2, hg2, hs2⟩
 have hz2 : w2.heap.size = w.heap.size + 3 := by rw [hs2]; exact HZ1.out
 have HT2 := hHd (HT1.out.grown hg2 (fun e => by have := Option.some.inj e; omega))
 have HB2 := hHd (HB1.out.grown hg2 HB1.out.size (fun b e => by have := Option.some.inj e; omega))
 have HW3 : Hid (Win (w2.alloc (.cells #[.int .i64 (N1 : Int), .int .u64 0, .string ⟨#[]⟩] 39)) (w.heap.size + 1 + 1) (w.heap.size + 1) L1 E1) := hHd (hw2.alloc _)
 have HX3 : Hid (Blk (w2.alloc (.cells #[.int .i64 (N1 : Int), .int .u64 0, .string ⟨#[]⟩] 39)) w2.heap.size 39 #[.int .i64 (N1 : Int), .int .u64 0, .string ⟨#[]⟩]) := hHd (Blk.new _ _ _)
 have HT3 : Hid (Blk (w2.alloc (.cells #[.int .i64 (N1 : Int), .int .u64 0, .string ⟨#[]⟩] 39)) w.heap.size 39 #[.int .i64 0, .int .u64 0, .string ⟨#[]⟩]) := hHd (HT2.out.alloc _)
 have HB3 : Hid (Below w.heap.size w (w2.alloc (.cells #[.int .i64 (N1 : Int), .int .u64 0, .string ⟨#[]⟩] 39))) := hHd (HB2.out.alloc HB2.out.size _)
 have HZ2 := hHd hz2
 clear hw2 hg2 hs2 HW1 HT1 HB1 HZ1 HBT1 hz2 HT2 HB2
 go_wp2_with fail
 refine (HBT2 _ HW3.out).out.mono ?_
 rintro r w4 ⟨rfl, hw4, hg4, hs4⟩
 have HW4 := hHd hw4
 have HX4 := hHd (HX3.out.grown hg4 (fun e => by have := Option.some.inj e; have := HZ2.out; omega))
 have HT4 := hHd (HT3.out.grown hg4 (fun e => by have := Option.some.inj e; omega))
 have HB4 := hHd (HB3.out.grown hg4 HB3.out.size (fun b e => by have := Option.some.inj e; omega))
 have HZ4 : Hid (w4.heap.size = w2.heap.size + 1) := hHd (by rw [hs4]; simp)
 clear hw4 hg4 hs4 HW3 HX3 HT3 HB3 HBT2 kw
 go_upto_region 4 with (fail)
 have HER := hHd (err_any (w.heap.size + 1 + 1) (w.heap.size + 1) L2 E2 w4 HW4.out)
 by_cases hE : E2 = 0
 rotate_left
 ·have e1 : (E2 == 0) = false := beq_eq_false_iff_ne.2 hE
  have HOK : Hid (valOk18 d = false) := hHd (by
   obtain ⟨h1, h2⟩ := HNM.out
   rcases d with _ | ⟨x, _ | ⟨y, s⟩⟩
   ·rfl
   ·rfl
   ·rw [nm_cons18] at h1
    injection h1 with k1 k2; injection k2 with k2 k3
    subst k2 k3
    rw [nm_cons18] at h2
    injection h2 with k4 k5; injection k5 with k5 k6
    exact absurd k6 hE)
  clear hE
  go_wp2_with fail
  refine HER.out.mono ?_
  rintro r w5 ⟨rfl, rfl⟩
  go_wp2_with fail
  refine (HR false _).out.mono ?_
  rintro r w6 ⟨h1, rfl⟩
  obtain rfl : r = .panicked inv18 := by simpa using h1
  go_wp2
  exact ⟨rfl, HB4.out, by rw [HOK.out, if_neg (by decide)]⟩
 subst hE
 by_cases hN : N1 = 0
 ·have HOK : Hid (valOk18 d = false) := hHd (by
   obtain ⟨h1, h2⟩ := HNM.out
   rcases d with _ | ⟨x, _ | ⟨y, s⟩⟩
   ·rfl
   ·rfl
   ·rw [nm_cons18] at h1
    injection h1 with k1 k2
    have hx : x = 0 := UInt8.toNat.inj (by rw [show (0 : UInt8).toNat = 0 from rfl]; omega)
    simp [valOk18, hx])
  subst hN
  have q0 : w4.cell? ⟨w2.heap.size, 0, none⟩ = some (.int .i64 0) := (HX4.out.cell 0).trans rfl
  go_wp2_with fail
  refine HER.out.mono ?_
  rintro r w5 ⟨rfl, rfl⟩
  go_wp2_with fail
  refine (HR false _).out.mono ?_
  rintro r w6 ⟨h1, rfl⟩
  obtain rfl : r = .panicked inv18 := by simpa using h1
  go_wp2
  exact ⟨rfl, HB4.out, by rw [HOK.out, if_neg (by decide)]⟩
 obtain ⟨x, y, s, rfl, hx1, hy1, rfl⟩ : ∃ x y s, d = x :: y :: s ∧ N1 = x.toNat ∧ N2 = y.toNat ∧ s = L2 := by
  obtain ⟨h1, h2⟩ := HNM.out
  rcases d with _ | ⟨x, _ | ⟨y, s⟩⟩
  ·rw [nm_nil18] at h1
   injection h1 with k1 k2
   exact absurd k1 hN
  ·rw [nm_cons18] at h1
   injection h1 with k1 k2; injection k2 with k2 k3
   subst k2 k3
   rw [nm_nil18] at h2
   injection h2 with k4 k5; injection k5 with k5 k6
   exact absurd k6 (by decide)
  ·rw [nm_cons18] at h1
   injection h1 with k1 k2; injection k2 with k2 k3
   subst k2 k3
   rw [nm_cons18] at h2
   injection h2 with k4 k5; injection k5 with k5 k6
   exact ⟨x, y, s, rfl, k1, k4, k5.symm⟩
 subst hx1 hy1
 have HX0 : Hid (x ≠ 0) := hHd (fun e => hN (by rw [e]; rfl))
 have k1 : (((x.toNat : Nat) : Int) != 0) = true := by simp only [bne_iff_ne, ne_eq]; omega
 have k2 : (((x.toNat : Nat) : Int) == 0) = false := by rw [beq_eq_false_iff_ne]; omega
 have k3 : (x.toNat == 0) = false := beq_eq_false_iff_ne.2 hN
 have k4 : (x.toNat != 0) = true := by simp [hN]
 have q0 : w4.cell? ⟨w2.heap.size, 0, none⟩ = some (.int .i64 (x.toNat : Int)) := (HX4.out.cell 0).trans rfl
 have HLS : Hid (s.length ≤ 1000000) := hHd (by have := HL.out; simp only [List.length_cons] at this; omega)
 clear hN HNM
 go_wp2_with fail
 refine HER.out.mono ?_
 rintro r w5 ⟨rfl, rfl⟩
 go_wp2_with fail
 refine (HR true _).out.mono ?_
 rintro r w5 ⟨h1, rfl⟩
 obtain rfl : r = .returned (.tuple #[]) := by simpa using h1
 clear q0 k1 k2 k3 k4 h1 HER
 have HLF := hHd (left_any (w.heap.size + 1 + 1) (w.heap.size + 1) s 0 w4 HW4.out)
 have hbt := bytes_any (w.heap.size + 1 + 1) (w.heap.size + 1) s 0 (s.length : Int) w4 HW4.out (by omega)
 unfold BytesPost at hbt
 rw [nx_ok (by omega) (by omega)] at hbt
 simp only [Int.toNat_natCast, List.take_length] at hbt
 have HBT := hHd hbt
 clear hbt HL
 go_wp2_with fail
 refine HLF.out.mono ?_
 rintro r w5 ⟨rfl, rfl⟩
 go_wp2_with fail
 refine HBT.out.mono ?_
 rintro r w7 ⟨v7, rfl, hr7, -, hg7, hs7⟩
 obtain ⟨A7, c7, rfl⟩ : ∃ A c, v7 = .slice A s.length c := by obtain ⟨A, c, e, _⟩ := hr7; exact ⟨A, c, e⟩
 have HX7 := hHd (HX4.out.grown hg7 (fun e => by have := Option.some.inj e; have := HZ2.out; omega))
 have HT7 := hHd (HT4.out.grown hg7 (fun e => by have := Option.some.inj e; omega))
 have HB7 := hHd (HB4.out.grown hg7 HB4.out.size (fun b e => by have := Option.some.inj e; omega))
 have HR7 := hHd hr7
 clear hr7 hg7 hs7 HX4 HT4 HB4 HW4 HLF HBT HZ4
 by_cases hy0 : y = 0
 ·have e1 : (((y.toNat : Nat) : Int) == 0) = true := by rw [hy0]; rfl
  have HO : Hid (valOk18 (x :: y :: s) = numOk18 s) := hHd (by simp [valOk18, hy0, HX0.out])
  have HVD : Hid (valD18 (x :: y :: s) = ((x.toNat : Int), valB s, [])) := hHd (by unfold valD18; simp only; rw [if_pos hy0])
  have HNU := hHd (num_any18 s _ _ w7 HR7.out)
  clear hy0
  go_wp2_with fail
  refine HNU.out.mono ?_
  intro r w6 hp
  obtain ⟨hb6, hp⟩ := hp
  have HX7 := hHd (HX7.out.below hb6 HX7.out.lt)
  have HT7 := hHd (HT7.out.below hb6 HT7.out.lt)
  have HB7 := hHd (HB7.out.trans (hb6.mono HB7.out.size))
  clear hb6
  cases hno : numOk18 s with
  | false =>
   rw [hno, if_neg (by decide)] at hp
   subst hp
   have HOK : Hid (valOk18 (x :: y :: s) = false) := hHd (by rw [HO.out, hno])
   clear hno
   go_wp2
   exact ⟨rfl, HB7.out, by rw [HOK.out, if_neg (by decide)]⟩
  | true =>
  rw [hno, if_pos rfl] at hp
  subst hp
  have HOK : Hid (valOk18 (x :: y :: s) = true) := hHd (by rw [HO.out, hno])
  clear hno
  have HX8 : Hid (Blk (w6.setCell ⟨w2.heap.size, 1, none⟩ (.int .u64 (valB s : Int))) w2.heap.size 39 #[.int .i64 (x.toNat : Int), .int .u64 (valB s : Int), .string ⟨#[]⟩]) := hHd (HX7.out.set_ 1 _)
  have HT8 : Hid (Blk (w6.setCell ⟨w2.heap.size, 1, none⟩ (.int .u64 (valB s : Int))) w.heap.size 39 #[.int .i64 0, .int .u64 0, .string ⟨#[]⟩]) := hHd (HT7.out.far (p := ⟨w2.heap.size, 1, none⟩) (by show w.heap.size ≠ w2.heap.size; have := HZ2.out; omega) _)
  have HB8 : Hid (Below w.heap.size w (w6.setCell ⟨w2.heap.size, 1, none⟩ (.int .u64 (valB s : Int)))) := hHd (HB7.out.setCell (p := ⟨w2.heap.size, 1, none⟩) (by show w.heap.size ≤ w2.heap.size; have := HZ2.out; omega) _)
  have zq := (HX7.out.cell 1).trans rfl
  have zf := HX7.out.frozen 1
  go_upto_region 13 with (fail)
  clear zq zf HX7 HT7 HB7
  revert HX8 HT8 HB8
  generalize (w6.setCell ⟨w2.heap.size, 1, none⟩ (.int .u64 (valB s : Int))) = w8
  intro HX8 HT8 HB8
  have V9 : Veil18 (Blk (set3o w8 w.heap.size 0 (.int .i64 (x.toNat : Int)) (.int .u64 (valB s : Int)) (.string ⟨#[]⟩)) w.heap.size 39 #[.int .i64 (x.toNat : Int), .int .u64 (valB s : Int), .string ⟨#[]⟩] ∧ Below w.heap.size w (set3o w8 w.heap.size 0 (.int .i64 (x.toNat : Int)) (.int .u64 (valB s : Int)) (.string ⟨#[]⟩))) := .mk ⟨blk_set3_18 HT8.out _ _ _, HB8.out.trans (set3o_below18 (Nat.le_refl _))⟩
  obtain ⟨y0, y1, y2⟩ := cl3 HX8.out
  have fz0 : w8.frozen? ⟨w.heap.size, 0, none⟩ = false := HT8.out.frozen 0
  have fz1 : w8.frozen? ⟨w.heap.size, 1, none⟩ = false := HT8.out.frozen 1
  have fz2 : w8.frozen? ⟨w.heap.size, 2, none⟩ = false := HT8.out.frozen 2
  obtain ⟨fq0, fq1, fq2⟩ := cl3 HT8.out
  clear HX8 HT8 HB8
  go_wp2_with fail
  refine bodyPost_ret (results_cell_row rfl _ _ w.heap.size 39 _ (0, 0) _ rfl V9.out.1 Tryz.underlying39 rfl (by kernel_rfl)) rfl ?_
  exact ⟨V9.out.2, by rw [HOK.out, if_pos rfl, HVD.out]; rfl⟩
 ·have hyn : ¬ y.toNat = 0 := fun e => hy0 (UInt8.toNat.inj (by rw [e]; rfl))
  have e1 : (((y.toNat : Nat) : Int) == 0) = false := by rw [beq_eq_false_iff_ne]; omega
  by_cases hy1 : y = 1
  ·have e2 : (((y.toNat : Nat) : Int) == 1) = true := by rw [hy1]; rfl
   have HO : Hid (valOk18 (x :: y :: s) = decide (s ≠ [])) := hHd (by simp [valOk18, hy1, HX0.out])
   have HVD : Hid (valD18 (x :: y :: s) = ((x.toNat : Int), 0, s)) := hHd (by unfold valD18; simp only; rw [if_neg hy0])
   clear hy0 hyn hy1
   by_cases hs : s = []
   ·have l0 : ¬ (0 : Int) < (s.length : Int) := by rw [hs]; simp
    have l1 : ¬ 0 < s.length := by rw [hs]; simp
    have HOK : Hid (valOk18 (x :: y :: s) = false) := hHd (by rw [HO.out, hs]; rfl)
    clear hs
    go_wp2_with fail
    refine (HR false _).out.mono ?_
    rintro r w6 ⟨h1, rfl⟩
    obtain rfl : r = .panicked inv18 := by simpa using h1
    go_wp2
    exact ⟨rfl, HB7.out, by rw [HOK.out, if_neg (by decide)]⟩
   ·have l1 : 0 < s.length := List.length_pos_iff.2 hs
    have l0 : (0 : Int) < (s.length : Int) := by omega
    have HOK : Hid (valOk18 (x :: y :: s) = true) := hHd (by rw [HO.out]; simp [hs])
    have hst : (convert 25 9 (.slice A7 s.length c7)).run Tryz.prog w7 = .ok (.string (txt s)) w7 := str_of HR7.out
    clear hs
    go_wp2_with fail
    refine (HR true _).out.mono ?_
    rintro r w6 ⟨h1, rfl⟩
    obtain rfl : r = .returned (.tuple #[]) := by simpa using h1
    clear h1
    have HX8 : Hid (Blk (w7.setCell ⟨w2.heap.size, 2, none⟩ (.string (txt s))) w2.heap.size 39 #[.int .i64 (x.toNat : Int), .int .u64 0, .string (txt s)]) := hHd (HX7.out.set_ 2 _)
    have HT8 : Hid (Blk (w7.setCell ⟨w2.heap.size, 2, none⟩ (.string (txt s))) w.heap.size 39 #[.int .i64 0, .int .u64 0, .string ⟨#[]⟩]) := hHd (HT7.out.far (p := ⟨w2.heap.size, 2, none⟩) (by show w.heap.size ≠ w2.heap.size; have := HZ2.out; omega) _)
    have HB8 : Hid (Below w.heap.size w (w7.setCell ⟨w2.heap.size, 2, none⟩ (.string (txt s)))) := hHd (HB7.out.setCell (p := ⟨w2.heap.size, 2, none⟩) (by show w.heap.size ≤ w2.heap.size; have := HZ2.out; omega) _)
    have zq := (HX7.out.cell 2).trans rfl
    have zf := HX7.out.frozen 2
    go_upto_region 13 with (fail)
    clear zq zf HX7 HT7 HB7
    revert HX8 HT8 HB8
    generalize (w7.setCell ⟨w2.heap.size, 2, none⟩ (.string (txt s))) = w8
    intro HX8 HT8 HB8
    have V9 : Veil18 (Blk (set3o w8 w.heap.size 0 (.int .i64 (x.toNat : Int)) (.int .u64 0) (.string (txt s))) w.heap.size 39 #[.int .i64 (x.toNat : Int), .int .u64 0, .string (txt s)] ∧ Below w.heap.size w (set3o w8 w.heap.size 0 (.int .i64 (x.toNat : Int)) (.int .u64 0) (.string (txt s)))) := .mk ⟨blk_set3_18 HT8.out _ _ _, HB8.out.trans (set3o_below18 (Nat.le_refl _))⟩
    obtain ⟨y0, y1, y2⟩ := cl3 HX8.out
    have fz0 : w8.frozen? ⟨w.heap.size, 0, none⟩ = false := HT8.out.frozen 0
    have fz1 : w8.frozen? ⟨w.heap.size, 1, none⟩ = false := HT8.out.frozen 1
    have fz2 : w8.frozen? ⟨w.heap.size, 2, none⟩ = false := HT8.out.frozen 2
    obtain ⟨fq0, fq1, fq2⟩ := cl3 HT8.out
    clear HX8 HT8 HB8
    go_wp2_with fail
    refine bodyPost_ret (results_cell_row rfl _ _ w.heap.size 39 _ (0, 0) _ rfl V9.out.1 Tryz.underlying39 rfl (by kernel_rfl)) rfl ?_
    exact ⟨V9.out.2, by rw [HOK.out, if_pos rfl, HVD.out]; rfl⟩
  ·have hyn1 : ¬ y.toNat = 1 := fun e => hy1 (UInt8.toNat.inj (by rw [e]; rfl))
   have e2 : (((y.toNat : Nat) : Int) == 1) = false := by rw [beq_eq_false_iff_ne]; omega
   have HOK : Hid (valOk18 (x :: y :: s) = false) := hHd (by simp [valOk18, hy0, hy1])
   clear hy0 hy1 hyn hyn1
   go_wp2
   exact ⟨rfl, HB7.out, by rw [HOK.out, if_neg (by decide)]; rfl⟩
end
section
attribute [local go_sem] Oper.semAt_some
theorem ex12_18 {r : Fo} (h : hasX18 2 r = false) : ex18 r 1 = ex18 r 2 := by
 cases r with
 | nil => rfl
 | cons u d q z =>
  have hu : ¬ u = 2 := by simpa [hasX18] using h
  simp [ex18, hu]
theorem ex23_18 {r : Fo} (h : hasX18 4 r = false) : ex18 r 2 = ex18 r 3 := by
 cases r with
 | nil => rfl
 | cons u d q z =>
  have hu : ¬ u = 4 := by simpa [hasX18] using h
  simp [ex18, hu]
theorem ex3_dat18 : ∀ r : Fo, ex18 r 3 = true → dat18 2 r = [] ∧ dat18 4 r = [] := by
 intro r
 induction r with
 | nil => intro _; exact ⟨rfl, rfl⟩
 | cons u d q z _ ih =>
  intro h
  simp only [ex18] at h
  rw [if_neg (by decide), if_neg (fun e => absurd e.2 (by decide)), if_neg (fun e => absurd e.2 (by decide))] at h
  split at h
  ·rename_i hu
   rw [Bool.and_eq_true] at h
   subst hu
   simpa [dat18] using ih h.2
  ·cases h
theorem ex2_dat18 {r : Fo} (h : ex18 r 2 = true) : dat18 2 r = [] := by
 cases r with
 | nil => rfl
 | cons u d q z =>
  simp only [ex18] at h
  rw [if_neg (by decide), if_neg (fun e => absurd e.2 (by decide))] at h
  split at h
  ·rename_i hu
   rw [Bool.and_eq_true] at h
   have := (ex3_dat18 z h.2).1
   obtain ⟨rfl, -⟩ := hu
   simpa [dat18] using this
  ·split at h
   ·rename_i hu
    rw [Bool.and_eq_true] at h
    have := (ex3_dat18 z h.2).1
    subst hu
    simpa [dat18] using this
   ·cases h
theorem val_n18 {nm ky d : List UInt8} (h : valOk18 d = true) : valN18 nm ky d = ⟨nm, ky, (valD18 d).1, (valD18 d).2.1, (valD18 d).2.2⟩ := by
 rcases d with _ | ⟨x, _ | ⟨y, s⟩⟩
 ·cases h
 ·cases h
 ·unfold valN18 valD18
  simp only
  by_cases hy : y = 0
  ·rw [if_pos hy, if_pos hy]
   have hn : numOk18 s = true := by
    simp only [valOk18, Bool.and_eq_true] at h
    have := h.2
    rwa [if_pos hy] at this
   rw [(num_least18 hn).2.1]
  ·rw [if_neg hy, if_neg hy]
theorem OwnR18.grownR {base x : Nat} {W W' : World} {v : Value} {F : NdF} (h : OwnR18 base W v F) (hg : W.grownBy W' (some x)) (hx : x < base) : OwnR18 base W' v F := by
 obtain ⟨S, h1, h2⟩ := h
 refine ⟨S, h1, h2.grown stay_nd hg ?_ (fun g hg' e => ?_) (fun g hg' => absurd hg' (by exact id))⟩
 ·cases ho : v.ownBlock with
  | none => exact .inl rfl
  | some b => exact .inr (fun e => by have := (h2.lt b ho).1; have := Option.some.inj e; omega)
 ·have := h1 g hg'
  have := Option.some.inj e
  omega
def Nd18 (w : World) (gn : Nat) (a : NdD) (v : Value) (r : Fo) (W : World) : Prop :=
 Blk W (w.heap.size + 1) 42 #[.string ⟨#[]⟩, .string ⟨#[]⟩, .int .i64 0, .int .u64 0, .string ⟨#[]⟩, .slice none 0 0] ∧ RdI18 (Lo w) W (w.heap.size + 2) r ∧ Blk W gn 42 (cN a v) ∧ Below w.heap.size w W ∧ w.heap.size + 2 < gn
theorem Nd18.go {w W W' : World} {gn : Nat} {a : NdD} {v : Value} {r : Fo} (h : Nd18 w gn a v r W) (hb : Below W.heap.size W W') : Nd18 w gn a v r W' :=
 ⟨h.1.below hb h.1.lt, h.2.1.go hb, h.2.2.1.below hb h.2.2.1.lt, h.2.2.2.1.trans (hb.mono h.2.2.2.1.size), h.2.2.2.2⟩
theorem Nd18.low {w W W' : World} {gn : Nat} {a a' : NdD} {v v' : Value} {r : Fo} (h : Nd18 w gn a v r W) (hb : Below gn W W') (hn : Blk W' gn 42 (cN a' v')) : Nd18 w gn a' v' r W' := by
 obtain ⟨h1, h2, h3, h4, h5⟩ := h
 exact ⟨h1.below hb (by omega), h2.other hb.size (fun b _ hb' => hb.block b (hb'.elim (fun e => by omega) (fun e => by have : b < w.heap.size := e; omega))), hn, h4.trans (hb.mono (by omega)), h5⟩
theorem Nd18.tak {w W W' : World} {gn : Nat} {a : NdD} {v : Value} {r r' : Fo} (h : Nd18 w gn a v r W) (hr : RdI18 (Lo w) W' (w.heap.size + 2) r') (hg : W.grownBy W' (some (w.heap.size + 2))) : Nd18 w gn a v r' W' := by
 obtain ⟨h1, h2, h3, h4, h5⟩ := h
 exact ⟨h1.grown hg (fun e => by have := Option.some.inj e; omega), hr, h3.grown hg (fun e => by have := Option.some.inj e; omega), h4.grown hg h4.size (fun b e => by have := Option.some.inj e; omega), h5⟩
theorem nd_app18 {w W w9 : World} {gn : Nat} {a : NdD} {v v9 : Value} {r : Fo} {F G : NdF} {S : Nat → Prop} (hN : Nd18 w gn a v r W) (hS : ∀ g, S g → gn + 1 ≤ g) (hO : OwnG NdT 42 6 5 W (gn + 1) S noB v F) (hap : AppG NdT 42 6 5 (gn + 1) S noB W v G v9 w9) :
  OwnR18 (gn + 1) w9 v9 G ∧ Nd18 w gn a v r w9 ∧ True ∧ Blk w9 gn 42 (cN a v) ∧ (∀ g, v9.ownBlock = some g → gn + 1 ≤ g) := by
 have hb : gn + 1 ≤ W.heap.size := hN.2.2.1.lt
 have n1 : some gn ≠ v.ownBlock := fun e => by have := (hO.lt gn e.symm).1; omega
 have h3 := hN.2.2.1.grown hap.2.1 n1
 exact ⟨⟨S, hS, hap.1⟩, hN.low ((hap.below hO hb).mono (Nat.le_succ _)) h3, trivial, h3, fun g e => (hap.1.lt g e).1⟩
theorem nd_set18 {w w9 : World} {gn : Nat} {a : NdD} {v v9 : Value} {r : Fo} {G : NdF} (h : OwnR18 (gn + 1) w9 v9 G ∧ Nd18 w gn a v r w9 ∧ True ∧ Blk w9 gn 42 (cN a v) ∧ (∀ g, v9.ownBlock = some g → gn + 1 ≤ g)) :
  OwnR18 (gn + 1) (w9.setCell ⟨gn, 5, none⟩ v9) v9 G ∧ Nd18 w gn a v9 r (w9.setCell ⟨gn, 5, none⟩ v9) := by
 obtain ⟨h1, hB, -, h3, h4⟩ := h
 have hk := h3.set_ 5 v9
 simp only [layS] at hk
 exact ⟨h1.grownR (grown_set18 w9 gn 5 v9) (Nat.lt_succ_self _), hB.low ((Below.refl _ _).setCell (p := ⟨gn, 5, none⟩) (Nat.le_refl _) _) hk⟩
def NodP18 (k : Fo) (w : World) (r : Ending) (w' : World) : Prop := (ex18 k 0 = true ∧ PTreP1 0 (kid18 V18 k, red18 V18 k) w r w') ∨ (ex18 k 0 = false ∧ r = .panicked inv18 ∧ Below w.heap.size w w')
def NodeI18 (k : Fo) : Prop := ∀ (t : Nat) (dA : Option Addr) (dn dc : Nat) (A : Option Addr) (c : Nat) (w : World), FV DataI w (Lo w) (.slice A k.len c) k → k.sz ≤ 1000000 →
 Calls Tryz.prog 90 #[.agg #[.int .u64 (t : Int), .slice dA dn dc, .slice A k.len c]] w (NodP18 k w)
def leftI18 (w : World) (g : Nat) : Nat := match w.cell? ⟨g, 0, none⟩ with | some (.slice _ n _) => n | _ => 0
theorem leftI_of18 {S : Nat → Prop} {w : World} {g : Nat} {f : Fo} (h : RdI18 S w g f) : leftI18 w g = f.len := by
 obtain ⟨-, A, c, h2, -⟩ := h
 unfold leftI18
 rw [show w.cell? ⟨g, 0, none⟩ = some (.slice A f.len c) from (h2.cell 0).trans rfl]
def AtK18 (k r : Fo) (nm ky : List UInt8) : Prop := ex18 k 0 = ex18 r 2 ∧ (ex18 r 2 = true → kid18 V18 k = valN18 nm ky (dat18 4 r) ∧ red18 V18 k = red18 V18 r) ∧ r.sz ≤ 1000000 ∧ Fo.kidsAll NodeI18 r
def AtV18 (k r : Fo) (a : NdD) (F : NdF) : Prop := ex18 k 0 = ex18 r 3 ∧ (ex18 r 3 = true → kid18 V18 k = a ∧ red18 V18 k = F.app (red18 V18 r)) ∧ r.sz ≤ 1000000 ∧ Fo.kidsAll NodeI18 r
theorem atK_no18 {k r q : Fo} {nm : List UInt8} (hk : k = .cons 0 nm q r) (hs : k.sz ≤ 1000000) (hi : Fo.kidsAll NodeI18 k) (h : hasX18 2 r = false) : AtK18 k r nm [] := by
 subst hk
 have e := ex12_18 h
 refine ⟨by simp only [ex18]; rw [if_pos trivial, e]; simp, fun hx => ?_, by simp only [Fo.sz] at hs; omega, hi.2⟩
 rw [kid_val18]
 have h2 := ex2_dat18 hx
 have hr : red18 V18 (.cons 0 nm q r) = red18 V18 r := by simp only [red18]; rw [if_neg (by decide)]
 exact ⟨by simp [dat18, h2], hr⟩
theorem atK_yes18 {k r q : Fo} {nm ky : List UInt8} {q2 : Fo} (hk : k = .cons 0 nm q (.cons 2 ky q2 r)) (hs : k.sz ≤ 1000000) (hi : Fo.kidsAll NodeI18 k) (h : ky ≠ []) : AtK18 k r nm ky := by
 subst hk
 refine ⟨by simp only [ex18]; simp [h], fun hx => ?_, by simp only [Fo.sz] at hs; omega, hi.2.2⟩
 rw [kid_val18]
 have hr : red18 V18 (.cons 0 nm q (.cons 2 ky q2 r)) = red18 V18 r := by simp [red18]
 exact ⟨by simp [dat18], hr⟩
theorem exK_bad18 {k r q : Fo} {nm : List UInt8} {q2 : Fo} (hk : k = .cons 0 nm q (.cons 2 [] q2 r)) : ex18 k 0 = false := by
 subst hk
 simp only [ex18]
 simp
theorem atV_no18 {k r : Fo} {nm ky : List UInt8} (hA : AtK18 k r nm ky) (h : hasX18 4 r = false) : AtV18 k r ⟨nm, ky, 0, 0, []⟩ .nil := by
 obtain ⟨h1, h2, h3, h4⟩ := hA
 have e := ex23_18 h
 refine ⟨by rw [h1, e], fun hx => ?_, h3, h4⟩
 rw [← e] at hx
 obtain ⟨g1, g2⟩ := h2 hx
 rw [e] at hx
 rw [(ex3_dat18 r hx).2] at g1
 exact ⟨g1, g2⟩
theorem atV_yes18 {k r q : Fo} {nm ky d : List UInt8} (hA : AtK18 k (.cons 4 d q r) nm ky) (h : valOk18 d = true) : AtV18 k r ⟨nm, ky, (valD18 d).1, (valD18 d).2.1, (valD18 d).2.2⟩ .nil := by
 obtain ⟨h1, h2, h3, h4⟩ := hA
 have e : ex18 (.cons 4 d q r) 2 = ex18 r 3 := by simp only [ex18]; simp [h]
 refine ⟨by rw [h1, e], fun hx => ?_, by simp only [Fo.sz] at h3; omega, h4.2⟩
 rw [← e] at hx
 obtain ⟨g1, g2⟩ := h2 hx
 rw [g1, g2, ← val_n18 h]
 exact ⟨by simp [dat18], by simp only [red18]; rw [if_neg (by decide)]; rfl⟩
theorem exV_bad18 {k r q : Fo} {nm ky d : List UInt8} (hA : AtK18 k (.cons 4 d q r) nm ky) (h : valOk18 d = false) : ex18 k 0 = false := by
 rw [hA.1]
 simp only [ex18]
 simp [h]
theorem atV_kid18 {k r q : Fo} {d : List UInt8} {a : NdD} {F : NdF} (hA : AtV18 k (.cons 7 d q r) a F) (h : ex18 q 0 = true) : AtV18 k r a (F.app (.cons (kid18 V18 q) (red18 V18 q) .nil)) := by
 obtain ⟨h1, h2, h3, h4⟩ := hA
 have e : ex18 (.cons 7 d q r) 3 = ex18 r 3 := by simp only [ex18]; simp [h]
 refine ⟨by rw [h1, e], fun hx => ?_, by simp only [Fo.sz] at h3; omega, h4.2⟩
 rw [← e] at hx
 obtain ⟨g1, g2⟩ := h2 hx
 refine ⟨g1, ?_⟩
 rw [g2]
 simp only [red18, if_true]
 rw [Fr.app_assoc]
 rfl
theorem exV_kid18 {k r q : Fo} {d : List UInt8} {a : NdD} {F : NdF} (hA : AtV18 k (.cons 7 d q r) a F) (h : ex18 q 0 = false) : ex18 k 0 = false := by
 rw [hA.1]
 simp only [ex18]
 simp [h]
theorem exV_end18 {k r : Fo} {a : NdD} {F : NdF} (hA : AtV18 k r a F) (h : hasX18 7 r = false) : ex18 k 0 = decide (r = .nil) := by
 rw [hA.1]
 cases r with
 | nil => rfl
 | cons u d q z =>
  have hu : ¬ u = 7 := by simpa [hasX18] using h
  simp only [ex18]
  simp [hu]
theorem has_cons18 {t : Nat} {f : Fo} (h : hasX18 t f = true) : ∃ d q r, f = .cons t d q r := by
 cases f with
 | nil => cases h
 | cons u d q r => exact ⟨d, q, r, by rw [show u = t by simpa [hasX18] using h]⟩
end
end Go.Proofs.YtleidkpdpabkpaaGreatDoor
