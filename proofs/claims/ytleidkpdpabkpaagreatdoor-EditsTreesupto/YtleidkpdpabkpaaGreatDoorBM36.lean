/- EdvK -/
import Derived.Test.YtleidkpdpabkpaaGreatDoorBM35
set_option linter.unusedSimpArgs false
set_option linter.unusedVariables false
set_option maxRecDepth 100000
set_option maxHeartbeats 8000000
namespace Go.Proofs.YtleidkpdpabkpaaGreatDoor
open Go.RowKit
section
attribute [local go_sem] Oper.semAt_some
theorem editof_any18 (t : Nat) (ht : t < 18446744073709551616) (dA : Option Addr) (dn dc : Nat) (A : Option Addr) (c : Nat) (k : Fo) (w : World) (hv : FV DataI w (Lo w) (.slice A k.len c) k) (hsz : k.sz ≤ 1000000) : Calls Tryz.prog 60 #[.agg #[.int .u64 (t : Int), .slice dA dn dc, .slice A k.len c]] w (EdOP18 t k w) := by
 obtain ⟨h, hh⟩ : ∃ h, h = t / 2 := ⟨_, rfl⟩
 have h0 : Below w.heap.size w (((w.alloc (.cells #[.int .u64 (t : Int), .slice dA dn dc, .slice A k.len c] 58)).alloc (.cells #[.int .i64 0, .slice none 0 0, .string ⟨#[]⟩, .string ⟨#[]⟩, .int .i64 0, .int .u64 0, .string ⟨#[]⟩, .slice none 0 0, .string ⟨#[]⟩, .string ⟨#[]⟩, .int .i64 0, .int .u64 0, .string ⟨#[]⟩, .slice none 0 0] 55)).alloc (.cells #[.int .i64 (h : Int), .slice none 0 0, .string ⟨#[]⟩, .string ⟨#[]⟩, .int .i64 0, .int .u64 0, .string ⟨#[]⟩, .slice none 0 0, .string ⟨#[]⟩, .string ⟨#[]⟩, .int .i64 0, .int .u64 0, .string ⟨#[]⟩, .slice none 0 0] 55)) := (bAl.alloc (by simp) _).alloc (by simp; omega) _
 have HBI : Hid (Blk (((w.alloc (.cells #[.int .u64 (t : Int), .slice dA dn dc, .slice A k.len c] 58)).alloc (.cells #[.int .i64 0, .slice none 0 0, .string ⟨#[]⟩, .string ⟨#[]⟩, .int .i64 0, .int .u64 0, .string ⟨#[]⟩, .slice none 0 0, .string ⟨#[]⟩, .string ⟨#[]⟩, .int .i64 0, .int .u64 0, .string ⟨#[]⟩, .slice none 0 0] 55)).alloc (.cells #[.int .i64 (h : Int), .slice none 0 0, .string ⟨#[]⟩, .string ⟨#[]⟩, .int .i64 0, .int .u64 0, .string ⟨#[]⟩, .slice none 0 0, .string ⟨#[]⟩, .string ⟨#[]⟩, .int .i64 0, .int .u64 0, .string ⟨#[]⟩, .slice none 0 0] 55)) w.heap.size 58 #[.int .u64 (t : Int), .slice dA dn dc, .slice A k.len c]) := hHd (((Blk.new _ _ _).alloc _).alloc _)
 have HBZ : Hid (Blk (((w.alloc (.cells #[.int .u64 (t : Int), .slice dA dn dc, .slice A k.len c] 58)).alloc (.cells #[.int .i64 0, .slice none 0 0, .string ⟨#[]⟩, .string ⟨#[]⟩, .int .i64 0, .int .u64 0, .string ⟨#[]⟩, .slice none 0 0, .string ⟨#[]⟩, .string ⟨#[]⟩, .int .i64 0, .int .u64 0, .string ⟨#[]⟩, .slice none 0 0] 55)).alloc (.cells #[.int .i64 (h : Int), .slice none 0 0, .string ⟨#[]⟩, .string ⟨#[]⟩, .int .i64 0, .int .u64 0, .string ⟨#[]⟩, .slice none 0 0, .string ⟨#[]⟩, .string ⟨#[]⟩, .int .i64 0, .int .u64 0, .string ⟨#[]⟩, .slice none 0 0] 55)) (w.heap.size + 1) 55 #[.int .i64 0, .slice none 0 0, .string ⟨#[]⟩, .string ⟨#[]⟩, .int .i64 0, .int .u64 0, .string ⟨#[]⟩, .slice none 0 0, .string ⟨#[]⟩, .string ⟨#[]⟩, .int .i64 0, .int .u64 0, .string ⟨#[]⟩, .slice none 0 0]) := hHd (Blk.alloc (blk_atk18 (by simp) _ _) _)
 have HBX : Hid (Blk (((w.alloc (.cells #[.int .u64 (t : Int), .slice dA dn dc, .slice A k.len c] 58)).alloc (.cells #[.int .i64 0, .slice none 0 0, .string ⟨#[]⟩, .string ⟨#[]⟩, .int .i64 0, .int .u64 0, .string ⟨#[]⟩, .slice none 0 0, .string ⟨#[]⟩, .string ⟨#[]⟩, .int .i64 0, .int .u64 0, .string ⟨#[]⟩, .slice none 0 0] 55)).alloc (.cells #[.int .i64 (h : Int), .slice none 0 0, .string ⟨#[]⟩, .string ⟨#[]⟩, .int .i64 0, .int .u64 0, .string ⟨#[]⟩, .slice none 0 0, .string ⟨#[]⟩, .string ⟨#[]⟩, .int .i64 0, .int .u64 0, .string ⟨#[]⟩, .slice none 0 0] 55)) (w.heap.size + 2) 55 #[.int .i64 (h : Int), .slice none 0 0, .string ⟨#[]⟩, .string ⟨#[]⟩, .int .i64 0, .int .u64 0, .string ⟨#[]⟩, .slice none 0 0, .string ⟨#[]⟩, .string ⟨#[]⟩, .int .i64 0, .int .u64 0, .string ⟨#[]⟩, .slice none 0 0]) := hHd (blk_atk18 (by simp) _ _)
 have HZ : Hid ((((w.alloc (.cells #[.int .u64 (t : Int), .slice dA dn dc, .slice A k.len c] 58)).alloc (.cells #[.int .i64 0, .slice none 0 0, .string ⟨#[]⟩, .string ⟨#[]⟩, .int .i64 0, .int .u64 0, .string ⟨#[]⟩, .slice none 0 0, .string ⟨#[]⟩, .string ⟨#[]⟩, .int .i64 0, .int .u64 0, .string ⟨#[]⟩, .slice none 0 0] 55)).alloc (.cells #[.int .i64 (h : Int), .slice none 0 0, .string ⟨#[]⟩, .string ⟨#[]⟩, .int .i64 0, .int .u64 0, .string ⟨#[]⟩, .slice none 0 0, .string ⟨#[]⟩, .string ⟨#[]⟩, .int .i64 0, .int .u64 0, .string ⟨#[]⟩, .slice none 0 0] 55)).heap.size = w.heap.size + 3) := hHd (by simp)
 have lsz : ∀ r : Fo, r.sz ≤ 1000000 → r.len ≤ 1000000 := fun r h => Nat.le_trans (len_sz18 r) h
 have TNO : ∀ (u : Nat) (W : World) (r : Fo), RdI18 (Lo w) W (w.heap.size + 3) r → r.sz ≤ 1000000 → hasX18 u r = false → Hid (Calls Tryz.prog 89 #[.pointer (some ⟨w.heap.size + 3, 0, none⟩), .int .u64 (u : Int)] W (fun e w' => e = .panicked inv18 ∧ Below W.heap.size W w')) := fun u W r hr h hx => hHd (take_no18 (Lo w) _ u r W hr (lsz r h) hx)
 have TYE : ∀ (u : Nat) (W : World) (d : List UInt8) (q r : Fo), RdI18 (Lo w) W (w.heap.size + 3) (.cons u d q r) → (Fo.cons u d q r).sz ≤ 1000000 → Hid (Calls Tryz.prog 89 #[.pointer (some ⟨w.heap.size + 3, 0, none⟩), .int .u64 (u : Int)] W (TakP18 (Lo w) (w.heap.size + 3) u d q r W)) := fun u W d q r hr h => hHd (take_yes18 (Lo w) _ u d q r W hr (by have h9 := lsz _ h; simpa [Fo.len] using h9))
 have TNO2 : ∀ (W : World) (r : Fo), RdI18 (Lo w) W (w.heap.size + 3) r → r.sz ≤ 1000000 → hasX18 2 r = false → Hid (Calls Tryz.prog 89 #[.pointer (some ⟨w.heap.size + 3, 0, none⟩), .int .u64 2] W (fun e w' => e = .panicked inv18 ∧ Below W.heap.size W w')) := TNO 2
 have TYE2 : ∀ (W : World) (d : List UInt8) (q r : Fo), RdI18 (Lo w) W (w.heap.size + 3) (.cons 2 d q r) → (Fo.cons 2 d q r).sz ≤ 1000000 → Hid (Calls Tryz.prog 89 #[.pointer (some ⟨w.heap.size + 3, 0, none⟩), .int .u64 2] W (TakP18 (Lo w) (w.heap.size + 3) 2 d q r W)) := TYE 2
 have TNO3 : ∀ (W : World) (r : Fo), RdI18 (Lo w) W (w.heap.size + 3) r → r.sz ≤ 1000000 → hasX18 3 r = false → Hid (Calls Tryz.prog 89 #[.pointer (some ⟨w.heap.size + 3, 0, none⟩), .int .u64 3] W (fun e w' => e = .panicked inv18 ∧ Below W.heap.size W w')) := TNO 3
 have TYE3 : ∀ (W : World) (d : List UInt8) (q r : Fo), RdI18 (Lo w) W (w.heap.size + 3) (.cons 3 d q r) → (Fo.cons 3 d q r).sz ≤ 1000000 → Hid (Calls Tryz.prog 89 #[.pointer (some ⟨w.heap.size + 3, 0, none⟩), .int .u64 3] W (TakP18 (Lo w) (w.heap.size + 3) 3 d q r W)) := TYE 3
 have TNO5 : ∀ (W : World) (r : Fo), RdI18 (Lo w) W (w.heap.size + 3) r → r.sz ≤ 1000000 → hasX18 5 r = false → Hid (Calls Tryz.prog 89 #[.pointer (some ⟨w.heap.size + 3, 0, none⟩), .int .u64 5] W (fun e w' => e = .panicked inv18 ∧ Below W.heap.size W w')) := TNO 5
 have TYE5 : ∀ (W : World) (d : List UInt8) (q r : Fo), RdI18 (Lo w) W (w.heap.size + 3) (.cons 5 d q r) → (Fo.cons 5 d q r).sz ≤ 1000000 → Hid (Calls Tryz.prog 89 #[.pointer (some ⟨w.heap.size + 3, 0, none⟩), .int .u64 5] W (TakP18 (Lo w) (w.heap.size + 3) 5 d q r W)) := TYE 5
 have HEN : ∀ (W : World) (r : Fo), RdI18 (Lo w) W (w.heap.size + 3) r → r.sz ≤ 1000000 → Hid (Calls Tryz.prog 91 #[.pointer (some ⟨w.heap.size + 3, 0, none⟩)] W (ReqP (decide (r = .nil)) W)) := fun W r hr h => hHd (end_any18 (Lo w) _ r W hr (lsz r h))
 have HR : ∀ b W, Hid (Calls Tryz.prog 61 #[.bool b] W (ReqP b W)) := fun b W => hHd (require_any b W)
 have HTA : ∀ W, Hid (Calls Tryz.prog 45 #[.int .i64 (h : Int)] W (fun r w' => r = .returned (.int .u64 ((2 * h + 1 : Nat) : Int)) ∧ W = w')) := fun W => hHd (tag_any18 h (by omega) W)
 obtain ⟨hnb, hhn⟩ : ∃ b, b = decide (¬ h = 2) := ⟨_, rfl⟩
 obtain ⟨hob, hho⟩ : ∃ b, b = decide (¬ h = 1) := ⟨_, rfl⟩
 have HHN : ∀ W, Hid (Calls Tryz.prog 42 #[.int .i64 (h : Int)] W (fun r w' => r = .returned (.bool hnb) ∧ W = w')) := fun W => hHd ((hasNode_any18 (h : Int) W).mono fun r w' ⟨e1, e2⟩ => ⟨by rw [e1, hhn]; congr 2; simp only [ne_eq, decide_eq_decide]; omega, e2⟩)
 have HHO : ∀ W, Hid (Calls Tryz.prog 44 #[.int .i64 (h : Int)] W (fun r w' => r = .returned (.bool hob) ∧ W = w')) := fun W => hHd ((hasOld_any18 (h : Int) W).mono fun r w' ⟨e1, e2⟩ => ⟨by rw [e1, hho]; congr 2; simp only [ne_eq, decide_eq_decide]; omega, e2⟩)
 have x3 : (t : Int) / 2 = (h : Int) := by omega
 have x4 : (t : Int).tdiv 2 = (h : Int) := by rw [Int.tdiv_eq_ediv_of_nonneg (by omega)]; omega
 have x5 : IntKind.i64.wrap (h : Int) = (h : Int) := Go.IntWalk.i64_in _ (by omega)
 have x7 : IntKind.u64.wrap (h : Int) = (h : Int) := Go.IntWalk.u64_in _ (by omega)
 have hfd := fld_item18
 have HH := hHd hh
 have HNB := hHd (And.intro hhn hho)
 have H0 := hHd h0
 have HV := hHd hv
 have HSZ := hHd hsz
 clear hv hsz h0 lsz TNO TYE hh hhn hho ht
 go_enter Tryz.func60, Tryz.ntmps60
 go_upto_region 2 with (fail)
 clear x3 x4 x5 x7
 revert H0 HBI HBZ HBX HZ
 generalize (((w.alloc (.cells #[.int .u64 (t : Int), .slice dA dn dc, .slice A k.len c] 58)).alloc (.cells #[.int .i64 0, .slice none 0 0, .string ⟨#[]⟩, .string ⟨#[]⟩, .int .i64 0, .int .u64 0, .string ⟨#[]⟩, .slice none 0 0, .string ⟨#[]⟩, .string ⟨#[]⟩, .int .i64 0, .int .u64 0, .string ⟨#[]⟩, .slice none 0 0] 55)).alloc (.cells #[.int .i64 (h : Int), .slice none 0 0, .string ⟨#[]⟩, .string ⟨#[]⟩, .int .i64 0, .int .u64 0, .string ⟨#[]⟩, .slice none 0 0, .string ⟨#[]⟩, .string ⟨#[]⟩, .int .i64 0, .int .u64 0, .string ⟨#[]⟩, .slice none 0 0] 55)) = w1
 intro HBI HBZ HBX HZ H0
 have HWD : Hid (Below w1.heap.size w1 w1.drew) := hHd (Below.refl _ _).drew
 by_cases hodd : t % 2 = 1
 rotate_left
 ·have HX : Hid (exO18 t k = false) := hHd (exO_odd18 hodd)
  have e1 : ((t : Int) == 2 * (h : Int) + 1) = false := by rw [beq_eq_false_iff_ne]; have := HH.out; omega
  have e2 : (t == 2 * h + 1) = false := by rw [beq_eq_false_iff_ne]; have := HH.out; omega
  clear hodd
  refine wp_region_panicAt (fun c w' => EdOP18 t k w (.panicked c) w') (fun _ _ _ h1 h2 => ⟨h1, h2⟩) ?_
  refine wp_region_held_drew (S := fun _ => True) (by kernel_rfl) trivial (fun hS => ?_)
  refine held_more (S' := fun w' => Below w1.heap.size w1 w') (fun _ _ => trivial) _ _ _ _ ?_
  replace hS := HWD.out
  refine tkH 0 hS ?_ (hQ := fun _ _ _ h => panic_put h)
  refine tkH 1 hS ?_ (hy := fun w hSw => by have q0 := ((HBI.out.below hSw HBI.out.lt).cell 0).trans rfl; (go_simp <;> with_reducible rfl)) (hQ := fun _ _ _ h => panic_put h)
  refine tkH 2 hS ?_ (hQ := fun _ _ _ h => panic_put h)
  refine tkH 3 hS ?_ (hy := fun w hSw => by have q1 := ((HBX.out.below hSw HBX.out.lt).cell 0).trans rfl; (go_simp <;> with_reducible rfl)) (hQ := fun _ _ _ h => panic_put h)
  refine rdy1 4 fun K hK => ?_
  go_simp
  refine (HTA _).out.mono ?_
  rintro e w9 ⟨rfl, rfl⟩
  go_wp2_with fail
  refine hK.out _ _ ?sr_0 (fun hS => ?_)
  case sr_0 => (exact HWD.out)
  clear hK K
  (try simp only [Act.put, layS])
  refine tkH 5 hS ?_ (hy := fun w hSw => by have e9 := e1; (go_simp <;> with_reducible rfl)) (hQ := fun _ _ _ h => panic_put h)
  refine rdy1 6 fun K hK => ?_
  go_simp
  refine (HR false _).out.mono ?_
  rintro e w9 ⟨h1, rfl⟩
  obtain rfl : e = .panicked inv18 := by simpa using h1
  exact ⟨rfl, .inr ⟨HX.out, rfl, H0.out.trans (HWD.out.mono H0.out.size)⟩⟩
 have e1 : ((t : Int) == 2 * (h : Int) + 1) = true := by rw [beq_iff_eq]; have := HH.out; omega
 have e2 : (t == 2 * h + 1) = true := by rw [beq_iff_eq]; have := HH.out; omega
 have HODD := hHd hodd
 clear hodd
 refine wp_region_noPanic ?_
 refine wp_region_held_drew (S := fun _ => True) (by kernel_rfl) trivial (fun hS => ?_)
 refine held_more (S' := fun w' => Below w1.heap.size w1 w') (fun _ _ => trivial) _ _ _ _ ?_
 replace hS := HWD.out
 refine tkH 0 hS ?_
 refine tkH 1 hS ?_ (hy := fun w hSw => by have q0 := ((HBI.out.below hSw HBI.out.lt).cell 0).trans rfl; (go_simp <;> with_reducible rfl))
 refine tkH 2 hS ?_
 refine tkH 3 hS ?_ (hy := fun w hSw => by have q1 := ((HBX.out.below hSw HBX.out.lt).cell 0).trans rfl; (go_simp <;> with_reducible rfl))
 refine rdy1 4 fun K hK => ?_
 go_simp
 refine (HTA _).out.mono ?_
 rintro e w9 ⟨rfl, rfl⟩
 go_wp2_with fail
 refine hK.out _ _ ?sr_2 (fun hS => ?_)
 case sr_2 => (exact HWD.out)
 clear hK K
 (try simp only [Act.put, layS])
 refine tkH 5 hS ?_ (hy := fun w hSw => by have e9 := e1; (go_simp <;> with_reducible rfl))
 refine rdy1 6 fun K hK => ?_
 go_simp
 refine (HR true _).out.mono ?_
 rintro e w9 ⟨h1, rfl⟩
 obtain rfl : e = .returned (.tuple #[]) := by simpa using h1
 clear h1
 go_wp2_with fail
 refine hK.out _ _ ?sr_3 (fun hS => ?_)
 case sr_3 => (exact HWD.out)
 clear hK K
 (try simp only [Act.put, layS])
 refine wpAnyH_done (by kernel_rfl) ?_ _
 refine NoPanic.normal ?_
 clear hS e1 e2
 have q2 : w1.cell? ⟨w.heap.size, 2, none⟩ = some (.slice A k.len c) := (HBI.out.cell 2).trans rfl
 have hb3 : Below w1.heap.size w1 (w1.alloc (.cells #[.slice A k.len c] 138)).drew := bAl.drew
 have hbr : Blk (w1.alloc (.cells #[.slice A k.len c] 138)).drew (w.heap.size + 3) 138 #[.slice A k.len c] := (blk_atk18 HZ.out 138 #[.slice A k.len c] : Blk (w1.alloc (.cells #[.slice A k.len c] 138)) (w.heap.size + 3) 138 #[.slice A k.len c])
 have HEO : Hid (Eo18 w (h : Int) (.slice none 0 0) [] zeroT .nil (.slice none 0 0) zeroT .nil (.slice none 0 0) k (w1.alloc (.cells #[.slice A k.len c] 138)).drew) := hHd
  ⟨HBZ.out.below hb3 HBZ.out.lt, HBX.out.below hb3 HBX.out.lt, ⟨fun b hb => ⟨Nat.lt_of_lt_of_le hb (Nat.le_trans H0.out.size hb3.size), by have : b < w.heap.size := hb; omega⟩, A, c, hbr, HV.out.kept stays_I (fun g hg => (H0.out.trans (hb3.mono H0.out.size)).block g hg) (fun _ h => h)⟩, WayS.nil _ _, FrV.empty _ _ _, FrV.empty _ _ _, H0.out.trans (hb3.mono H0.out.size), by have h9 := HZ.out; show w.heap.size + 4 ≤ (w1.alloc (.cells #[.slice A k.len c] 138)).heap.size; rw [World.size_alloc]; omega⟩
 have HSZW := hHd hb3.size
 clear hb3 hbr
 go_upto_region 4 with (fail)
 clear q2
 rw [HZ.out]
 revert HEO HSZW
 generalize (w1.alloc (.cells #[.slice A k.len c] 138)).drew = w3
 intro HEO HSZW
 clear HWD HBI HBZ HBX HZ H0 HV HTA
 cases h2x : hasX18 2 k with
 | false =>
  have HX : Hid (exO18 t k = false) := hHd (exO_two18 h2x)
  have HT := TNO2 w3 k HEO.out.2.2.1 HSZ.out h2x
  clear h2x
  go_wp2_with fail
  refine HT.out.mono ?_
  rintro e w4 ⟨rfl, hb⟩
  have HBB := hHd (HEO.out.2.2.2.2.2.2.1.trans (hb.mono HEO.out.2.2.2.2.2.2.1.size))
  clear hb
  go_wp2
  exact ⟨rfl, .inr ⟨HX.out, rfl, HBB.out⟩⟩
 | true =>
 obtain ⟨d, q0, r0, hk⟩ := has_cons18 h2x
 have HK := hHd hk
 have HT : Hid (Calls Tryz.prog 89 #[.pointer (some ⟨w.heap.size + 3, 0, none⟩), .int .u64 2] w3 (TakP18 (Lo w) (w.heap.size + 3) 2 d q0 r0 w3)) := TYE2 w3 d q0 r0 (by rw [← hk]; exact HEO.out.2.2.1) (by rw [← hk]; exact HSZ.out)
 have HS0 : Hid (r0.sz ≤ 1000000 ∧ d.length ≤ 1000000) := hHd (by have := HSZ.out; rw [hk] at this; simp only [Fo.sz] at this; omega)
 clear h2x hk
 go_wp2_with fail
 refine HT.out.mono ?_
 rintro e w4 ⟨eA, ec, fA, fc, rfl, ⟨db, hdr, -⟩, -, hr4, hg4⟩
 have HE4 := hHd (HEO.out.tak hr4 hg4)
 have HWY := hHd (way_any18 d db _ w4 hdr (by have := HS0.out.2; omega))
 clear hdr hr4 hg4 HT HEO
 go_wp2_with fail
 refine HWY.out.mono ?_
 intro e w5 hp
 obtain ⟨hb5, hp⟩ := hp
 have HE5 := hHd (HE4.out.go hb5)
 have HS45 := hHd (And.intro HE4.out.2.2.2.2.2.2.2 hb5.size)
 clear hb5 HWY HE4
 obtain ⟨⟨L, pe, pp⟩, hx⟩ : ∃ x, x = parseX15 d := ⟨_, rfl⟩
 rw [← hx] at hp
 have HXX := hHd hx
 clear hx
 by_cases hpe : pe = 0
 rotate_left
 ·rw [if_neg hpe] at hp
  subst hp
  have HX : Hid (exO18 t k = false) := hHd (by rw [HK.out]; exact exO_par18 (by rw [← HXX.out]; exact hpe))
  clear hpe
  go_wp2
  exact ⟨rfl, .inr ⟨HX.out, rfl, HE5.out.2.2.2.2.2.2.1⟩⟩
 rw [if_pos hpe] at hp
 obtain ⟨wv, rfl, hwv⟩ := hp
 obtain ⟨A1, c1, rfl⟩ : ∃ A c, wv = .slice A L.length c := by obtain ⟨A, c, e, _⟩ := hwv; exact ⟨A, c, e⟩
 have HPE : Hid ((parseX15 d).2.1 = 0) := hHd (by rw [← HXX.out]; exact hpe)
 have fz := HE5.out.2.1.frozen 1
 have fq := (HE5.out.2.1.cell 1).trans rfl
 have HE6 : Hid (Eo18 w (h : Int) (.slice A1 L.length c1) L zeroT .nil (.slice none 0 0) zeroT .nil (.slice none 0 0) r0 (w5.setCell ⟨(w.heap.size + 1 + 1), 1, none⟩ (.slice A1 L.length c1))) := hHd (by
  have hx := HE5.out.2.1.set_ 1 (.slice A1 L.length c1)
  simp only [layS] at hx
  exact HE5.out.set (grown_set18 w5 (w.heap.size + 2) 1 _) (by simp [World.setCell]) hx (way_new18 (W0 := w4) hwv HS45.out.1) HE5.out.2.2.2.2.1 HE5.out.2.2.2.2.2.1)
 clear hpe hwv HS45 HE5
 go_upto_region 5 with (fail)
 clear fz fq
 revert HE6
 generalize (w5.setCell ⟨(w.heap.size + 1 + 1), 1, none⟩ (.slice A1 L.length c1)) = w6
 intro HE6
 clear TNO2 TYE2 HSZW
 go_cut [26] (fun b wx => b = .bool hnb ∧ w6 = wx)
 case first =>
  have q0 := (HE6.out.2.1.cell 0).trans rfl
  go_wp2_with fail
  refine (HHN _).out.mono ?_
  rintro e w9 ⟨rfl, rfl⟩
  go_wp2_with fail
  go_meet
  exact ⟨rfl, rfl⟩
 case rest =>
 obtain ⟨rfl, rfl⟩ := hcut
 go_upto_if 26 with (fail)
 go_cut [] (fun wx => ∃ (x : Nd) (pv : Value) (s : Fo), Hid (AtP18 t k s x) ∧ Hid (Eo18 w (h : Int) (.slice A1 L.length c1) L x.1 x.2 pv zeroT .nil (.slice none 0 0) s wx) ∧ Hid (s.sz ≤ 1000000))
 case first =>
  cases hnb with
  | false =>
   have HA : Hid (AtP18 t k r0 noN) := hHd (by rw [HK.out]; exact atP_no18 HODD.out HPE.out (by have h9 := HNB.out.1; have := HH.out; simp at h9; omega))
   go_wp2_with fail
   go_meet
   exact ⟨noN, _, r0, HA, HE6, hHd HS0.out.1⟩
  | true =>
   have HN2 : Hid (¬ t / 2 = 2) := hHd (by have h9 := HNB.out.1; have := HH.out; simp at h9; omega)
   have HSR : Hid (r0.sz ≤ 1000000) := hHd HS0.out.1
   cases h3x : hasX18 3 r0 with
   | false =>
    have HX : Hid (exO18 t k = false) := hHd (by rw [HK.out];exact exP_no18 HODD.out HPE.out HN2.out (nodeL_no18 h3x))
    have HT := TNO3 w6 r0 HE6.out.2.2.1 HSR.out h3x
    clear h3x
    go_wp2_with fail
    refine HT.out.mono ?_
    rintro e w8 ⟨rfl, hb⟩
    have HBB := hHd (HE6.out.2.2.2.2.2.2.1.trans (hb.mono HE6.out.2.2.2.2.2.2.1.size))
    clear hb
    go_wp2
    exact ⟨rfl, .inr ⟨HX.out, rfl, HBB.out⟩⟩
   | true =>
    obtain ⟨vd, q, s, hrr⟩ := has_cons18 h3x
    have HRR := hHd hrr
    have HT : Hid (Calls Tryz.prog 89 #[.pointer (some ⟨w.heap.size + 3, 0, none⟩), .int .u64 3] w6 (TakP18 (Lo w) (w.heap.size + 3) 3 vd q s w6)) := TYE3 w6 vd q s (by rw [← hrr]; exact HE6.out.2.2.1) (by rw [← hrr]; exact HSR.out)
    have HSS : Hid (s.sz ≤ 1000000) := hHd (by have := HSR.out; rw [hrr] at this; simp only [Fo.sz] at this; omega)
    have HSQ : Hid (q.sz ≤ 1000000) := hHd (by have := HSR.out; rw [hrr] at this; simp only [Fo.sz] at this; omega)
    clear h3x hrr
    go_wp2_with fail
    refine HT.out.mono ?_
    rintro e w8 ⟨eA, ec, fA, fc, rfl, -, hk8, hr8, hg8⟩
    have HE8 := hHd (HE6.out.tak hr8 hg8)
    have hno := nodeof_any18 q 3 eA vd.length ec fA fc w8 (hk8.kept stays_I (fun _ _ => rfl) (fun g hg => Nat.lt_of_lt_of_le hg HE8.out.2.2.2.2.2.2.1.size)) HSQ.out
    clear hk8 hr8 hg8 HT
    cases hq : ex18 q 0 with
    | false =>
     have HX : Hid (exO18 t k = false) := hHd (by rw [HK.out, HRR.out]; exact exP_no18 HODD.out HPE.out HN2.out (nodeL_bad18 hq))
     have HNO := hHd (hno.mono fun _ _ h => nodP_no18 hq h)
     clear hq hno
     go_wp2_with fail
     refine HNO.out.mono ?_
     rintro e w9 ⟨rfl, hb⟩
     have HBB := hHd (HE8.out.2.2.2.2.2.2.1.trans (hb.mono HE8.out.2.2.2.2.2.2.1.size))
     clear hb
     go_wp2
     exact ⟨rfl, .inr ⟨HX.out, rfl, HBB.out⟩⟩
    | true =>
     obtain ⟨⟨qa, qf⟩, hqq⟩ : ∃ y, y = (kid18 V18 q, red18 V18 q) := ⟨_, rfl⟩
     have HQQ := hHd hqq
     have HNO : Hid (Calls Tryz.prog 90 #[.agg #[.int .u64 3, .slice eA vd.length ec, .slice fA q.len fc]] w8 (PTreP1 0 (qa, qf) w8)) := hHd (hno.mono fun _ _ h => by rw [hqq]; exact nodP_yes18 hq h)
     have HA : Hid (AtP18 t k s (qa, qf)) := hHd (by rw [HK.out, HRR.out, HQQ.out]; exact atP_yes18 HODD.out HPE.out HN2.out hq)
     clear hq hno hqq
     go_wp2_with fail
     refine HNO.out.mono ?_
     intro e w9 hp
     obtain ⟨A8, c8, rfl, hl8, hb9⟩ := hp.flat
     have HE9 := hHd (HE8.out.go hb9)
     have HROW : Hid (RowS (New18 w w9) w9 (.slice A8 qf.len c8) qf) := hHd (row_new18 (W0 := w8) hl8 HE8.out.2.2.2.2.2.2.2)
     clear hp hl8 hb9 HE8 HNO
     have fz0 := HE9.out.2.1.frozen 2
     have fz1 := HE9.out.2.1.frozen 3
     have fz2 := HE9.out.2.1.frozen 4
     have fz3 := HE9.out.2.1.frozen 5
     have fz4 := HE9.out.2.1.frozen 6
     have fz5 := HE9.out.2.1.frozen 7
     have fq0 := (HE9.out.2.1.cell 2).trans rfl
     have fq1 := (HE9.out.2.1.cell 3).trans rfl
     have fq2 := (HE9.out.2.1.cell 4).trans rfl
     have fq3 := (HE9.out.2.1.cell 5).trans rfl
     have fq4 := (HE9.out.2.1.cell 6).trans rfl
     have fq5 := (HE9.out.2.1.cell 7).trans rfl
     have V9 : Veil18 (Eo18 w (h : Int) (.slice A1 L.length c1) L qa qf (.slice A8 qf.len c8) zeroT .nil (.slice none 0 0) s ((((((w9.setCell ⟨(w.heap.size + 1 + 1), 2, none⟩ (.string (txt qa.name))).setCell ⟨(w.heap.size + 1 + 1), 3, none⟩ (.string (txt qa.key))).setCell ⟨(w.heap.size + 1 + 1), 4, none⟩ (.int .i64 qa.kind)).setCell ⟨(w.heap.size + 1 + 1), 5, none⟩ (.int .u64 (qa.num : Int))).setCell ⟨(w.heap.size + 1 + 1), 6, none⟩ (.string (txt qa.text))).setCell ⟨(w.heap.size + 1 + 1), 7, none⟩ (.slice A8 qf.len c8))) := .mk (by
      have hx := (((((HE9.out.2.1.set_ 2 (.string (txt qa.name))).set_ 3 (.string (txt qa.key))).set_ 4 (.int .i64 qa.kind)).set_ 5 (.int .u64 (qa.num : Int))).set_ 6 (.string (txt qa.text))).set_ 7 (.slice A8 qf.len c8)
      simp only [layS] at hx
      exact HE9.out.set (grown_six18 w9 (w.heap.size + 2) 2 _ _ _ _ _ _) (by simp [World.setCell]) hx HE9.out.2.2.2.1 HROW.out HE9.out.2.2.2.2.2.1)
     clear HE9 HROW
     go_wp2_with fail
     go_meet
     exact ⟨(qa, qf), _, s, HA, hHd V9.out, HSS⟩
 case rest =>
 obtain ⟨x, pv, s, HA, HEP, HSS⟩ := hcut
 have HKD : Hid (dat18 2 k = d) := hHd (by rw [HK.out]; simp [dat18])
 clear HS0 HK HPE
 obtain ⟨w7, hw7⟩ : ∃ x, x = wc := ⟨_, rfl⟩
 subst hw7
 clear TNO3 TYE3
 go_upto_region 7 with (fail)
 go_cut [32] (fun b wx => b = .bool hob ∧ w7 = wx)
 case first =>
  have q0 := (HEP.out.2.1.cell 0).trans rfl
  go_wp2_with fail
  refine (HHO _).out.mono ?_
  rintro e w9 ⟨rfl, rfl⟩
  go_wp2_with fail
  go_meet
  exact ⟨rfl, rfl⟩
 case rest =>
 obtain ⟨rfl, rfl⟩ := hcut
 go_upto_if 32 with (fail)
 go_cut [] (fun wx => ∃ (y : Nd) (ov : Value) (z : Fo), Hid (AtO18 t k z x y) ∧ Hid (Eo18 w (h : Int) (.slice A1 L.length c1) L x.1 x.2 pv y.1 y.2 ov z wx) ∧ Hid (z.sz ≤ 1000000))
 case first =>
  cases hob with
  | false =>
   have HO : Hid (AtO18 t k s x noN) := hHd (atO_no18 HA.out (by have h9 := HNB.out.2; have := HH.out; simp at h9; omega))
   go_wp2_with fail
   go_meet
   exact ⟨noN, _, s, HO, HEP, HSS⟩
  | true =>
   have HN1 : Hid (¬ t / 2 = 1) := hHd (by have h9 := HNB.out.2; have := HH.out; simp at h9; omega)
   obtain ⟨B2, c2, rfl⟩ := (show RowS (New18 w w7) w7 pv x.2 from HEP.out.2.2.2.2.1).shape
   have HSR : Hid (s.sz ≤ 1000000) := hHd HSS.out
   have HAP := hHd HA.out
   clear HA HSS
   cases h3x : hasX18 5 s with
   | false =>
    have HX : Hid (exO18 t k = false) := hHd (by exact exS_no18 HAP.out HN1.out (nodeL_no18 h3x))
    have HT := TNO5 w7 s HEP.out.2.2.1 HSR.out h3x
    clear h3x
    go_wp2_with fail
    refine HT.out.mono ?_
    rintro e w8 ⟨rfl, hb⟩
    have HBB := hHd (HEP.out.2.2.2.2.2.2.1.trans (hb.mono HEP.out.2.2.2.2.2.2.1.size))
    clear hb
    go_wp2
    exact ⟨rfl, .inr ⟨HX.out, rfl, HBB.out⟩⟩
   | true =>
    obtain ⟨vd, q, z, hrr⟩ := has_cons18 h3x
    have HRR := hHd hrr
    have HT : Hid (Calls Tryz.prog 89 #[.pointer (some ⟨w.heap.size + 3, 0, none⟩), .int .u64 5] w7 (TakP18 (Lo w) (w.heap.size + 3) 5 vd q z w7)) := TYE5 w7 vd q z (by rw [← hrr]; exact HEP.out.2.2.1) (by rw [← hrr]; exact HSR.out)
    have HSS : Hid (z.sz ≤ 1000000) := hHd (by have := HSR.out; rw [hrr] at this; simp only [Fo.sz] at this; omega)
    have HSQ : Hid (q.sz ≤ 1000000) := hHd (by have := HSR.out; rw [hrr] at this; simp only [Fo.sz] at this; omega)
    clear h3x hrr
    go_wp2_with fail
    refine HT.out.mono ?_
    rintro e w8 ⟨eA, ec, fA, fc, rfl, -, hk8, hr8, hg8⟩
    have HE8 := hHd (HEP.out.tak hr8 hg8)
    have hno := nodeof_any18 q 5 eA vd.length ec fA fc w8 (hk8.kept stays_I (fun _ _ => rfl) (fun g hg => Nat.lt_of_lt_of_le hg HE8.out.2.2.2.2.2.2.1.size)) HSQ.out
    clear hk8 hr8 hg8 HT
    cases hq : ex18 q 0 with
    | false =>
     have HX : Hid (exO18 t k = false) := hHd (by have h8 := HAP.out; rw [HRR.out] at h8; exact exS_no18 h8 HN1.out (nodeL_bad18 hq))
     have HNO := hHd (hno.mono fun _ _ h => nodP_no18 hq h)
     clear hq hno
     go_wp2_with fail
     refine HNO.out.mono ?_
     rintro e w9 ⟨rfl, hb⟩
     have HBB := hHd (HE8.out.2.2.2.2.2.2.1.trans (hb.mono HE8.out.2.2.2.2.2.2.1.size))
     clear hb
     go_wp2
     exact ⟨rfl, .inr ⟨HX.out, rfl, HBB.out⟩⟩
    | true =>
     obtain ⟨⟨qa, qf⟩, hqq⟩ : ∃ y, y = (kid18 V18 q, red18 V18 q) := ⟨_, rfl⟩
     have HQQ := hHd hqq
     have HNO : Hid (Calls Tryz.prog 90 #[.agg #[.int .u64 5, .slice eA vd.length ec, .slice fA q.len fc]] w8 (PTreP1 0 (qa, qf) w8)) := hHd (hno.mono fun _ _ h => by rw [hqq]; exact nodP_yes18 hq h)
     have HA : Hid (AtO18 t k z x (qa, qf)) := hHd (by have h8 := HAP.out; rw [HRR.out] at h8; rw [HQQ.out]; exact atO_yes18 h8 HN1.out hq)
     clear hq hno hqq
     go_wp2_with fail
     refine HNO.out.mono ?_
     intro e w9 hp
     obtain ⟨A8, c8, rfl, hl8, hb9⟩ := hp.flat
     have HE9 := hHd (HE8.out.go hb9)
     have HROW : Hid (RowS (New18 w w9) w9 (.slice A8 qf.len c8) qf) := hHd (row_new18 (W0 := w8) hl8 HE8.out.2.2.2.2.2.2.2)
     clear hp hl8 hb9 HE8 HNO
     have fz0 := HE9.out.2.1.frozen 8
     have fz1 := HE9.out.2.1.frozen 9
     have fz2 := HE9.out.2.1.frozen 10
     have fz3 := HE9.out.2.1.frozen 11
     have fz4 := HE9.out.2.1.frozen 12
     have fz5 := HE9.out.2.1.frozen 13
     have fq0 := (HE9.out.2.1.cell 8).trans rfl
     have fq1 := (HE9.out.2.1.cell 9).trans rfl
     have fq2 := (HE9.out.2.1.cell 10).trans rfl
     have fq3 := (HE9.out.2.1.cell 11).trans rfl
     have fq4 := (HE9.out.2.1.cell 12).trans rfl
     have fq5 := (HE9.out.2.1.cell 13).trans rfl
     have V9 : Veil18 (Eo18 w (h : Int) (.slice A1 L.length c1) L x.1 x.2 (.slice B2 x.2.len c2) qa qf (.slice A8 qf.len c8) z ((((((w9.setCell ⟨(w.heap.size + 1 + 1), 8, none⟩ (.string (txt qa.name))).setCell ⟨(w.heap.size + 1 + 1), 9, none⟩ (.string (txt qa.key))).setCell ⟨(w.heap.size + 1 + 1), 10, none⟩ (.int .i64 qa.kind)).setCell ⟨(w.heap.size + 1 + 1), 11, none⟩ (.int .u64 (qa.num : Int))).setCell ⟨(w.heap.size + 1 + 1), 12, none⟩ (.string (txt qa.text))).setCell ⟨(w.heap.size + 1 + 1), 13, none⟩ (.slice A8 qf.len c8))) := .mk (by
      have hx := (((((HE9.out.2.1.set_ 8 (.string (txt qa.name))).set_ 9 (.string (txt qa.key))).set_ 10 (.int .i64 qa.kind)).set_ 11 (.int .u64 (qa.num : Int))).set_ 12 (.string (txt qa.text))).set_ 13 (.slice A8 qf.len c8)
      simp only [layS] at hx
      exact HE9.out.set (grown_six18 w9 (w.heap.size + 2) 8 _ _ _ _ _ _) (by simp [World.setCell]) hx HE9.out.2.2.2.1 HE9.out.2.2.2.2.1 HROW.out)
     clear HE9 HROW
     go_wp2_with fail
     go_meet
     exact ⟨(qa, qf), _, z, HA, hHd V9.out, HSS⟩
 case rest =>
 obtain ⟨y, ov, z, HO, HEQ, HSZZ⟩ := hcut
 clear HA HEP HSS TNO5 TYE5 HHN HHO
 obtain ⟨w8, hw8⟩ : ∃ x, x = wc := ⟨_, rfl⟩
 subst hw8
 go_upto_region 9 with (fail)
 obtain ⟨b, hb⟩ : ∃ b, b = decide (z = .nil) := ⟨_, rfl⟩
 have HE := HEN w8 z HEQ.out.2.2.1 HSZZ.out
 rw [← hb] at HE
 have HX : Hid (exO18 t k = b) := hHd (by rw [HO.out.1, hb])
 have HBE := hHd hb
 clear hb
 cases b with
 | false =>
  go_wp2_with fail
  refine HE.out.mono ?_
  rintro e w9 ⟨h1, rfl⟩
  obtain rfl : e = .panicked inv18 := by simpa using h1
  go_wp2
  exact ⟨rfl, .inr ⟨HX.out, rfl, HEQ.out.2.2.2.2.2.2.1⟩⟩
 | true =>
  obtain ⟨xa, xf⟩ := x
  obtain ⟨ya, yf⟩ := y
  have HDV : Hid (devO18 t k = ⟨(h : Int), L, (xa, xf), (ya, yf)⟩) := hHd (by
   obtain ⟨g1, g2⟩ := HO.out.2 (by simpa using HBE.out.symm)
   unfold devO18
   rw [g1, g2, ← HH.out, HKD.out, ← HXX.out])
  obtain ⟨B2, c2, rfl⟩ := (show RowS (New18 w w8) w8 pv xf from HEQ.out.2.2.2.2.1).shape
  obtain ⟨B3, c3, rfl⟩ := (show RowS (New18 w w8) w8 ov yf from HEQ.out.2.2.2.2.2.1).shape
  clear HO HBE HEN
  go_wp2_with fail
  refine HE.out.mono ?_
  rintro e w9 ⟨h1, rfl⟩
  obtain rfl : e = .returned (.tuple #[]) := by simpa using h1
  clear h1
  have HBX : Hid (Blk w8 (w.heap.size + 1 + 1) 55 #[.int .i64 (h : Int), .slice A1 L.length c1, .string (txt xa.name), .string (txt xa.key), .int .i64 xa.kind, .int .u64 (xa.num : Int), .string (txt xa.text), .slice B2 xf.len c2, .string (txt ya.name), .string (txt ya.key), .int .i64 ya.kind, .int .u64 (ya.num : Int), .string (txt ya.text), .slice B3 yf.len c3]) := hHd HEQ.out.2.1
  have HBZ : Hid (Blk w8 (w.heap.size + 1) 55 #[.int .i64 0, .slice none 0 0, .string ⟨#[]⟩, .string ⟨#[]⟩, .int .i64 0, .int .u64 0, .string ⟨#[]⟩, .slice none 0 0, .string ⟨#[]⟩, .string ⟨#[]⟩, .int .i64 0, .int .u64 0, .string ⟨#[]⟩, .slice none 0 0]) := hHd HEQ.out.1
  have V9 : Veil18 (Blk (set14o w8 (w.heap.size + 1) (.int .i64 (h : Int)) (.slice A1 L.length c1) (.string (txt xa.name)) (.string (txt xa.key)) (.int .i64 xa.kind) (.int .u64 (xa.num : Int)) (.string (txt xa.text)) (.slice B2 xf.len c2) (.string (txt ya.name)) (.string (txt ya.key)) (.int .i64 ya.kind) (.int .u64 (ya.num : Int)) (.string (txt ya.text)) (.slice B3 yf.len c3)) (w.heap.size + 1) 55 #[.int .i64 (h : Int), .slice A1 L.length c1, .string (txt xa.name), .string (txt xa.key), .int .i64 xa.kind, .int .u64 (xa.num : Int), .string (txt xa.text), .slice B2 xf.len c2, .string (txt ya.name), .string (txt ya.key), .int .i64 ya.kind, .int .u64 (ya.num : Int), .string (txt ya.text), .slice B3 yf.len c3] ∧ EdOP18 t k w (.returned (.agg #[.int .i64 (h : Int), .slice A1 L.length c1, .string (txt xa.name), .string (txt xa.key), .int .i64 xa.kind, .int .u64 (xa.num : Int), .string (txt xa.text), .slice B2 xf.len c2, .string (txt ya.name), .string (txt ya.key), .int .i64 ya.kind, .int .u64 (ya.num : Int), .string (txt ya.text), .slice B3 yf.len c3])) (set14o w8 (w.heap.size + 1) (.int .i64 (h : Int)) (.slice A1 L.length c1) (.string (txt xa.name)) (.string (txt xa.key)) (.int .i64 xa.kind) (.int .u64 (xa.num : Int)) (.string (txt xa.text)) (.slice B2 xf.len c2) (.string (txt ya.name)) (.string (txt ya.key)) (.int .i64 ya.kind) (.int .u64 (ya.num : Int)) (.string (txt ya.text)) (.slice B3 yf.len c3))) := .mk ⟨HBZ.out.set14o _ _ _ _ _ _ _ _ _ _ _ _ _ _, .inl ⟨HX.out, by
   rw [HDV.out]
   have hk9 : ∀ g, New18 w w8 g → (set14o w8 (w.heap.size + 1) (.int .i64 (h : Int)) (.slice A1 L.length c1) (.string (txt xa.name)) (.string (txt xa.key)) (.int .i64 xa.kind) (.int .u64 (xa.num : Int)) (.string (txt xa.text)) (.slice B2 xf.len c2) (.string (txt ya.name)) (.string (txt ya.key)) (.int .i64 ya.kind) (.int .u64 (ya.num : Int)) (.string (txt ya.text)) (.slice B3 yf.len c3)).heap[g]? = w8.heap[g]? := fun g hg => set14o_other (by have := hg.1; omega)
   have hs9 : ∀ g, New18 w w8 g → (w.heap.size ≤ g ∧ g < (set14o w8 (w.heap.size + 1) (.int .i64 (h : Int)) (.slice A1 L.length c1) (.string (txt xa.name)) (.string (txt xa.key)) (.int .i64 xa.kind) (.int .u64 (xa.num : Int)) (.string (txt xa.text)) (.slice B2 xf.len c2) (.string (txt ya.name)) (.string (txt ya.key)) (.int .i64 ya.kind) (.int .u64 (ya.num : Int)) (.string (txt ya.text)) (.slice B3 yf.len c3)).heap.size) := fun g hg => ⟨by have := hg.1; omega, by rw [set14o_size]; exact hg.2⟩
   exact ⟨_, _, _, rfl, ⟨_, _, _, rfl, HEQ.out.2.2.2.1.keep hk9 hs9, RowS.keep HEQ.out.2.2.2.2.1 hk9 hs9, RowS.keep HEQ.out.2.2.2.2.2.1 hk9 hs9⟩, HEQ.out.2.2.2.2.2.2.1.trans (set14o_below (Nat.le_succ _))⟩⟩⟩
  have fz0 : w8.frozen? ⟨w.heap.size + 1, 0, none⟩ = false := HBZ.out.frozen 0
  have fq0 := (HBZ.out.cell 0).trans rfl
  have fz1 : w8.frozen? ⟨w.heap.size + 1, 1, none⟩ = false := HBZ.out.frozen 1
  have fq1 := (HBZ.out.cell 1).trans rfl
  have fz2 : w8.frozen? ⟨w.heap.size + 1, 2, none⟩ = false := HBZ.out.frozen 2
  have fq2 := (HBZ.out.cell 2).trans rfl
  have fz3 : w8.frozen? ⟨w.heap.size + 1, 3, none⟩ = false := HBZ.out.frozen 3
  have fq3 := (HBZ.out.cell 3).trans rfl
  have fz4 : w8.frozen? ⟨w.heap.size + 1, 4, none⟩ = false := HBZ.out.frozen 4
  have fq4 := (HBZ.out.cell 4).trans rfl
  have fz5 : w8.frozen? ⟨w.heap.size + 1, 5, none⟩ = false := HBZ.out.frozen 5
  have fq5 := (HBZ.out.cell 5).trans rfl
  have fz6 : w8.frozen? ⟨w.heap.size + 1, 6, none⟩ = false := HBZ.out.frozen 6
  have fq6 := (HBZ.out.cell 6).trans rfl
  have fz7 : w8.frozen? ⟨w.heap.size + 1, 7, none⟩ = false := HBZ.out.frozen 7
  have fq7 := (HBZ.out.cell 7).trans rfl
  have fz8 : w8.frozen? ⟨w.heap.size + 1, 8, none⟩ = false := HBZ.out.frozen 8
  have fq8 := (HBZ.out.cell 8).trans rfl
  have fz9 : w8.frozen? ⟨w.heap.size + 1, 9, none⟩ = false := HBZ.out.frozen 9
  have fq9 := (HBZ.out.cell 9).trans rfl
  have fz10 : w8.frozen? ⟨w.heap.size + 1, 10, none⟩ = false := HBZ.out.frozen 10
  have fq10 := (HBZ.out.cell 10).trans rfl
  have fz11 : w8.frozen? ⟨w.heap.size + 1, 11, none⟩ = false := HBZ.out.frozen 11
  have fq11 := (HBZ.out.cell 11).trans rfl
  have fz12 : w8.frozen? ⟨w.heap.size + 1, 12, none⟩ = false := HBZ.out.frozen 12
  have fq12 := (HBZ.out.cell 12).trans rfl
  have fz13 : w8.frozen? ⟨w.heap.size + 1, 13, none⟩ = false := HBZ.out.frozen 13
  have fq13 := (HBZ.out.cell 13).trans rfl
  clear HEQ HX HDV HE
  go_wp2_with (first | (refine wpList_load_row rfl 55 (.tmp 3) rfl (w.heap.size + 1 + 1) (by rfl) 55 _ (0, 0) _ HBX.out Tryz.underlying55 rfl (by kernel_rfl) ?_) | (refine wpList_load_row_on (by rfl) 55 (.tmp 3) rfl (w.heap.size + 1 + 1) (by rfl) 55 _ (0, 0) _ HBX.out Tryz.underlying55 rfl (by kernel_rfl) ?_))
  refine bodyPost_ret (results_cell_row rfl _ _ (w.heap.size + 1) 55 _ (0, 0) _ rfl V9.out.1 Tryz.underlying55 rfl (by kernel_rfl)) rfl ?_
  exact V9.out.2
end
end Go.Proofs.YtleidkpdpabkpaaGreatDoor
