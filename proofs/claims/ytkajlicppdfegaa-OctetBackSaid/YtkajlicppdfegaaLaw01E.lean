/-
  The walk of the law OctetBack: it answers true, for all numbers and sizes, and writes nothing that was there. No condition.
-/
import Derived.Test.YtkajlicppdfegaaLaw01D
import Derived.Test.YtkajlicppdfegaaLaw01B
import Derived.Test.YtkajlicppdfegaaDrawn
import Derived.Deep.DrawnRows
import Derived.WalkLawsBesides
namespace Go.Proofs.Ytkajlicppdfegaa
open Go.RowKit
set_option linter.unusedSimpArgs false
attribute [local go_sem ↓] Go.wp_at_zero Go.wp_at_succ

theorem big_as (x n : Nat) (nI : Int) (w : World) (h : n ≤ 8) (e : nI = (n : Int)) : Calls Try.prog 20 #[.int .u64 (x : Int), .int .i64 nI] w (BigAny x n w) := by
  subst e
  exact big_any x n w h

theorem wrap_small (n : Int) (h0 : 0 ≤ n) (h1 : n ≤ 100) : IntKind.i64.wrap n = n := by rw [IntKind.wrap_i64]; omega
theorem arg_wrap (z : Nat) : IntKind.i64.wrap (IntKind.i64.wrap ((z : Int).tmod 8) + 1) = ((z % 8 + 1 : Nat) : Int) := by
  have ht : (z : Int).tmod 8 = ((z % 8 : Nat) : Int) := Int.tmod_eq_emod_of_nonneg (by omega)
  have hz : z % 8 < 8 := Nat.mod_lt _ (by decide)
  rw [ht]
  generalize z % 8 = q at hz
  rw [wrap_small (q : Int) (by omega) (by omega), wrap_small ((q : Int) + 1) (by omega) (by omega)]
  rfl

theorem power_at (n P : Nat) (nI : Int) (w : World) (h : n ≤ 7) (hP : P = 256 ^ n) (e : nI = (n : Int)) : Calls Try.prog 21 #[.int .i64 nI] w fun r w' => r = .returned (.int .u64 (P : Int)) ∧ w = w' := by
  subst e
  exact power_as n P w h hP

theorem RdN.cell {k : IntKind} {w : World} {d : Nat} {v : Value} {xs : List Nat} (h : RdN k w d v xs) {j : Nat} (hj : j < xs.length) :
    ∃ off c x, v = .slice (some ⟨d, off, none⟩) xs.length c ∧ xs[j]? = some x ∧ d < w.heap.size ∧ w.cell? ⟨d, off + j, none⟩ = some (.int k (x : Int)) := by
  obtain ⟨A, c, rfl, _, h2⟩ := h
  obtain ⟨hlt, off, rfl, hc⟩ := h2 (by omega)
  exact ⟨off, c, xs[j], rfl, List.getElem?_eq_getElem hj, hlt, hc j _ (List.getElem?_eq_getElem hj)⟩

set_option maxHeartbeats 8000000 in
theorem octetBack_walk (a0 : Option Addr) (len0 cap0 : Nat) (z0 : List Int) (a1 : Option Addr) (len1 cap1 : Nat) (z1 : List Int) (w : World) (w0 : IsRow .u64 w a0 len0 cap0 z0) (w1 : IsRow .u8 w a1 len1 cap1 z1) :
    Calls Try.prog 4 #[.slice a0 len0 cap0, .slice a1 len1 cap1] w fun e w' => e = .returned (.bool true) ∧ Below w.heap.size w w' := by
  obtain ⟨d0, xs, rfl, hx, hr0⟩ := w0.rdN (M := 18446744073709551616) (fun n h => by have := bounds_u64 h; omega)
  obtain ⟨d1, zs, rfl, hz, hr1⟩ := w1.rdN (M := 256) (fun n h => by have := bounds_u8 h; omega)
  clear w0 w1
  by_cases hbig : 40 < xs.length ∨ zs.length < xs.length
  · by_cases h40 : 40 < xs.length
    · go_enter Try.func4, Try.ntmps4
      go_wp2_with fail
      refine (awake_any _).mono ?_
      rintro r w1 ⟨rfl, hB1⟩
      go_wp2
      go_ret
      exact ⟨rfl, hB1⟩
    · have h41 : decide ((40 : Int) < (xs.length : Int)) = false := by simp; omega
      have hzl : zs.length < xs.length := by omega
      go_enter Try.func4, Try.ntmps4
      go_wp2_with fail
      refine (awake_any _).mono ?_
      rintro r w1 ⟨rfl, hB1⟩
      go_wp2
      go_ret
      exact ⟨rfl, hB1⟩
  · have h41 : decide ((40 : Int) < (xs.length : Int)) = false := by simp; omega
    have hN : xs.length ≤ 40 := by omega
    have hzl : xs.length ≤ zs.length := by omega
    have h42 : decide (zs.length < xs.length) = false := by simp; omega
    clear hbig
    go_enter Try.func4, Try.ntmps4
    go_wp2_with fail
    refine (awake_any _).mono ?_
    rintro r w1 ⟨rfl, hB1⟩
    have hr0' := hr0.below hB1
    have hr1' := hr1.below hB1
    clear hr0 hr1
    go_wp2
    go_loopw [6, 7] (fun v i wr => ∃ j : Nat, j ≤ xs.length ∧ i = .int .i64 j ∧ Own wr w1.heap.size v (rst xs zs 0 j) ∧ Below w1.heap.size w1 wr) (fun _ i _ => xs.length - (intOf i).toNat)
    case atStart => exact ⟨0, Nat.zero_le _, rfl, Own.nil _ _, Below.refl _ _⟩
    case round =>
      obtain ⟨j, hj, rfl, hown, hb⟩ := hrel
      by_cases hlt : j < xs.length
      · have hra := hr0'
        have hrb := hr1'
        obtain ⟨A0, c0, he0, -, hA0⟩ := hra
        obtain ⟨A1, c1, he1, -, hA1⟩ := hrb
        injection he0 with e1 e2 e3
        injection he1 with e4 e5 e6
        subst e1 e3 e4 e6
        obtain ⟨hlt0, off0, rfl, hc0⟩ := hA0 (by omega)
        obtain ⟨hlt1, off1, rfl, hc1⟩ := hA1 (by omega)
        obtain ⟨x, hxj⟩ : ∃ x, xs[j]? = some x := ⟨_, List.getElem?_eq_getElem hlt⟩
        obtain ⟨z, hzj⟩ : ∃ z, zs[j]? = some z := ⟨_, List.getElem?_eq_getElem (by omega)⟩
        have hcx : w1.cell? ⟨d0, off0 + j, none⟩ = some (.int .u64 (x : Int)) := hc0 j x hxj
        have hcz : w1.cell? ⟨d1, off1 + j, none⟩ = some (.int .u8 (z : Int)) := hc1 j z hzj
        have hz256 : z < 256 := hz z (List.mem_of_getElem? hzj)
        have hxg : xs.getD j 0 = x := by simp [List.getD, hxj]
        have hzg : zs.getD j 0 = z := by simp [List.getD, hzj]
        have hseg : bigB x (z % 8 + 1) = seg xs zs j := by unfold seg; rw [hxg, hzg]
        have HSEG := Lib.hid hseg
        have HARG := Lib.hid (arg_wrap z)
        have i1 : (0 : Int) ≤ (j : Int) := by omega
        have i2 : (j : Int) < (xs.length : Int) := by omega
        have i3 : (j : Int) < (zs.length : Int) := by omega
        clear hA0 hA1 hc0 hc1 hxj hzj hxg hzg hseg e2 e5
        go_wp2_with fail
        obtain ⟨wd, hwd⟩ : ∃ wd, wd = wr.drew := ⟨_, rfl⟩
        have hSd : wd.cell? ⟨d0, off0 + j, none⟩ = some (.int .u64 (x : Int)) ∧ wd.cell? ⟨d1, off1 + j, none⟩ = some (.int .u8 (z : Int)) := by
          rw [hwd]
          exact ⟨(hb.cell (p := ⟨d0, off0 + j, none⟩) hlt0).trans hcx, (hb.cell (p := ⟨d1, off1 + j, none⟩) hlt1).trans hcz⟩
        have hownd : Own wd w1.heap.size u6 (rst xs zs 0 j) := by rw [hwd]; exact hown
        have hbd : Below w1.heap.size w1 wd := by rw [hwd]; exact hb.drew
        clear hown hb
        subst hwd
        refine wp_region_noPanic ?_
        refine wp_region_held_drew (S := fun _ => True) (by kernel_rfl) trivial (fun hS => ?_)
        refine wpAnyH_take (i := 0) (oi := ?o1_0) (v := ?v1_0) ?i1_0 (by kernel_rfl) (by kernel_rfl) (by kernel_rfl) (fun _ _ _ h => h) (Or.inl ⟨?g1_0, ?y1_0⟩) hS ?_
        case i1_0 => simp only [List.getElem?_toArray, List.getElem?_cons_succ, List.getElem?_cons_zero]; rfl
        case g1_0 => rfl
        case y1_0 => (intro w hSw; (go_simp <;> with_reducible rfl))
        (try simp only [Act.put, List.setIfInBounds_toArray, List.set_cons_zero, List.set_cons_succ])
        refine wpAnyH_take (i := 1) (oi := ?o1_1) (v := ?v1_1) ?i1_1 (by kernel_rfl) (by kernel_rfl) (by kernel_rfl) (fun _ _ _ h => h) (Or.inl ⟨?g1_1, ?y1_1⟩) hS ?_
        case i1_1 => simp only [List.getElem?_toArray, List.getElem?_cons_succ, List.getElem?_cons_zero]; rfl
        case g1_1 => rfl
        case y1_1 => (intro w hSw; (go_simp <;> with_reducible rfl))
        (try simp only [Act.put, List.setIfInBounds_toArray, List.set_cons_zero, List.set_cons_succ])
        refine wpAnyH_take (i := 2) (oi := ?o1_2) (v := ?v1_2) ?i1_2 (by kernel_rfl) (by kernel_rfl) (by kernel_rfl) (fun _ _ _ h => h) (Or.inl ⟨?g1_2, ?y1_2⟩) hS ?_
        case i1_2 => simp only [List.getElem?_toArray, List.getElem?_cons_succ, List.getElem?_cons_zero]; rfl
        case g1_2 => rfl
        case y1_2 => (intro w hSw; (go_simp <;> with_reducible rfl))
        (try simp only [Act.put, List.setIfInBounds_toArray, List.set_cons_zero, List.set_cons_succ])
        refine wpAnyH_take (i := 3) (oi := ?o1_3) (v := ?v1_3) ?i1_3 (by kernel_rfl) (by kernel_rfl) (by kernel_rfl) (fun _ _ _ h => h) (Or.inl ⟨?g1_3, ?y1_3⟩) hS ?_
        case i1_3 => simp only [List.getElem?_toArray, List.getElem?_cons_succ, List.getElem?_cons_zero]; rfl
        case g1_3 => rfl
        case y1_3 => (intro w hSw; (go_simp <;> with_reducible rfl))
        (try simp only [Act.put, List.setIfInBounds_toArray, List.set_cons_zero, List.set_cons_succ])
        refine held_more (S' := fun w' => w'.cell? ⟨d0, off0 + j, none⟩ = some (.int .u64 (x : Int)) ∧ w'.cell? ⟨d1, off1 + j, none⟩ = some (.int .u8 (z : Int))) (fun _ _ => trivial) _ _ _ _ ?_
        replace hS := hSd
        refine wpAnyH_take (i := 4) (oi := ?o1_4) (v := ?v1_4) ?i1_4 (by kernel_rfl) (by kernel_rfl) (by kernel_rfl) (fun _ _ _ h => h) (Or.inl ⟨?g1_4, ?y1_4⟩) hS ?_
        case i1_4 => simp only [List.getElem?_toArray, List.getElem?_cons_succ, List.getElem?_cons_zero]; rfl
        case g1_4 => rfl
        case y1_4 => (intro w hSw; have hc := hSw.1; (go_simp <;> with_reducible rfl))
        (try simp only [Act.put, List.setIfInBounds_toArray, List.set_cons_zero, List.set_cons_succ])
        refine wpAnyH_take (i := 5) (oi := ?o1_5) (v := ?v1_5) ?i1_5 (by kernel_rfl) (by kernel_rfl) (by kernel_rfl) (fun _ _ _ h => h) (Or.inl ⟨?g1_5, ?y1_5⟩) hS ?_
        case i1_5 => simp only [List.getElem?_toArray, List.getElem?_cons_succ, List.getElem?_cons_zero]; rfl
        case g1_5 => rfl
        case y1_5 => (intro w hSw; (go_simp <;> with_reducible rfl))
        (try simp only [Act.put, List.setIfInBounds_toArray, List.set_cons_zero, List.set_cons_succ])
        refine wpAnyH_take (i := 6) (oi := ?o1_6) (v := ?v1_6) ?i1_6 (by kernel_rfl) (by kernel_rfl) (by kernel_rfl) (fun _ _ _ h => h) (Or.inl ⟨?g1_6, ?y1_6⟩) hS ?_
        case i1_6 => simp only [List.getElem?_toArray, List.getElem?_cons_succ, List.getElem?_cons_zero]; rfl
        case g1_6 => rfl
        case y1_6 => (intro w hSw; (go_simp <;> with_reducible rfl))
        (try simp only [Act.put, List.setIfInBounds_toArray, List.set_cons_zero, List.set_cons_succ])
        refine wpAnyH_take (i := 7) (oi := ?o1_7) (v := ?v1_7) ?i1_7 (by kernel_rfl) (by kernel_rfl) (by kernel_rfl) (fun _ _ _ h => h) (Or.inl ⟨?g1_7, ?y1_7⟩) hS ?_
        case i1_7 => simp only [List.getElem?_toArray, List.getElem?_cons_succ, List.getElem?_cons_zero]; rfl
        case g1_7 => rfl
        case y1_7 => (intro w hSw; (go_simp <;> with_reducible rfl))
        (try simp only [Act.put, List.setIfInBounds_toArray, List.set_cons_zero, List.set_cons_succ])
        refine wpAnyH_take (i := 8) (oi := ?o1_8) (v := ?v1_8) ?i1_8 (by kernel_rfl) (by kernel_rfl) (by kernel_rfl) (fun _ _ _ h => h) (Or.inl ⟨?g1_8, ?y1_8⟩) hS ?_
        case i1_8 => simp only [List.getElem?_toArray, List.getElem?_cons_succ, List.getElem?_cons_zero]; rfl
        case g1_8 => rfl
        case y1_8 => (intro w hSw; have hc := hSw.2; (go_simp <;> with_reducible rfl))
        (try simp only [Act.put, List.setIfInBounds_toArray, List.set_cons_zero, List.set_cons_succ])
        refine wpAnyH_take (i := 9) (oi := ?o1_9) (v := ?v1_9) ?i1_9 (by kernel_rfl) (by kernel_rfl) (by kernel_rfl) (fun _ _ _ h => h) (Or.inl ⟨?g1_9, ?y1_9⟩) hS ?_
        case i1_9 => simp only [List.getElem?_toArray, List.getElem?_cons_succ, List.getElem?_cons_zero]; rfl
        case g1_9 => rfl
        case y1_9 => (intro w hSw; (go_simp <;> with_reducible rfl))
        (try simp only [Act.put, List.setIfInBounds_toArray, List.set_cons_zero, List.set_cons_succ])
        refine wpAnyH_take (i := 10) (oi := ?o1_10) (v := ?v1_10) ?i1_10 (by kernel_rfl) (by kernel_rfl) (by kernel_rfl) (fun _ _ _ h => h) (Or.inl ⟨?g1_10, ?y1_10⟩) hS ?_
        case i1_10 => simp only [List.getElem?_toArray, List.getElem?_cons_succ, List.getElem?_cons_zero]; rfl
        case g1_10 => rfl
        case y1_10 => (intro w hSw; (go_simp <;> with_reducible rfl))
        (try simp only [Act.put, List.setIfInBounds_toArray, List.set_cons_zero, List.set_cons_succ])
        refine wpAnyH_take (i := 11) (oi := ?o1_11) (v := ?v1_11) ?i1_11 (by kernel_rfl) (by kernel_rfl) (by kernel_rfl) (fun _ _ _ h => h) (Or.inl ⟨?g1_11, ?y1_11⟩) hS ?_
        case i1_11 => simp only [List.getElem?_toArray, List.getElem?_cons_succ, List.getElem?_cons_zero]; rfl
        case g1_11 => rfl
        case y1_11 => (intro w hSw; (go_simp <;> with_reducible rfl))
        (try simp only [Act.put, List.setIfInBounds_toArray, List.set_cons_zero, List.set_cons_succ])
        refine wpAnyH_ready (rs := [12]) (by kernel_rfl) (by simp) ?_
        refine AllReadyH.cons (o := ?o1_12) ?i1_12 (fun K hK => ?_) AllReadyH.nil
        case i1_12 => simp only [List.getElem?_toArray, List.getElem?_cons_succ, List.getElem?_cons_zero]; rfl
        rw [if_pos (by rfl)]
        go_simp
        refine (big_as x (z % 8 + 1) _ _ (by omega) HARG.out).mono ?_
        rintro r w12 ⟨v12, rfl, hr12, hb12, -⟩
        rw [HSEG.out] at hr12
        have hown12 : Own w12 w1.heap.size u6 (rst xs zs 0 j) := hownd.below hb12
        have hbw12 : Below w1.heap.size w1 w12 := hbd.trans (hb12.mono hbd.size)
        go_wp2_with fail
        refine hK.out _ _ ?s1_12 (fun hS => ?_)
        case s1_12 => (exact ⟨(hb12.cell (p := ⟨d0, off0 + j, none⟩) (Nat.lt_of_lt_of_le hlt0 hbd.size)).trans hS.1, (hb12.cell (p := ⟨d1, off1 + j, none⟩) (Nat.lt_of_lt_of_le hlt1 hbd.size)).trans hS.2⟩)
        clear hK K
        (try simp only [Act.put, List.setIfInBounds_toArray, List.set_cons_zero, List.set_cons_succ])
        clear hb12 hownd hbd
        refine wpAnyH_ready (rs := [13]) (by kernel_rfl) (by simp) ?_
        refine AllReadyH.cons (o := ?o1_13) ?i1_13 (fun K hK => ?_) AllReadyH.nil
        case i1_13 => simp only [List.getElem?_toArray, List.getElem?_cons_succ, List.getElem?_cons_zero]; rfl
        rw [if_pos (by rfl)]
        refine wp_append_rd (.tmp 34) (.tmp 46) (by rfl) (by rfl) w1.heap.size _ (rst xs zs 0 j) (by rfl) hown12 _ _ (seg xs zs j) (by rfl) hr12 ?_ hbw12.size ?_
        · have h1 := (rst_length xs zs 0 j).2; rw [seg_length]; omega
        intro v13 w13 hap
        have hb13 := hap.below hown12 hbw12.size
        refine hK.out _ _ ?s1_13 (fun hS => ?_)
        case s1_13 => (exact ⟨(hb13.cell (p := ⟨d0, off0 + j, none⟩) hlt0).trans hS.1, (hb13.cell (p := ⟨d1, off1 + j, none⟩) hlt1).trans hS.2⟩)
        clear hK K
        (try simp only [Act.put, List.setIfInBounds_toArray, List.set_cons_zero, List.set_cons_succ])
        refine wpAnyH_take (i := 14) (oi := ?o1_14) (v := ?v1_14) ?i1_14 (by kernel_rfl) (by kernel_rfl) (by kernel_rfl) (fun _ _ _ h => h) (Or.inl ⟨?g1_14, ?y1_14⟩) hS ?_
        case i1_14 => simp only [List.getElem?_toArray, List.getElem?_cons_succ, List.getElem?_cons_zero]; rfl
        case g1_14 => rfl
        case y1_14 => (intro w hSw; (go_simp <;> with_reducible rfl))
        (try simp only [Act.put, List.setIfInBounds_toArray, List.set_cons_zero, List.set_cons_succ])
        refine wpAnyH_done (by kernel_rfl) ?_ _
        refine NoPanic.normal ?_
        have hown13 : Own w13 w1.heap.size v13 (rst xs zs 0 (j + 1)) := by rw [rst_snoc]; exact hap.1
        have hbw13 := hbw12.trans hb13
        clear hap hb13 hbw12 hown12 hS
        go_wp2
        go_roundw
        case rel => exact ⟨j + 1, by omega, by go_num, hown13, hbw13⟩
        case measure => simp [intOf]; omega
      · obtain rfl : j = xs.length := by omega
        have hb1 : (rst xs zs 0 xs.length).length ≤ 320 := by have := (rst_length xs zs 0 xs.length).2; omega
        obtain ⟨dB, hdB, hrB⟩ := hown.rd' (by omega)
        have hB2 : Below w.heap.size w wr := hB1.trans (hb.mono hB1.size)
        have ZB2 := hB2.size
        have hr02 := hr0'.below hb
        have hr12 := hr1'.below hb
        obtain ⟨AB, cB, rfl⟩ := hrB.shape
        have HD0 : Hid (0 < xs.length → d0 < wr.heap.size ∧ d1 < wr.heap.size) := fun hp => ⟨(hr02.cell hp).choose_spec.choose_spec.choose_spec.2.2.1, (hr12.cell (show 0 < zs.length by omega)).choose_spec.choose_spec.choose_spec.2.2.1⟩
        clear hown hb hr0' hr1' hB1
        go_wp2_with fail
        refine (open_any _ _ _ _ hrB).mono ?_
        rintro r w2 ⟨rfl, hW2, hA2, hs2⟩
        have hB3 := hB2.trans (hA2.mono hB2.size)
        have hr03 := hr02.below hA2
        have hr13 := hr12.below hA2
        have hrB3 := hrB.below' hA2
        have Z2 : wr.heap.size + 2 ≤ w2.heap.size := Nat.le_of_eq hs2.symm
        clear hA2 hs2 hrB hr02 hr12 hB2
        obtain ⟨wo, rfl⟩ : ∃ wo : World, wo = wr := ⟨_, rfl⟩
        go_wp2
        go_loopw [9] (fun i wq => ∃ j : Nat, j ≤ xs.length ∧ i = .int .i64 j ∧ Win wq (wo.heap.size + 1) wo.heap.size (rst xs zs j (xs.length - j)) 0 ∧ w2.grownBy wq (some (wo.heap.size + 1)) ∧ Sz wq w2.heap.size) (fun i _ => xs.length - (intOf i).toNat)
        case atStart => exact ⟨0, Nat.zero_le _, rfl, hW2, World.grownBy.refl w2 _, rfl⟩
        case round =>
          obtain ⟨j, hj2, rfl, hW, hg, hs⟩ := hrel
          by_cases hlt : j < xs.length
          · obtain ⟨off0, c0, x, he0, hxj, hlt0, hcx⟩ := hr03.cell hlt
            obtain ⟨off1, c1, z, he1, hzj, hlt1, hcz⟩ := hr13.cell (show j < zs.length by omega)
            injection he0 with e1 e2 e3
            injection he1 with e4 e5 e6
            subst e1 e3 e4 e6
            have hdd : d0 < wo.heap.size ∧ d1 < wo.heap.size := (show 0 < xs.length → d0 < wo.heap.size ∧ d1 < wo.heap.size from HD0) (by omega)
            have hcx' : wr.cell? ⟨d0, off0 + j, none⟩ = some (.int .u64 (x : Int)) := hg.cell hcx (by intro e; injection e with e; simp at e; omega)
            have hcz' : wr.cell? ⟨d1, off1 + j, none⟩ = some (.int .u8 (z : Int)) := hg.cell hcz (by intro e; injection e with e; simp at e; omega)
            have hx64 : x < 18446744073709551616 := hx x (List.mem_of_getElem? hxj)
            have hz256 : z < 256 := hz z (List.mem_of_getElem? hzj)
            have hxg : xs.getD j 0 = x := by simp [List.getD, hxj]
            have hzg : zs.getD j 0 = z := by simp [List.getD, hzj]
            obtain ⟨q, hq⟩ : ∃ q, z % 8 = q := ⟨_, rfl⟩
            have hqI : (z : Int) % 8 = (q : Int) := by omega
            have hq7 : q ≤ 7 := by omega
            have hro := read_one xs zs j (xs.length - (j + 1)) ((q : Int) + 1) (by rw [hzg]; omega)
            rw [hxg, hzg, hq] at hro
            have hnj : xs.length - (j + 1) + 1 = xs.length - j := by omega
            rw [hnj] at hro
            have HRO := Lib.hid hro
            have HX0 : Hid (x = x % 256 ^ (7 + 1)) := Lib.hid (by rw [Nat.mod_eq_of_lt hx64])
            clear hcx hcz hxg hzg hro hnj hxj hzj e2 e5 hx64 hq
            go_wp2
            clear hqI
            go_loop [11, 12] (fun u i => ∃ e Y : Nat, q + 1 ≤ e + 1 ∧ e ≤ 7 ∧ i = .int .i64 (e : Int) ∧ u = .int .u64 (Y : Int) ∧ Hid (Y = x % 256 ^ (e + 1))) (fun _ i => (intOf i).toNat)
            case atStart => exact ⟨7, x, by omega, by omega, rfl, rfl, HX0⟩
            case round =>
              obtain ⟨e, Y, hqe, he7, rfl, rfl, HY⟩ := hrel
              by_cases hge : q + 1 ≤ e
              · obtain ⟨e', rfl⟩ : ∃ e', e = e' + 1 := ⟨e - 1, by omega⟩
                obtain ⟨P, hP⟩ : ∃ P, P = 256 ^ (e' + 1) := ⟨_, rfl⟩
                have hP0 : 0 < P := by rw [hP]; exact Nat.pow_pos (by decide)
                have HP := Lib.hid hP
                clear hP
                go_wp2_with fail
                refine (power_at (e' + 1) P _ _ (by omega) HP.out (by omega)).mono ?_
                rintro r w' ⟨rfl, rfl⟩
                go_wp2
                go_round
                case rel => exact ⟨e', Y % P, by omega, by omega, by go_num, by go_num, Lib.hid (by rw [HY.out, HP.out, mod_pow])⟩
                case measure => simp [intOf]
              · obtain rfl : e = q := by omega
                go_wp2_with fail
                refine (num_any _ _ _ _ ((e : Int) + 1) _ hW (by omega)).mono ?_
                rintro r w9 ⟨rfl, hW9, hg9, hs9⟩
                rw [HRO.out] at hW9 ⊢
                rw [← HY.out]
                have hgq := hg.trans hg9
                have hsq : Sz w9 w2.heap.size := hs9.trans hs
                clear hg hs hg9 hs9 hW hcx' hcz'
                go_wp2
                go_roundw
                case rel => exact ⟨j + 1, by omega, by go_num, hW9, hgq, hsq⟩
                case measure => simp [intOf]; omega
          · obtain rfl : j = xs.length := by omega
            rw [Nat.sub_self, rst_zero] at hW
            go_wp2_with fail
            refine (end_any _ _ _ _ _ hW).mono ?_
            rintro r w9 ⟨rfl, rfl⟩
            rw [show endOf [] 0 = 0 from by decide]
            have hB4 : Below w.heap.size w wr := below_grown hB3 hg (by omega) (by omega)
            by_cases h0 : xs.length = 0
            · go_wp2_with fail
              refine (end_any _ _ _ _ _ hW).mono ?_
              rintro r w9 ⟨rfl, rfl⟩
              rw [show endOf [] 0 = 0 from by decide]
              go_wp2
              go_ret
              exact ⟨rfl, hB4⟩
            · have hlen1 := (rst_length xs zs 0 xs.length).1
              have hne : ((xs.length : Int) == 0) = false := beq_eq_false_iff_ne.2 (by omega)
              have hrB4 := hrB3.grown hg (by omega)
              have hdd := (show 0 < xs.length → d0 < wo.heap.size ∧ d1 < wo.heap.size from HD0) (by omega)
              have hr14 := hr13.grown hg (fun _ => by omega)
              obtain ⟨vs, hsl, hrs⟩ := slice_to hrB4 ((rst xs zs 0 xs.length).length - 1) (((rst xs zs 0 xs.length).length : Int) - 1) (by omega) (by omega)
              have hst0 : (rst xs zs 0 xs.length).take ((rst xs zs 0 xs.length).length - 1) = (st2 xs zs xs.length 0).1 := by
                unfold st2
                rw [if_pos (by omega), Nat.sub_zero]
                rfl
              have hst1 : (st2 xs zs xs.length 0).2 = 0 := by
                unfold st2
                rw [if_pos (by omega)]
              rw [hst0] at hrs
              have HST := Lib.hid hst1
              clear hst0 hst1 hrB4 hrB3 hg hs hW
              go_wp2_with fail
              refine (open_any _ _ _ _ hrs).mono ?_
              rintro r w5 ⟨rfl, hV5, hA5, hs5⟩
              have hB5 := hB4.trans (hA5.mono hB4.size)
              have hr15 := hr14.below hA5
              have ZB4 := hB4.size
              have Z5 : wr.heap.size + 2 ≤ w5.heap.size := Nat.le_of_eq hs5.symm
              have hdr : d1 < wr.heap.size := (hr14.cell (show 0 < zs.length by omega)).choose_spec.choose_spec.choose_spec.2.2.1
              rw [← HST.out] at hV5
              obtain ⟨wp, rfl⟩ : ∃ wp : World, wp = wr := ⟨_, rfl⟩
              clear hA5 hs5 hB4 hr14 hrs hr13 hr03 hB3
              go_wp2
              go_loopw [14] (fun i wq => ∃ j : Nat, j ≤ xs.length ∧ i = .int .i64 j ∧ Win wq (wp.heap.size + 1) wp.heap.size (st2 xs zs xs.length j).1 (st2 xs zs xs.length j).2 ∧ w5.grownBy wq (some (wp.heap.size + 1)) ∧ Sz wq w5.heap.size) (fun i _ => xs.length - (intOf i).toNat)
              case atStart => exact ⟨0, Nat.zero_le _, rfl, hV5, World.grownBy.refl w5 _, rfl⟩
              case round =>
                obtain ⟨j, hj3, rfl, hV, hg, hs⟩ := hrel
                by_cases hlt : j < xs.length
                · obtain ⟨off1, c1, z, he1, hzj, hlt1, hcz⟩ := hr15.cell (show j < zs.length by omega)
                  injection he1 with e4 e5 e6
                  subst e4 e6
                  have hcz' : wr.cell? ⟨d1, off1 + j, none⟩ = some (.int .u8 (z : Int)) := hg.cell hcz (by intro e; injection e with e; simp at e; omega)
                  have hz256 : z < 256 := hz z (List.mem_of_getElem? hzj)
                  have hzg : zs.getD j 0 = z := by simp [List.getD, hzj]
                  obtain ⟨q, hq⟩ : ∃ q, z % 8 = q := ⟨_, rfl⟩
                  have hqI : (z : Int) % 8 = (q : Int) := by omega
                  have hq7 : q ≤ 7 := by omega
                  have hst := st2_step xs zs xs.length j hlt ((q : Int) + 1) (by rw [hzg]; omega)
                  have HSS := Lib.hid hst
                  clear hcz hzg hst hzj e5 hq
                  go_wp2_with fail
                  refine (num_any _ _ _ _ ((q : Int) + 1) _ hV (by omega)).mono ?_
                  rintro r w9 ⟨rfl, hV9, hg9, hs9⟩
                  have hV9' : Win w9 (wp.heap.size + 1) wp.heap.size (st2 xs zs xs.length (j + 1)).1 (st2 xs zs xs.length (j + 1)).2 := by rw [← HSS.out]; exact hV9
                  have hgq := hg.trans hg9
                  have hsq : Sz w9 w5.heap.size := hs9.trans hs
                  clear hg hs hg9 hs9 hV hcz' hV9
                  go_wp2
                  go_roundw
                  case rel => exact ⟨j + 1, by omega, by go_num, hV9', hgq, hsq⟩
                  case measure => simp [intOf]; omega
                · obtain rfl : j = xs.length := by omega
                  have hst : st2 xs zs xs.length xs.length = (less (rst xs zs (xs.length - 1) 1), 10) := by
                    unfold st2
                    rw [if_neg (by omega)]
                  rw [hst] at hV
                  have hB9 := below_grown hB5 hg (by omega) (by omega)
                  clear hst hB5 hg hs
                  go_wp2_with fail
                  refine (end_any _ _ _ _ _ hV).mono ?_
                  rintro r w10 ⟨rfl, rfl⟩
                  rw [show endOf (less (rst xs zs (xs.length - 1) 1)) 10 = 10 from by simp [endOf]]
                  go_wp2
                  go_ret
                  exact ⟨rfl, hB9⟩

end Go.Proofs.Ytkajlicppdfegaa
