/-
  The walk of the law VarintTakes: it answers true, for all bytes and steps, and writes nothing that was there. No condition.
-/
import Derived.Test.YtpgoikclhegglaaLaw02A
import Derived.Test.YtpgoikclhegglaaDrawn
import Derived.Deep.DrawnRows
import Derived.WalkLawsBesides
namespace Go.Proofs.Ytpgoikclhegglaa
open Go.RowKit
set_option linter.unusedSimpArgs false
attribute [local go_sem ↓] Go.wp_at_zero Go.wp_at_succ

/-- What Take answers, and what is left. -/
def tkV (s : List UInt8) (e : Int) : Int × Int × List UInt8 := (if e = 0 then ((getV s).1 : Int) else 0, if e = 0 then (getV s).2.2 else e, if e = 0 then s.drop (getV s).2.1 else s)
theorem tkV_len (s : List UInt8) (e : Int) : (tkV s e).2.2.length ≤ s.length := by
  unfold tkV
  by_cases h : e = 0
  · rw [if_pos h, if_pos h, if_pos h, List.length_drop]; omega
  · rw [if_neg h, if_neg h, if_neg h]; exact Nat.le_refl _
theorem take_tk (g d : Nat) (l : List UInt8) (e : Int) (X E : Int) (S : List UInt8) (ht : tkV l e = (X, E, S)) (w : World) (h : Win w g d l e) (hd : d ≠ g) (hdw : d < w.heap.size) :
    Calls Try.prog 14 #[.pointer (some ⟨g, 0, none⟩)] w fun r w' => r = .returned (.tuple #[.int .u64 X, .int .i64 E]) ∧ Win w' g d S e ∧ w.grownBy w' (some g) :=
  (take_any g d l e w h hd hdw).mono fun r w' hp => by
    obtain ⟨h1, h2, h3⟩ := hp
    injection ht with a b
    injection b with b c
    subst a b c
    exact ⟨h1, h2, h3⟩
theorem rtake_tk (g : Nat) (l : List UInt8) (e : Int) (X E : Int) (S : List UInt8) (ht : tkV l e = (X, E, S)) (w : World) (h : RW w g l e) (hs : l.length ≤ 100000) :
    Calls Try.prog 15 #[.pointer (some ⟨g, 0, none⟩)] w fun r w' => r = .returned (.tuple #[.int .u64 X, .int .i64 E]) ∧ RW w' g S e ∧ w.grownBy w' (some g) ∧ Sz w' w.heap.size :=
  (rtake_any g l e w h hs).mono fun r w' hp => by
    obtain ⟨h1, h2, h3, h4⟩ := hp
    injection ht with a b
    injection b with b c
    subst a b c
    exact ⟨h1, h2, h3, h4⟩

set_option maxRecDepth 100000 in
set_option maxHeartbeats 8000000 in
theorem varintTakes_walk (a0 : Option Addr) (len0 cap0 : Nat) (z0 : List Int) (a1 : Option Addr) (len1 cap1 : Nat) (z1 : List Int) (w : World) (w0 : IsRow .u8 w a0 len0 cap0 z0) (w1 : IsRow .u8 w a1 len1 cap1 z1) :
    Calls Try.prog 4 #[.slice a0 len0 cap0, .slice a1 len1 cap1] w fun e w' => e = .returned (.bool true) ∧ Below w.heap.size w w' := by
  by_cases hbig : 300 < len0 ∨ 60 < len1
  · by_cases h40 : 300 < len0
    · go_enter Try.func4, Try.ntmps4
      go_wp2_with fail
      refine (awake2_any _).mono ?_
      rintro r w1 ⟨rfl, hB1⟩
      go_wp2
      go_ret
      exact ⟨rfl, hB1⟩
    · have h41 : decide ((300 : Int) < (len0 : Int)) = false := by simp; omega
      have hzl : 60 < len1 := by omega
      go_enter Try.func4, Try.ntmps4
      go_wp2_with fail
      refine (awake2_any _).mono ?_
      rintro r w1 ⟨rfl, hB1⟩
      go_wp2
      go_ret
      exact ⟨rfl, hB1⟩
  · obtain ⟨d, l, rfl, hdw, hr0⟩ := w0.rd (by omega)
    obtain ⟨d1, zs, rfl, hz, hr1⟩ := w1.rdN (M := 256) (fun n h => by have := bounds_u8 h; omega)
    have h41 : decide ((300 : Int) < (l.length : Int)) = false := by simp; omega
    have h42 : decide ((60 : Int) < (zs.length : Int)) = false := by simp; omega
    have hL : l.length ≤ 300 := by omega
    have hN : zs.length ≤ 60 := by omega
    have HZ := Lib.hid hz
    clear hbig hz w0 w1
    go_enter Try.func4, Try.ntmps4
    go_wp2_with fail
    refine (awake2_any _).mono ?_
    rintro r wa ⟨rfl, hB1⟩
    have hr01 := hr0.below' hB1
    go_wp2_with fail
    refine (open_any _ _ _ _ hr01).mono ?_
    rintro r wb ⟨rfl, hW2, hA2, hs2⟩
    have hB2 := hB1.trans (hA2.mono hB1.size)
    have hr2 := hr01.below' hA2
    have z1 := hB1.size
    have Z2 : wa.heap.size + 2 ≤ wb.heap.size := Nat.le_of_eq hs2.symm
    have hst : (convert 23 9 (.slice a0 l.length cap0)).run Try.prog wb = .ok (.string (txt l)) wb := str_of hr2
    obtain ⟨wz, hwz⟩ : ∃ wz, wz = wb.alloc (.cells #[.string (txt l), .int .i64 0] 37) := ⟨_, rfl⟩
    have hV3 : RW wz wb.heap.size l 0 := by rw [hwz]; exact Blk.new _ _ _
    have hW3 : Win wz (wa.heap.size + 1) wa.heap.size l 0 := by rw [hwz]; exact hW2.alloc _
    have hB3 : Below w.heap.size w wz := by rw [hwz]; exact hB2.alloc hB2.size _
    have Z3 : wb.heap.size + 1 ≤ wz.heap.size := by rw [hwz]; simp
    have HWZ := Lib.hid hwz
    clear hr0 hr01 hr2 hW2 hA2 hs2 hB1 hB2 hwz
    go_wp2
    rw [← HWZ.out]
    clear hst
    go_loopw [8] (fun i wr => ∃ (j : Nat) (s : List UInt8) (e : Int), j ≤ zs.length ∧ i = .int .i64 j ∧ s.length ≤ 300 ∧ Win wr (wa.heap.size + 1) wa.heap.size s e ∧ RW wr wb.heap.size s e ∧ Below w.heap.size w wr ∧ wz.heap.size ≤ wr.heap.size) (fun i _ => zs.length - (intOf i).toNat)
    case atStart => exact ⟨0, l, 0, Nat.zero_le _, rfl, hL, hW3, hV3, hB3, Nat.le_refl _⟩
    case round =>
      obtain ⟨j, s, e, hj, rfl, hs300, hW, hV, hB, hZ⟩ := hrel
      by_cases hlt : j < zs.length
      · obtain ⟨A1, c1, he1, -, hA1⟩ := hr1
        injection he1 with e1 e2 e3
        subst e1 e3
        obtain ⟨hlt1, off1, rfl, hc1⟩ := hA1 (by omega)
        obtain ⟨z, hzj⟩ : ∃ z, zs[j]? = some z := ⟨_, List.getElem?_eq_getElem hlt⟩
        have hcz := hc1 j z hzj
        have hz256 : z < 256 := HZ.out z (List.mem_of_getElem? hzj)
        obtain ⟨q, hq⟩ : ∃ q, z % 4 = q := ⟨_, rfl⟩
        have hqI : (z : Int) % 4 = (q : Int) := by omega
        have hq3 : q < 4 := by omega
        obtain ⟨X, E, S, hT⟩ : ∃ X E S, tkV s e = (X, E, S) := ⟨_, _, _, rfl⟩
        have hSl : S.length ≤ 300 := by
          have h := tkV_len s e
          rw [hT] at h
          exact Nat.le_trans h hs300
        have HT := Lib.hid hT
        clear hA1 hc1 hzj hq hT e2
        go_wp2_with fail
        refine (take_tk _ _ _ _ _ _ _ HT.out _ hW (by omega) (by omega)).mono ?_
        rintro r w4 ⟨rfl, hW4, hg4⟩
        have hV4 := hV.grown hg4 (by omega)
        have z4 := hg4.size
        have hB4 := below_grown2 hB hg4 (by omega) (by omega)
        clear hW hV hB hg4
        go_wp2_with fail
        refine (rtake_tk _ _ _ _ _ _ HT.out _ hV4 (by omega)).mono ?_
        rintro r w5 ⟨rfl, hV5, hg5, hs5⟩
        have hW5 := hW4.grown hg5 (by omega) (by omega)
        have z5 := hg5.size
        have hB5 := below_grown2 hB4 hg5 (by omega) (by omega)
        have hsz := txt_size S
        clear hW4 hV4 hB4 hg5 hs5
        go_wp2_with fail
        obtain ⟨wd, hwd⟩ : ∃ wd, wd = w5.drew := ⟨_, rfl⟩
        have hWd : Win wd (wa.heap.size + 1) wa.heap.size S e := by rw [hwd]; exact hW5
        have hVd : RW wd wb.heap.size S e := by rw [hwd]; exact hV5
        have hBd : Below w.heap.size w wd := by rw [hwd]; exact hB5.drew
        have hzd : wz.heap.size ≤ wd.heap.size := by rw [hwd]; exact Nat.le_trans hZ (Nat.le_trans z4 z5)
        clear hW5 hV5 hB5 z4 z5 hZ
        subst hwd
        refine wp_region_noPanic ?_
        refine wp_region_held_drew (S := fun _ => True) (by kernel_rfl) trivial (fun hS => ?_)
        refine wpAnyH_take (i := 0) (oi := ?o1_0_1) (v := ?v1_0_1) ?i1_0_1 (by kernel_rfl) (by kernel_rfl) (by kernel_rfl) (fun _ _ _ h => h) (Or.inl ⟨?g1_0_1, ?y1_0_1⟩) hS ?_
        case i1_0_1 => simp only [List.getElem?_toArray, List.getElem?_cons_succ, List.getElem?_cons_zero]; rfl
        case g1_0_1 => rfl
        case y1_0_1 => (intro w hSw; (go_simp <;> with_reducible rfl))
        (try simp only [Act.put, List.setIfInBounds_toArray, List.set_cons_zero, List.set_cons_succ])
        refine wpAnyH_take (i := 1) (oi := ?o1_1_2) (v := ?v1_1_2) ?i1_1_2 (by kernel_rfl) (by kernel_rfl) (by kernel_rfl) (fun _ _ _ h => h) (Or.inl ⟨?g1_1_2, ?y1_1_2⟩) hS ?_
        case i1_1_2 => simp only [List.getElem?_toArray, List.getElem?_cons_succ, List.getElem?_cons_zero]; rfl
        case g1_1_2 => rfl
        case y1_1_2 => (intro w hSw; (go_simp <;> with_reducible rfl))
        (try simp only [Act.put, List.setIfInBounds_toArray, List.set_cons_zero, List.set_cons_succ])
        refine wpAnyH_take (i := 2) (oi := ?o1_2_3) (v := ?v1_2_3) ?i1_2_3 (by kernel_rfl) (by kernel_rfl) (by kernel_rfl) (fun _ _ _ h => h) (Or.inl ⟨?g1_2_3, ?y1_2_3⟩) hS ?_
        case i1_2_3 => simp only [List.getElem?_toArray, List.getElem?_cons_succ, List.getElem?_cons_zero]; rfl
        case g1_2_3 => rfl
        case y1_2_3 => (intro w hSw; (go_simp <;> with_reducible rfl))
        (try simp only [Act.put, List.setIfInBounds_toArray, List.set_cons_zero, List.set_cons_succ])
        refine wpAnyH_take (i := 3) (oi := ?o1_3_4) (v := ?v1_3_4) ?i1_3_4 (by kernel_rfl) (by kernel_rfl) (by kernel_rfl) (fun _ _ _ h => h) (Or.inl ⟨?g1_3_4, ?y1_3_4⟩) hS ?_
        case i1_3_4 => simp only [List.getElem?_toArray, List.getElem?_cons_succ, List.getElem?_cons_zero]; rfl
        case g1_3_4 => rfl
        case y1_3_4 => (intro w hSw; (go_simp <;> with_reducible rfl))
        (try simp only [Act.put, List.setIfInBounds_toArray, List.set_cons_zero, List.set_cons_succ])
        refine wpAnyH_take (i := 4) (oi := ?o1_4_5) (v := ?v1_4_5) ?i1_4_5 (by kernel_rfl) (by kernel_rfl) (by kernel_rfl) (fun _ _ _ h => h) (Or.inl ⟨?g1_4_5, ?y1_4_5⟩) hS ?_
        case i1_4_5 => simp only [List.getElem?_toArray, List.getElem?_cons_succ, List.getElem?_cons_zero]; rfl
        case g1_4_5 => rfl
        case y1_4_5 => (intro w hSw; (go_simp <;> with_reducible rfl))
        (try simp only [Act.put, List.setIfInBounds_toArray, List.set_cons_zero, List.set_cons_succ])
        refine wpAnyH_take (i := 5) (oi := ?o1_5_6) (v := ?v1_5_6) ?i1_5_6 (by kernel_rfl) (by kernel_rfl) (by kernel_rfl) (fun _ _ _ h => h) (Or.inl ⟨?g1_5_6, ?y1_5_6⟩) hS ?_
        case i1_5_6 => simp only [List.getElem?_toArray, List.getElem?_cons_succ, List.getElem?_cons_zero]; rfl
        case g1_5_6 => rfl
        case y1_5_6 => (intro w hSw; (go_simp <;> with_reducible rfl))
        (try simp only [Act.put, List.setIfInBounds_toArray, List.set_cons_zero, List.set_cons_succ])
        refine wpAnyH_take (i := 6) (oi := ?o1_6_7) (v := ?v1_6_7) ?i1_6_7 (by kernel_rfl) (by kernel_rfl) (by kernel_rfl) (fun _ _ _ h => h) (Or.inl ⟨?g1_6_7, ?y1_6_7⟩) hS ?_
        case i1_6_7 => simp only [List.getElem?_toArray, List.getElem?_cons_succ, List.getElem?_cons_zero]; rfl
        case g1_6_7 => rfl
        case y1_6_7 => (intro w hSw; (go_simp <;> with_reducible rfl))
        (try simp only [Act.put, List.setIfInBounds_toArray, List.set_cons_zero, List.set_cons_succ])
        refine wpAnyH_take (i := 7) (oi := ?o1_7_8) (v := ?v1_7_8) ?i1_7_8 (by kernel_rfl) (by kernel_rfl) (by kernel_rfl) (fun _ _ _ h => h) (Or.inl ⟨?g1_7_8, ?y1_7_8⟩) hS ?_
        case i1_7_8 => simp only [List.getElem?_toArray, List.getElem?_cons_succ, List.getElem?_cons_zero]; rfl
        case g1_7_8 => rfl
        case y1_7_8 => (intro w hSw; (go_simp <;> with_reducible rfl))
        (try simp only [Act.put, List.setIfInBounds_toArray, List.set_cons_zero, List.set_cons_succ])
        refine wpAnyH_take (i := 8) (oi := ?o1_8_9) (v := ?v1_8_9) ?i1_8_9 (by kernel_rfl) (by kernel_rfl) (by kernel_rfl) (fun _ _ _ h => h) (Or.inl ⟨?g1_8_9, ?y1_8_9⟩) hS ?_
        case i1_8_9 => simp only [List.getElem?_toArray, List.getElem?_cons_succ, List.getElem?_cons_zero]; rfl
        case g1_8_9 => rfl
        case y1_8_9 => (intro w hSw; (go_simp <;> with_reducible rfl))
        (try simp only [Act.put, List.setIfInBounds_toArray, List.set_cons_zero, List.set_cons_succ])
        refine wpAnyH_take (i := 9) (oi := ?o1_9_10) (v := ?v1_9_10) ?i1_9_10 (by kernel_rfl) (by kernel_rfl) (by kernel_rfl) (fun _ _ _ h => h) (Or.inl ⟨?g1_9_10, ?y1_9_10⟩) hS ?_
        case i1_9_10 => simp only [List.getElem?_toArray, List.getElem?_cons_succ, List.getElem?_cons_zero]; rfl
        case g1_9_10 => rfl
        case y1_9_10 => (intro w hSw; (go_simp <;> with_reducible rfl))
        (try simp only [Act.put, List.setIfInBounds_toArray, List.set_cons_zero, List.set_cons_succ])
        refine wpAnyH_take (i := 11) (oi := ?o1_11_11) (v := ?v1_11_11) ?i1_11_11 (by kernel_rfl) (by kernel_rfl) (by kernel_rfl) (fun _ _ _ h => h) (Or.inl ⟨?g1_11_11, ?y1_11_11⟩) hS ?_
        case i1_11_11 => simp only [List.getElem?_toArray, List.getElem?_cons_succ, List.getElem?_cons_zero]; rfl
        case g1_11_11 => rfl
        case y1_11_11 => (intro w hSw; (go_simp <;> with_reducible rfl))
        (try simp only [Act.put, List.setIfInBounds_toArray, List.set_cons_zero, List.set_cons_succ])
        refine wpAnyH_take (i := 12) (oi := ?o1_12_12) (v := ?v1_12_12) ?i1_12_12 (by kernel_rfl) (by kernel_rfl) (by kernel_rfl) (fun _ _ _ h => h) (Or.inl ⟨?g1_12_12, ?y1_12_12⟩) hS ?_
        case i1_12_12 => simp only [List.getElem?_toArray, List.getElem?_cons_succ, List.getElem?_cons_zero]; rfl
        case g1_12_12 => rfl
        case y1_12_12 => (intro w hSw; (go_simp <;> with_reducible rfl))
        (try simp only [Act.put, List.setIfInBounds_toArray, List.set_cons_zero, List.set_cons_succ])
        refine wpAnyH_take (i := 13) (oi := ?o1_13_13) (v := ?v1_13_13) ?i1_13_13 (by kernel_rfl) (by kernel_rfl) (by kernel_rfl) (fun _ _ _ h => h) (Or.inl ⟨?g1_13_13, ?y1_13_13⟩) hS ?_
        case i1_13_13 => simp only [List.getElem?_toArray, List.getElem?_cons_succ, List.getElem?_cons_zero]; rfl
        case g1_13_13 => rfl
        case y1_13_13 => (intro w hSw; (go_simp <;> with_reducible rfl))
        (try simp only [Act.put, List.setIfInBounds_toArray, List.set_cons_zero, List.set_cons_succ])
        refine held_more (S' := fun w' => RW w' wb.heap.size S e) (fun _ _ => trivial) _ _ _ _ ?_
        replace hS := hVd
        refine wpAnyH_take (i := 14) (oi := ?o1_14_14) (v := ?v1_14_14) ?i1_14_14 (by kernel_rfl) (by kernel_rfl) (by kernel_rfl) (fun _ _ _ h => h) (Or.inl ⟨?g1_14_14, ?y1_14_14⟩) hS ?_
        case i1_14_14 => simp only [List.getElem?_toArray, List.getElem?_cons_succ, List.getElem?_cons_zero]; rfl
        case g1_14_14 => rfl
        case y1_14_14 => (intro w hSw; have hc := hSw.cell0; (go_simp <;> with_reducible rfl))
        (try simp only [Act.put, List.setIfInBounds_toArray, List.set_cons_zero, List.set_cons_succ])
        refine wpAnyH_take (i := 15) (oi := ?o1_15_15) (v := ?v1_15_15) ?i1_15_15 (by kernel_rfl) (by kernel_rfl) (by kernel_rfl) (fun _ _ _ h => h) (Or.inl ⟨?g1_15_15, ?y1_15_15⟩) hS ?_
        case i1_15_15 => simp only [List.getElem?_toArray, List.getElem?_cons_succ, List.getElem?_cons_zero]; rfl
        case g1_15_15 => rfl
        case y1_15_15 => (intro w hSw; (go_simp <;> with_reducible rfl))
        (try simp only [Act.put, List.setIfInBounds_toArray, List.set_cons_zero, List.set_cons_succ])
        refine wpAnyH_ready (rs := [10]) (by kernel_rfl) (by simp) ?_
        refine (AllReadyH.cons (o := ?o1_16_10) ?i1_16_10 (fun K hK => ?st1_16_10) AllReadyH.nil)
        case i1_16_10 => simp only [List.getElem?_toArray, List.getElem?_cons_succ, List.getElem?_cons_zero]; rfl
        rw [if_pos (by rfl)]
        go_simp
        refine (left_any _ _ _ _ _ hWd).mono ?_
        rintro r w8 ⟨rfl, rfl⟩
        go_wp2_with fail
        refine hK.out _ _ ?s1_16_10 (fun hS => ?_)
        case s1_16_10 => (exact hS)
        clear hK K
        (try simp only [Act.put, List.setIfInBounds_toArray, List.set_cons_zero, List.set_cons_succ])
        refine wpAnyH_take (i := 16) (oi := ?o1_16_17) (v := ?v1_16_17) ?i1_16_17 (by kernel_rfl) (by kernel_rfl) (by kernel_rfl) (fun _ _ _ h => h) (Or.inl ⟨?g1_16_17, ?y1_16_17⟩) hS ?_
        case i1_16_17 => simp only [List.getElem?_toArray, List.getElem?_cons_succ, List.getElem?_cons_zero]; rfl
        case g1_16_17 => rfl
        case y1_16_17 => (intro w hSw; (go_simp <;> with_reducible rfl))
        (try simp only [Act.put, List.setIfInBounds_toArray, List.set_cons_zero, List.set_cons_succ])
        refine wpAnyH_take (i := 17) (oi := ?o1_17_18) (v := ?v1_17_18) ?i1_17_18 (by kernel_rfl) (by kernel_rfl) (by kernel_rfl) (fun _ _ _ h => h) (Or.inl ⟨?g1_17_18, ?y1_17_18⟩) hS ?_
        case i1_17_18 => simp only [List.getElem?_toArray, List.getElem?_cons_succ, List.getElem?_cons_zero]; rfl
        case g1_17_18 => rfl
        case y1_17_18 => (intro w hSw; (go_simp <;> with_reducible rfl))
        (try simp only [Act.put, List.setIfInBounds_toArray, List.set_cons_zero, List.set_cons_succ])
        refine wpAnyH_take (i := 18) (oi := ?o1_18_19) (v := ?v1_18_19) ?i1_18_19 (by kernel_rfl) (by kernel_rfl) (by kernel_rfl) (fun _ _ _ h => h) (Or.inl ⟨?g1_18_19, ?y1_18_19⟩) hS ?_
        case i1_18_19 => simp only [List.getElem?_toArray, List.getElem?_cons_succ, List.getElem?_cons_zero]; rfl
        case g1_18_19 => rfl
        case y1_18_19 => (intro w hSw; (go_simp <;> with_reducible rfl))
        (try simp only [Act.put, List.setIfInBounds_toArray, List.set_cons_zero, List.set_cons_succ])
        refine wpAnyH_take (i := 19) (oi := ?o1_19_20) (v := ?v1_19_20) ?i1_19_20 (by kernel_rfl) (by kernel_rfl) (by kernel_rfl) (fun _ _ _ h => h) (Or.inl ⟨?g1_19_20, ?y1_19_20⟩) hS ?_
        case i1_19_20 => simp only [List.getElem?_toArray, List.getElem?_cons_succ, List.getElem?_cons_zero]; rfl
        case g1_19_20 => rfl
        case y1_19_20 => (intro w hSw; (go_simp <;> with_reducible rfl))
        (try simp only [Act.put, List.setIfInBounds_toArray, List.set_cons_zero, List.set_cons_succ])
        refine wpAnyH_take (i := 21) (oi := ?o1_21_21) (v := ?v1_21_21) ?i1_21_21 (by kernel_rfl) (by kernel_rfl) (by kernel_rfl) (fun _ _ _ h => h) (Or.inl ⟨?g1_21_21, ?y1_21_21⟩) hS ?_
        case i1_21_21 => simp only [List.getElem?_toArray, List.getElem?_cons_succ, List.getElem?_cons_zero]; rfl
        case g1_21_21 => rfl
        case y1_21_21 => (intro w hSw; (go_simp <;> with_reducible rfl))
        (try simp only [Act.put, List.setIfInBounds_toArray, List.set_cons_zero, List.set_cons_succ])
        refine wpAnyH_take (i := 22) (oi := ?o1_22_22) (v := ?v1_22_22) ?i1_22_22 (by kernel_rfl) (by kernel_rfl) (by kernel_rfl) (fun _ _ _ h => h) (Or.inl ⟨?g1_22_22, ?y1_22_22⟩) hS ?_
        case i1_22_22 => simp only [List.getElem?_toArray, List.getElem?_cons_succ, List.getElem?_cons_zero]; rfl
        case g1_22_22 => rfl
        case y1_22_22 => (intro w hSw; (go_simp <;> with_reducible rfl))
        (try simp only [Act.put, List.setIfInBounds_toArray, List.set_cons_zero, List.set_cons_succ])
        refine wpAnyH_take (i := 23) (oi := ?o1_23_23) (v := ?v1_23_23) ?i1_23_23 (by kernel_rfl) (by kernel_rfl) (by kernel_rfl) (fun _ _ _ h => h) (Or.inl ⟨?g1_23_23, ?y1_23_23⟩) hS ?_
        case i1_23_23 => simp only [List.getElem?_toArray, List.getElem?_cons_succ, List.getElem?_cons_zero]; rfl
        case g1_23_23 => rfl
        case y1_23_23 => (intro w hSw; (go_simp <;> with_reducible rfl))
        (try simp only [Act.put, List.setIfInBounds_toArray, List.set_cons_zero, List.set_cons_succ])
        refine wpAnyH_take (i := 24) (oi := ?o1_24_24) (v := ?v1_24_24) ?i1_24_24 (by kernel_rfl) (by kernel_rfl) (by kernel_rfl) (fun _ _ _ h => h) (Or.inl ⟨?g1_24_24, ?y1_24_24⟩) hS ?_
        case i1_24_24 => simp only [List.getElem?_toArray, List.getElem?_cons_succ, List.getElem?_cons_zero]; rfl
        case g1_24_24 => rfl
        case y1_24_24 => (intro w hSw; have hc := hSw.cell1; (go_simp <;> with_reducible rfl))
        (try simp only [Act.put, List.setIfInBounds_toArray, List.set_cons_zero, List.set_cons_succ])
        refine wpAnyH_ready (rs := [20]) (by kernel_rfl) (by simp) ?_
        refine (AllReadyH.cons (o := ?o1_25_20) ?i1_25_20 (fun K hK => ?st1_25_20) AllReadyH.nil)
        case i1_25_20 => simp only [List.getElem?_toArray, List.getElem?_cons_succ, List.getElem?_cons_zero]; rfl
        rw [if_pos (by rfl)]
        go_simp
        refine (err_any _ _ _ _ _ hWd).mono ?_
        rintro r w8 ⟨rfl, rfl⟩
        go_wp2_with fail
        refine hK.out _ _ ?s1_25_20 (fun hS => ?_)
        case s1_25_20 => (exact hS)
        clear hK K
        (try simp only [Act.put, List.setIfInBounds_toArray, List.set_cons_zero, List.set_cons_succ])
        refine wpAnyH_take (i := 25) (oi := ?o1_25_26) (v := ?v1_25_26) ?i1_25_26 (by kernel_rfl) (by kernel_rfl) (by kernel_rfl) (fun _ _ _ h => h) (Or.inl ⟨?g1_25_26, ?y1_25_26⟩) hS ?_
        case i1_25_26 => simp only [List.getElem?_toArray, List.getElem?_cons_succ, List.getElem?_cons_zero]; rfl
        case g1_25_26 => rfl
        case y1_25_26 => (intro w hSw; (go_simp <;> with_reducible rfl))
        (try simp only [Act.put, List.setIfInBounds_toArray, List.set_cons_zero, List.set_cons_succ])
        refine wpAnyH_take (i := 26) (oi := ?o1_26_27) (v := ?v1_26_27) ?i1_26_27 (by kernel_rfl) (by kernel_rfl) (by kernel_rfl) (fun _ _ _ h => h) (Or.inl ⟨?g1_26_27, ?y1_26_27⟩) hS ?_
        case i1_26_27 => simp only [List.getElem?_toArray, List.getElem?_cons_succ, List.getElem?_cons_zero]; rfl
        case g1_26_27 => rfl
        case y1_26_27 => (intro w hSw; (go_simp <;> with_reducible rfl))
        (try simp only [Act.put, List.setIfInBounds_toArray, List.set_cons_zero, List.set_cons_succ])
        refine wpAnyH_done (by kernel_rfl) ?_ _
        refine NoPanic.normal ?_
        have hcz' : w5.drew.cell? ⟨d1, off1 + j, none⟩ = some (.int .u8 (z : Int)) := (hBd.cell (p := ⟨d1, off1 + j, none⟩) hlt1).trans hcz
        have i1 : (0 : Int) ≤ (j : Int) := by omega
        have i2 : (j : Int) < (zs.length : Int) := by omega
        clear hcz hS
        obtain ⟨L, M, F, hN3⟩ : ∃ L M F, nx S e (q : Int) = (L, M, F) := ⟨_, _, _, rfl⟩
        have hMl : M.length ≤ 300 := by
          have h := congrArg (fun t => t.2.1.length) hN3
          dsimp only at h
          rw [← h]
          unfold nx
          split
          · exact hSl
          · split
            · exact hSl
            · split
              · exact hSl
              · simp only [List.length_drop]; omega
        have HNX := Lib.hid hN3
        clear hN3
        go_wp2_with fail
        obtain ⟨we, hwe⟩ : ∃ we, we = w5.drew.drew := ⟨_, rfl⟩
        have hWe : Win we (wa.heap.size + 1) wa.heap.size S e := by rw [hwe]; exact hWd
        have hVe : RW we wb.heap.size S e := by rw [hwe]; exact hVd
        have hBe : Below w.heap.size w we := by rw [hwe]; exact hBd.drew
        have hze : wz.heap.size ≤ we.heap.size := by rw [hwe]; exact hzd
        clear hWd hVd hBd hzd hcz'
        subst hwe
        refine wp_region_noPanic ?_
        refine wp_region_held_drew (S := fun _ => True) (by kernel_rfl) trivial (fun hS => ?_)
        refine wpAnyH_take (i := 0) (oi := ?o2_0_1) (v := ?v2_0_1) ?i2_0_1 (by kernel_rfl) (by kernel_rfl) (by kernel_rfl) (fun _ _ _ h => h) (Or.inl ⟨?g2_0_1, ?y2_0_1⟩) hS ?_
        case i2_0_1 => simp only [List.getElem?_toArray, List.getElem?_cons_succ, List.getElem?_cons_zero]; rfl
        case g2_0_1 => rfl
        case y2_0_1 => (intro w hSw; (go_simp <;> with_reducible rfl))
        (try simp only [Act.put, List.setIfInBounds_toArray, List.set_cons_zero, List.set_cons_succ])
        refine wpAnyH_take (i := 1) (oi := ?o2_1_2) (v := ?v2_1_2) ?i2_1_2 (by kernel_rfl) (by kernel_rfl) (by kernel_rfl) (fun _ _ _ h => h) (Or.inl ⟨?g2_1_2, ?y2_1_2⟩) hS ?_
        case i2_1_2 => simp only [List.getElem?_toArray, List.getElem?_cons_succ, List.getElem?_cons_zero]; rfl
        case g2_1_2 => rfl
        case y2_1_2 => (intro w hSw; (go_simp <;> with_reducible rfl))
        (try simp only [Act.put, List.setIfInBounds_toArray, List.set_cons_zero, List.set_cons_succ])
        refine wpAnyH_take (i := 4) (oi := ?o2_4_3) (v := ?v2_4_3) ?i2_4_3 (by kernel_rfl) (by kernel_rfl) (by kernel_rfl) (fun _ _ _ h => h) (Or.inl ⟨?g2_4_3, ?y2_4_3⟩) hS ?_
        case i2_4_3 => simp only [List.getElem?_toArray, List.getElem?_cons_succ, List.getElem?_cons_zero]; rfl
        case g2_4_3 => rfl
        case y2_4_3 => (intro w hSw; (go_simp <;> with_reducible rfl))
        (try simp only [Act.put, List.setIfInBounds_toArray, List.set_cons_zero, List.set_cons_succ])
        refine wpAnyH_take (i := 5) (oi := ?o2_5_4) (v := ?v2_5_4) ?i2_5_4 (by kernel_rfl) (by kernel_rfl) (by kernel_rfl) (fun _ _ _ h => h) (Or.inl ⟨?g2_5_4, ?y2_5_4⟩) hS ?_
        case i2_5_4 => simp only [List.getElem?_toArray, List.getElem?_cons_succ, List.getElem?_cons_zero]; rfl
        case g2_5_4 => rfl
        case y2_5_4 => (intro w hSw; (go_simp <;> with_reducible rfl))
        (try simp only [Act.put, List.setIfInBounds_toArray, List.set_cons_zero, List.set_cons_succ])
        refine wpAnyH_ready (rs := [2]) (by kernel_rfl) (by simp) ?_
        refine (AllReadyH.cons (o := ?o2_5_2) ?i2_5_2 (fun K hK => ?st2_5_2) AllReadyH.nil)
        case i2_5_2 => simp only [List.getElem?_toArray, List.getElem?_cons_succ, List.getElem?_cons_zero]; rfl
        rw [if_pos (by rfl)]
        go_simp
        refine (bytes_any _ _ _ _ (q : Int) _ hWe (by omega)).mono ?_
        rintro r w4 ⟨v4, rfl, hr4, hW4, hg4, hs4⟩
        rw [HNX.out] at hr4 hW4
        have hV4 := hVe.grown hg4 (by omega)
        have z4 := hg4.size
        have hB4 := below_grown2 hBe hg4 (by omega) (by omega)
        clear hg4 hs4 hWe hVe hBe
        go_wp2_with fail
        refine hK.out _ _ ?s2_5_2 (fun hS => ?_)
        case s2_5_2 => (exact hS)
        clear hK K
        (try simp only [Act.put, List.setIfInBounds_toArray, List.set_cons_zero, List.set_cons_succ])
        refine held_more (S' := fun w' => Rd w' w5.drew.drew.heap.size v4 L) (fun _ _ => trivial) _ _ _ _ ?_
        replace hS := hr4
        refine wpAnyH_take (i := 3) (oi := ?o2_3_6) (v := ?v2_3_6) ?i2_3_6 (by kernel_rfl) (by kernel_rfl) (by kernel_rfl) (fun _ _ _ h => h) (Or.inl ⟨?g2_3_6, ?y2_3_6⟩) hS ?_
        case i2_3_6 => simp only [List.getElem?_toArray, List.getElem?_cons_succ, List.getElem?_cons_zero]; rfl
        case g2_3_6 => rfl
        case y2_3_6 => (intro w hSw; have hc : (convert 23 9 v4).run Try.prog w = .ok (.string (txt L)) w := str_of hSw; (go_simp <;> with_reducible rfl))
        (try simp only [Act.put, List.setIfInBounds_toArray, List.set_cons_zero, List.set_cons_succ])
        refine wpAnyH_ready (rs := [6]) (by kernel_rfl) (by simp) ?_
        refine (AllReadyH.cons (o := ?o2_7_6) ?i2_7_6 (fun K hK => ?st2_7_6) AllReadyH.nil)
        case i2_7_6 => simp only [List.getElem?_toArray, List.getElem?_cons_succ, List.getElem?_cons_zero]; rfl
        rw [if_pos (by rfl)]
        go_simp
        refine (rbytes_any _ _ _ (q : Int) _ hV4).mono ?_
        rintro r w6 ⟨rfl, hV6, hg6, hs6⟩
        rw [HNX.out] at hV6 ⊢
        have hW6 := hW4.grown hg6 (by omega) (by omega)
        have hr6 := hr4.grown hg6 (by omega)
        have z6 := hg6.size
        have hB6 := below_grown2 hB4 hg6 (by omega) (by omega)
        clear hg6 hs6 hW4 hV4 hB4 hr4
        go_wp2_with fail
        refine hK.out _ _ ?s2_7_6 (fun hS => ?_)
        case s2_7_6 => (exact hr6)
        clear hK K
        (try simp only [Act.put, List.setIfInBounds_toArray, List.set_cons_zero, List.set_cons_succ])
        refine wpAnyH_take (i := 7) (oi := ?o2_7_8) (v := ?v2_7_8) ?i2_7_8 (by kernel_rfl) (by kernel_rfl) (by kernel_rfl) (fun _ _ _ h => h) (Or.inl ⟨?g2_7_8, ?y2_7_8⟩) hS ?_
        case i2_7_8 => simp only [List.getElem?_toArray, List.getElem?_cons_succ, List.getElem?_cons_zero]; rfl
        case g2_7_8 => rfl
        case y2_7_8 => (intro w hSw; (go_simp <;> with_reducible rfl))
        (try simp only [Act.put, List.setIfInBounds_toArray, List.set_cons_zero, List.set_cons_succ])
        refine wpAnyH_done (by kernel_rfl) ?_ _
        refine NoPanic.normal ?_
        have zz : wz.heap.size ≤ w6.heap.size := by omega
        clear hS hr6
        go_wp2
        go_roundw
        case rel => exact ⟨j + 1, M, F, by omega, by go_num, hMl, hW6, hV6, hB6, zz⟩
        case measure => simp [intOf]; omega
      · go_wp2_with fail
        refine (take_nil _).mono ?_
        rintro r w4 ⟨rfl, rfl⟩
        go_wp2
        go_ret
        exact ⟨rfl, hB⟩

end Go.Proofs.Ytpgoikclhegglaa
