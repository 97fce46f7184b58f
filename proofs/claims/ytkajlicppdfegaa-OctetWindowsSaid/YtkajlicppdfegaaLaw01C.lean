/-
  The walk of the law OctetWindows: it answers true, for all bytes, places and counts, and writes nothing that was there. No condition.
-/
import Derived.Test.YtkajlicppdfegaaOctI
import Derived.Test.YtkajlicppdfegaaLaw01A
import Derived.Test.YtkajlicppdfegaaDrawn
import Derived.Deep.RegionHeld3
import Derived.Deep.DrawnRows
import Derived.WalkLawsBesides
import Derived.Lib.MinMax
import Derived.Outline
namespace Go.Proofs.Ytkajlicppdfegaa
open Go.RowKit
set_option linter.unusedSimpArgs false
attribute [local go_sem ↓] Go.wp_at_zero Go.wp_at_succ

/-- What i reads of a byte leave of l, and the error. -/
def rdE (l : List UInt8) (i : Nat) : Int := if i ≤ l.length then 0 else 10
theorem rd_step (l : List UInt8) (i : Nat) : (nm (l.drop i) (rdE l i) 1).2 = (l.drop (i + 1), rdE l (i + 1)) := by
  unfold rdE
  by_cases h : i + 1 ≤ l.length
  · have h2 : i ≤ l.length := by omega
    rw [if_pos h2, if_pos h]
    have hx : nx (l.drop i) 0 1 = ((l.drop i).take 1, (l.drop i).drop 1, 0) := nx_ok (by decide) (by simp; omega)
    simp [nm, hx]
  · rw [if_neg h]
    have hd : l.drop (i + 1) = [] := List.drop_eq_nil_of_le (by omega)
    have hd' : l.drop i = [] := List.drop_eq_nil_of_le (by omega)
    rw [hd, hd']
    by_cases h2 : i ≤ l.length
    · rw [if_pos h2]; decide
    · rw [if_neg h2]; decide

/-- The slice v reads as the bytes X. -/
def IsX (w : World) (v : Value) (X : List UInt8) : Prop := ∃ d, Rd w d v X
theorem IsX.str {w : World} {X : List UInt8} : ∀ v, IsX w v X → (convert 22 9 v).run Try.prog w = .ok (.string ⟨X.toArray⟩) w := fun _ ⟨_, h⟩ => str_of h

set_option maxHeartbeats 2000000 in
theorem octetWindows_walk (a0 : Option Addr) (len0 cap0 : Nat) (z0 : List Int) (a1 : Int) (a2 : Int) (w : World) (w0 : IsRow .u8 w a0 len0 cap0 z0) (w1 : (Lit.int .u16 a1).wf = true) (w2 : (Lit.int .u8 a2).wf = true) :
    Calls Try.prog 6 #[.slice a0 len0 cap0, .int .u16 a1, .int .u8 a2] w fun e w' => e = .returned (.bool true) ∧ Below w.heap.size w w' := by
  obtain ⟨b0, b1⟩ := bounds_u16 w1
  obtain ⟨b2, b3⟩ := bounds_u8 w2
  obtain ⟨at_, rfl⟩ := Int.eq_ofNat_of_zero_le b0
  obtain ⟨R, rfl⟩ := Int.eq_ofNat_of_zero_le b2
  clear w1 w2
  by_cases hbig : 250 < len0
  · go_enter Try.func6, Try.ntmps6
    go_wp2_with fail
    refine (awake_any _).mono ?_
    rintro r w1 ⟨rfl, hB1⟩
    go_wp2
    go_ret
    exact ⟨rfl, hB1⟩
  · obtain ⟨d, l, rfl, hdw, hr0⟩ := w0.rd (by omega)
    obtain ⟨k, hk⟩ : ∃ k : Nat, (at_ : Int) % 256 % ((l.length : Int) + 1) = (k : Int) := ⟨((at_ : Int) % 256 % ((l.length : Int) + 1)).toNat, by
      have := Int.emod_nonneg ((at_ : Int) % 256) (b := (l.length : Int) + 1) (by omega)
      omega⟩
    have hkl : k ≤ l.length := by have : 0 < (l.length : Int) + 1 := by omega
                                  have := Int.emod_lt_of_pos ((at_ : Int) % 256) this; omega
    obtain ⟨m, hm⟩ : ∃ m : Nat, (at_ : Int) / 256 % ((l.length : Int) - (k : Int) + 1) = (m : Int) := ⟨((at_ : Int) / 256 % ((l.length : Int) - (k : Int) + 1)).toNat, by
      have := Int.emod_nonneg ((at_ : Int) / 256) (b := (l.length : Int) - (k : Int) + 1) (by omega)
      omega⟩
    have hml : k + m ≤ l.length := by have : 0 < (l.length : Int) - (k : Int) + 1 := by omega
                                      have := Int.emod_lt_of_pos ((at_ : Int) / 256) this; omega
    go_enter Try.func6, Try.ntmps6
    go_wp2_with fail
    refine (awake_any _).mono ?_
    rintro r w1 ⟨rfl, hB1⟩
    have hr1 := hr0.below' hB1
    have z1 := hB1.size
    go_wp2_with fail
    refine (open_any _ _ l _ hr1).mono ?_
    rintro r w2 ⟨rfl, hW2, hA2, hs2⟩
    have z2 : w1.heap.size + 2 = w2.heap.size := hs2.symm
    have hB2 := hB1.trans (hA2.mono z1)
    have hr2 := hr1.below' hA2
    have Z2 : w1.heap.size + 2 ≤ w2.heap.size := Nat.le_of_eq z2
    clear hA2 hs2 hr1 hB1 z2
    go_wp2_with fail
    refine (open_any _ _ l _ hr2).mono ?_
    rintro r w3 ⟨rfl, hU3, hA3, hs3⟩
    have Z3 : w2.heap.size + 2 ≤ w3.heap.size := Nat.le_of_eq hs3.symm
    have hB3 := hB2.trans (hA3.mono (by omega))
    have hr3 := hr2.below' hA3
    have hW3 := hW2.below hA3
    clear hA3 hs3 hr2 hB2 hW2
    go_wp2_with fail
    refine (bytes_any _ _ _ _ (k : Int) _ hW3 (by omega)).mono ?_
    rintro r w4 ⟨v4, rfl, -, hW4, hg4, hs4⟩
    rw [nx_ok (by omega) (by omega), Int.toNat_natCast] at hW4
    have Z4 : w3.heap.size + 1 ≤ w4.heap.size := Nat.le_of_eq hs4.symm
    have hB4 := below_grown hB3 hg4 (by omega) (by omega)
    have hr4 := hr3.grown hg4 (by omega)
    have hU4 := hU3.grown hg4 (by omega) (by omega)
    clear hs4 hg4 hr3 hB3 hU3 hW3
    go_wp2_with fail
    refine (bytes_any _ _ _ _ (k : Int) _ hU4 (by omega)).mono ?_
    rintro r w5 ⟨v5, rfl, -, hU5, hg5, hs5⟩
    rw [nx_ok (by omega) (by omega), Int.toNat_natCast] at hU5
    have Z5 : w4.heap.size + 1 ≤ w5.heap.size := Nat.le_of_eq hs5.symm
    have hB5 := below_grown hB4 hg5 (by omega) (by omega)
    have hr5 := hr4.grown hg5 (by omega)
    have hW5 := hW4.grown hg5 (by omega) (by omega)
    clear hs5 hg5 hr4 hB4 hU4 hW4
    have hdl : (l.drop k).length = l.length - k := by simp
    have HDL := Lib.hid hdl
    clear hdl
    go_wp2_with fail
    refine (sub_any _ _ _ _ (m : Int) _ hW5 (by omega)).mono ?_
    rintro r w6 ⟨rfl, hX6, hW6, hg6, hs6⟩
    rw [nx_ok (by omega) (by rw [HDL.out]; omega), Int.toNat_natCast] at hX6 hW6
    have Z6 : w5.heap.size + 2 ≤ w6.heap.size := Nat.le_of_eq hs6.symm
    have hB6 := below_grown hB5 hg6 (by omega) (by omega)
    have hr6 := hr5.grown hg6 (by omega)
    have hU6 := hU5.grown hg6 (by omega) (by omega)
    clear hs6 hg6 hr5 hB5 hU5 hW5
    go_wp2_with fail
    refine (sub_any _ _ _ _ (m : Int) _ hU6 (by omega)).mono ?_
    rintro r w7 ⟨rfl, hY7, -, hg7, hs7⟩
    rw [nx_ok (by omega) (by rw [HDL.out]; omega), Int.toNat_natCast] at hY7
    have Z7 : w6.heap.size + 2 ≤ w7.heap.size := Nat.le_of_eq hs7.symm
    have hB7 := below_grown hB6 hg7 (by omega) (by omega)
    have hr7 := hr6.grown hg7 (by omega)
    have hW7 := hW6.grown hg7 (by omega) (by omega)
    have hX7 := hX6.grown hg7 (by omega) (by omega)
    clear hs7 hg7 hr6 hB6 hU6 hW6 hX6
    simp only [List.drop_drop] at hW7
    obtain ⟨X, hX⟩ : ∃ X, X = (l.drop k).take m := ⟨_, rfl⟩
    obtain ⟨T, hT⟩ : ∃ T, T = l.drop (k + m) := ⟨_, rfl⟩
    have hXl : X.length = m := by rw [hX]; simp; omega
    have hTl : T.length = l.length - (k + m) := by rw [hT]; simp
    have hX7' : Win w7 (w5.heap.size + 1) w5.heap.size X 0 := by rw [hX]; exact hX7
    have hY7' : Win w7 (w6.heap.size + 1) w6.heap.size X 0 := by rw [hX]; exact hY7
    have hW7' : Win w7 (w1.heap.size + 1) w1.heap.size T 0 := by rw [hT]; exact hW7
    have HX := Lib.hid hX
    have HT := Lib.hid hT
    have HXL := Lib.hid hXl
    have HTL := Lib.hid hTl
    clear hX7 hY7 hW7 hX hT hXl hTl
    go_wp2
    go_loopw [14] (fun i wr => ∃ j : Nat, j ≤ R ∧ i = .int .i64 j ∧ Win wr (w5.heap.size + 1) w5.heap.size (X.drop j) (rdE X j) ∧ w7.grownBy wr (some (w5.heap.size + 1)) ∧ Sz wr w7.heap.size) (fun i _ => R - (intOf i).toNat)
    case atStart => exact ⟨0, Nat.zero_le _, rfl, hX7', World.grownBy.refl w7 _, rfl⟩
    case round =>
      obtain ⟨j, hj, rfl, hX, hg, hs⟩ := hrel
      by_cases hlt : j < R
      · go_wp2_with fail
        refine (byte_any _ _ _ _ _ hX (by omega)).mono ?_
        rintro r wq ⟨rfl, hXq, hgq, hsq⟩
        rw [rd_step] at hXq
        have hg2 := hg.trans hgq
        have hs2 : Sz wq w7.heap.size := hsq.trans hs
        clear hg hs hX hgq hsq
        go_wp2
        go_roundw
        case rel => exact ⟨j + 1, by omega, by go_num, hXq, hg2, hs2⟩
        case measure => simp [intOf]; omega
      · obtain rfl : j = R := by omega
        have Z8 : w7.heap.size ≤ wr.heap.size := Nat.le_of_eq hs.symm
        have hB8 := below_grown hB7 hg (by omega) (by omega)
        have hr8 := hr7.grown hg (by omega)
        have hW8 := hW7'.grown hg (by omega) (by omega)
        have hY8 := hY7'.grown hg (by omega) (by omega)
        obtain ⟨vs, hsl, hrs⟩ := slice_part hr8 k (k + m) ((k : Int) + (m : Int)) (by omega) (by omega) (by omega)
        have hxe : (l.take (k + m)).drop k = X := by rw [HX.out, List.drop_take]; congr 1; omega
        rw [hxe] at hrs
        have hst := str_of hrs
        have hny := nx_ok (l := X) (n := (m : Int)) (by omega) (by rw [HXL.out]; omega)
        rw [Int.toNat_natCast, List.take_of_length_le (by rw [HXL.out]; exact Nat.le_refl _), List.drop_eq_nil_of_le (by rw [HXL.out]; exact Nat.le_refl _)] at hny
        have HNY := Lib.hid hny
        clear hny hxe hg hs hB7 hr7 hr8 hW7' hY7' hX7' hlt
        have hw69 : IntKind.i64.wrap ((k : Int) + (m : Int)) = (k : Int) + (m : Int) := by rw [IntKind.wrap_i64]; omega
        go_wp2_with fail
        obtain ⟨wd, hwd⟩ : ∃ wd, wd = wr.drew := ⟨_, rfl⟩
        have hXd : Win wd (w5.heap.size + 1) w5.heap.size (X.drop j) (rdE X j) := by rw [hwd]; exact hX
        have hWd : Win wd (w1.heap.size + 1) w1.heap.size T 0 := by rw [hwd]; exact hW8
        have hYd : Win wd (w6.heap.size + 1) w6.heap.size X 0 := by rw [hwd]; exact hY8
        have hrd : Rd wd d vs X := by rw [hwd]; exact hrs
        have hBd : Below w.heap.size w wd := by rw [hwd]; exact hB8.drew
        have hzd : w7.heap.size ≤ wd.heap.size := by rw [hwd]; exact Z8
        clear hX hW8 hY8 hrs hB8 Z8 hst
        subst hwd
        have hIs : IsX wr.drew vs X := ⟨_, hrd⟩
        have hwj : IntKind.i64.wrap (j : Int) = (j : Int) := by rw [IntKind.wrap_i64]; omega
        have hwm : IntKind.i64.wrap ((m : Int) - (j : Int)) = (m : Int) - (j : Int) := by rw [IntKind.wrap_i64]; omega
        have hwl : IntKind.i64.wrap ((l.length : Int) - (k : Int)) = (l.length : Int) - (k : Int) := by rw [IntKind.wrap_i64]; omega
        have hwn : IntKind.i64.wrap ((l.length : Int) - (k : Int) - (m : Int)) = (l.length : Int) - (k : Int) - (m : Int) := by rw [IntKind.wrap_i64]; omega
        have hmx : (((X.length - j : Nat) : Int) != max ((m : Int) - (j : Int)) 0) = false := by
          rw [HXL.out]
          simp only [bne_eq_false_iff_eq]
          omega
        refine wp_region_noPanic ?_
        refine wp_region_held_drew (S := fun _ => True) (by kernel_rfl) trivial (fun hS => ?_)
        refine wpAnyH_take (i := 0) (oi := ?o1_0) (v := ?v1_0) ?i1_0 (by kernel_rfl) (by kernel_rfl) (by kernel_rfl) (fun _ _ _ h => h) (Or.inl ⟨?g1_0, ?y1_0⟩) hS ?_
        case i1_0 => simp only [List.getElem?_toArray, List.getElem?_cons_succ, List.getElem?_cons_zero]; rfl
        case g1_0 => rfl
        case y1_0 => (intro w hSw; (go_simp <;> with_reducible rfl))
        (try simp only [Act.put, List.setIfInBounds_toArray, List.set_cons_zero, List.set_cons_succ])
        refine wpAnyH_take (i := 1) (oi := ?o1_1) (v := ?v1_1) ?i1_1 (by kernel_rfl) (by kernel_rfl) (by kernel_rfl) (fun _ _ _ h => h) (Or.inl ⟨?g1_1, ?y1_1⟩) hS ?_
        case i1_1 => simp only [List.getElem?_toArray, List.getElem?_cons_succ, List.getElem?_cons_zero]; rfl
        case g1_1 => rfl
        case y1_1 => (intro w hSw; (go_simp <;> with_reducible rfl))
        (try simp only [Act.put, List.setIfInBounds_toArray, List.set_cons_zero, List.set_cons_succ])
        refine wpAnyH_take (i := 4) (oi := ?o1_4) (v := ?v1_4) ?i1_4 (by kernel_rfl) (by kernel_rfl) (by kernel_rfl) (fun _ _ _ h => h) (Or.inl ⟨?g1_4, ?y1_4⟩) hS ?_
        case i1_4 => simp only [List.getElem?_toArray, List.getElem?_cons_succ, List.getElem?_cons_zero]; rfl
        case g1_4 => rfl
        case y1_4 => (intro w hSw; (go_simp <;> with_reducible rfl))
        (try simp only [Act.put, List.setIfInBounds_toArray, List.set_cons_zero, List.set_cons_succ])
        refine wpAnyH_take (i := 5) (oi := ?o1_5) (v := ?v1_5) ?i1_5 (by kernel_rfl) (by kernel_rfl) (by kernel_rfl) (fun _ _ _ h => h) (Or.inl ⟨?g1_5, ?y1_5⟩) hS ?_
        case i1_5 => simp only [List.getElem?_toArray, List.getElem?_cons_succ, List.getElem?_cons_zero]; rfl
        case g1_5 => rfl
        case y1_5 => (intro w hSw; (go_simp <;> with_reducible rfl))
        (try simp only [Act.put, List.setIfInBounds_toArray, List.set_cons_zero, List.set_cons_succ])
        refine wpAnyH_take (i := 6) (oi := ?o1_6) (v := ?v1_6) ?i1_6 (by kernel_rfl) (by kernel_rfl) (by kernel_rfl) (fun _ _ _ h => h) (Or.inl ⟨?g1_6, ?y1_6⟩) hS ?_
        case i1_6 => simp only [List.getElem?_toArray, List.getElem?_cons_succ, List.getElem?_cons_zero]; rfl
        case g1_6 => rfl
        case y1_6 => (intro w hSw; (go_simp <;> with_reducible rfl))
        (try simp only [Act.put, List.setIfInBounds_toArray, List.set_cons_zero, List.set_cons_succ])
        refine wpAnyH_take (i := 7) (oi := ?o1_7) (v := ?v1_7) ?i1_7 (by kernel_rfl) (by kernel_rfl) (by kernel_rfl) (fun _ _ _ h => h) (Or.inl ⟨?g1_7, ?y1_7⟩) hS ?_
        case i1_7 => simp only [List.getElem?_toArray, List.getElem?_cons_succ, List.getElem?_cons_zero]; rfl
        case g1_7 => rfl
        case y1_7 => (intro w hSw; (go_simp <;> with_reducible rfl))
        (try simp only [Act.put, List.setIfInBounds_toArray, List.set_cons_zero, List.set_cons_succ])
        refine wpAnyH_take (i := 8) (oi := ?o1_8) (v := ?v1_8) ?i1_8 (by kernel_rfl) (by kernel_rfl) (by kernel_rfl) (fun _ _ _ h => h) (Or.inl ⟨?g1_8, ?y1_8⟩) hS ?_
        case i1_8 => simp only [List.getElem?_toArray, List.getElem?_cons_succ, List.getElem?_cons_zero]; rfl
        case g1_8 => rfl
        case y1_8 => (intro w hSw; (go_simp <;> with_reducible rfl))
        (try simp only [Act.put, List.setIfInBounds_toArray, List.set_cons_zero, List.set_cons_succ])
        refine wpAnyH_take (i := 9) (oi := ?o1_9) (v := ?v1_9) ?i1_9 (by kernel_rfl) (by kernel_rfl) (by kernel_rfl) (fun _ _ _ h => h) (Or.inl ⟨?g1_9, ?y1_9⟩) hS ?_
        case i1_9 => simp only [List.getElem?_toArray, List.getElem?_cons_succ, List.getElem?_cons_zero]; rfl
        case g1_9 => rfl
        case y1_9 => (intro w hSw; (go_simp <;> with_reducible rfl))
        (try simp only [Act.put, List.setIfInBounds_toArray, List.set_cons_zero, List.set_cons_succ])
        refine held_more (S' := fun w' => IsX w' vs X) (fun _ _ => trivial) _ _ _ _ ?_
        replace hS := hIs
        refine wpAnyH_take (i := 10) (oi := ?o1_10) (v := ?v1_10) ?i1_10 (by kernel_rfl) (by kernel_rfl) (by kernel_rfl) (fun _ _ _ h => h) (Or.inl ⟨?g1_10, ?y1_10⟩) hS ?_
        case i1_10 => simp only [List.getElem?_toArray, List.getElem?_cons_succ, List.getElem?_cons_zero]; rfl
        case g1_10 => rfl
        case y1_10 => (intro w hSw; have hc := IsX.str _ hSw; (go_simp <;> with_reducible rfl))
        (try simp only [Act.put, List.setIfInBounds_toArray, List.set_cons_zero, List.set_cons_succ])
        refine wpAnyH_ready (rs := [2]) (by kernel_rfl) (by simp) ?_
        refine AllReadyH.cons (o := ?o1_2) ?i1_2 (fun K hK => ?_) AllReadyH.nil
        case i1_2 => simp only [List.getElem?_toArray, List.getElem?_cons_succ, List.getElem?_cons_zero]; rfl
        rw [if_pos (by rfl)]
        go_simp
        refine (bytes_any _ _ _ _ (m : Int) _ hYd (by omega)).mono ?_
        rintro r w9 ⟨v9, rfl, hr9, hY9, hg9, hs9⟩
        rw [HNY.out] at hr9 hY9
        have hI9 : IsX w9 v9 X := ⟨_, hr9⟩
        have hv9 : IsX w9 vs X := ⟨_, hrd.grown hg9 (by omega)⟩
        have hX9 := hXd.grown hg9 (by omega) (by omega)
        have hW9 := hWd.grown hg9 (by omega) (by omega)
        have hB9 := below_grown hBd hg9 (by omega) (by omega)
        have Z9 : wr.drew.heap.size + 1 ≤ w9.heap.size := Nat.le_of_eq hs9.symm
        clear hXd hWd hBd hr9 hg9 hs9 hYd
        go_wp2_with fail
        refine hK.out _ _ ?s1_2 (fun hS => ?_)
        case s1_2 => (exact hv9)
        clear hK K
        (try simp only [Act.put, List.setIfInBounds_toArray, List.set_cons_zero, List.set_cons_succ])
        refine held_more (S' := fun w' => IsX w' v9 X ∧ IsX w' vs X) (fun _ h => h.2) _ _ _ _ ?_
        replace hS : IsX w9 v9 X ∧ IsX w9 vs X := ⟨hI9, hv9⟩
        refine wpAnyH_take (i := 3) (oi := ?o1_3) (v := ?v1_3) ?i1_3 (by kernel_rfl) (by kernel_rfl) (by kernel_rfl) (fun _ _ _ h => h) (Or.inl ⟨?g1_3, ?y1_3⟩) hS ?_
        case i1_3 => simp only [List.getElem?_toArray, List.getElem?_cons_succ, List.getElem?_cons_zero]; rfl
        case g1_3 => rfl
        case y1_3 => (intro w hSw; have hc := IsX.str _ hSw.1; (go_simp <;> with_reducible rfl))
        (try simp only [Act.put, List.setIfInBounds_toArray, List.set_cons_zero, List.set_cons_succ])
        refine wpAnyH_take (i := 11) (oi := ?o1_11) (v := ?v1_11) ?i1_11 (by kernel_rfl) (by kernel_rfl) (by kernel_rfl) (fun _ _ _ h => h) (Or.inl ⟨?g1_11, ?y1_11⟩) hS ?_
        case i1_11 => simp only [List.getElem?_toArray, List.getElem?_cons_succ, List.getElem?_cons_zero]; rfl
        case g1_11 => rfl
        case y1_11 => (intro w hSw; (go_simp <;> with_reducible rfl))
        (try simp only [Act.put, List.setIfInBounds_toArray, List.set_cons_zero, List.set_cons_succ])
        refine wpAnyH_take (i := 12) (oi := ?o1_12) (v := ?v1_12) ?i1_12 (by kernel_rfl) (by kernel_rfl) (by kernel_rfl) (fun _ _ _ h => h) (Or.inl ⟨?g1_12, ?y1_12⟩) hS ?_
        case i1_12 => simp only [List.getElem?_toArray, List.getElem?_cons_succ, List.getElem?_cons_zero]; rfl
        case g1_12 => rfl
        case y1_12 => (intro w hSw; (go_simp <;> with_reducible rfl))
        (try simp only [Act.put, List.setIfInBounds_toArray, List.set_cons_zero, List.set_cons_succ])
        refine wpAnyH_take (i := 13) (oi := ?o1_13) (v := ?v1_13) ?i1_13 (by kernel_rfl) (by kernel_rfl) (by kernel_rfl) (fun _ _ _ h => h) (Or.inl ⟨?g1_13, ?y1_13⟩) hS ?_
        case i1_13 => simp only [List.getElem?_toArray, List.getElem?_cons_succ, List.getElem?_cons_zero]; rfl
        case g1_13 => rfl
        case y1_13 => (intro w hSw; (go_simp <;> with_reducible rfl))
        (try simp only [Act.put, List.setIfInBounds_toArray, List.set_cons_zero, List.set_cons_succ])
        refine wpAnyH_ready (rs := [14]) (by kernel_rfl) (by simp) ?_
        refine AllReadyH.cons (o := ?o1_14) ?i1_14 (fun K hK => ?_) AllReadyH.nil
        case i1_14 => simp only [List.getElem?_toArray, List.getElem?_cons_succ, List.getElem?_cons_zero]; rfl
        rw [if_pos (by rfl)]
        go_simp
        refine (end_any _ _ _ _ _ hY9).mono ?_
        rintro r w10 ⟨rfl, rfl⟩
        rw [show endOf [] 0 = 0 from by decide]
        go_wp2_with fail
        refine hK.out _ _ ?s1_14 (fun hS => ?_)
        case s1_14 => (exact hS)
        clear hK K
        (try simp only [Act.put, List.setIfInBounds_toArray, List.set_cons_zero, List.set_cons_succ])
        refine wpAnyH_take (i := 15) (oi := ?o1_15) (v := ?v1_15) ?i1_15 (by kernel_rfl) (by kernel_rfl) (by kernel_rfl) (fun _ _ _ h => h) (Or.inl ⟨?g1_15, ?y1_15⟩) hS ?_
        case i1_15 => simp only [List.getElem?_toArray, List.getElem?_cons_succ, List.getElem?_cons_zero]; rfl
        case g1_15 => rfl
        case y1_15 => (intro w hSw; (go_simp <;> with_reducible rfl))
        (try simp only [Act.put, List.setIfInBounds_toArray, List.set_cons_zero, List.set_cons_succ])
        refine wpAnyH_take (i := 16) (oi := ?o1_16) (v := ?v1_16) ?i1_16 (by kernel_rfl) (by kernel_rfl) (by kernel_rfl) (fun _ _ _ h => h) (Or.inl ⟨?g1_16, ?y1_16⟩) hS ?_
        case i1_16 => simp only [List.getElem?_toArray, List.getElem?_cons_succ, List.getElem?_cons_zero]; rfl
        case g1_16 => rfl
        case y1_16 => (intro w hSw; (go_simp <;> with_reducible rfl))
        (try simp only [Act.put, List.setIfInBounds_toArray, List.set_cons_zero, List.set_cons_succ])
        refine wpAnyH_take (i := 17) (oi := ?o1_17) (v := ?v1_17) ?i1_17 (by kernel_rfl) (by kernel_rfl) (by kernel_rfl) (fun _ _ _ h => h) (Or.inl ⟨?g1_17, ?y1_17⟩) hS ?_
        case i1_17 => simp only [List.getElem?_toArray, List.getElem?_cons_succ, List.getElem?_cons_zero]; rfl
        case g1_17 => rfl
        case y1_17 => (intro w hSw; (go_simp <;> with_reducible rfl))
        (try simp only [Act.put, List.setIfInBounds_toArray, List.set_cons_zero, List.set_cons_succ])
        refine wpAnyH_take (i := 18) (oi := ?o1_18) (v := ?v1_18) ?i1_18 (by kernel_rfl) (by kernel_rfl) (by kernel_rfl) (fun _ _ _ h => h) (Or.inl ⟨?g1_18, ?y1_18⟩) hS ?_
        case i1_18 => simp only [List.getElem?_toArray, List.getElem?_cons_succ, List.getElem?_cons_zero]; rfl
        case g1_18 => rfl
        case y1_18 => (intro w hSw; (go_simp <;> with_reducible rfl))
        (try simp only [Act.put, List.setIfInBounds_toArray, List.set_cons_zero, List.set_cons_succ])
        refine wpAnyH_take (i := 20) (oi := ?o1_20) (v := ?v1_20) ?i1_20 (by kernel_rfl) (by kernel_rfl) (by kernel_rfl) (fun _ _ _ h => h) (Or.inl ⟨?g1_20, ?y1_20⟩) hS ?_
        case i1_20 => simp only [List.getElem?_toArray, List.getElem?_cons_succ, List.getElem?_cons_zero]; rfl
        case g1_20 => rfl
        case y1_20 => (intro w hSw; (go_simp <;> with_reducible rfl))
        (try simp only [Act.put, List.setIfInBounds_toArray, List.set_cons_zero, List.set_cons_succ])
        refine wpAnyH_take (i := 21) (oi := ?o1_21) (v := ?v1_21) ?i1_21 (by kernel_rfl) (by kernel_rfl) (by kernel_rfl) (fun _ _ _ h => h) (Or.inl ⟨?g1_21, ?y1_21⟩) hS ?_
        case i1_21 => simp only [List.getElem?_toArray, List.getElem?_cons_succ, List.getElem?_cons_zero]; rfl
        case g1_21 => rfl
        case y1_21 => (intro w hSw; (go_simp <;> with_reducible rfl))
        (try simp only [Act.put, List.setIfInBounds_toArray, List.set_cons_zero, List.set_cons_succ])
        refine wpAnyH_take (i := 22) (oi := ?o1_22) (v := ?v1_22) ?i1_22 (by kernel_rfl) (by kernel_rfl) (by kernel_rfl) (fun _ _ _ h => h) (Or.inl ⟨?g1_22, ?y1_22⟩) hS ?_
        case i1_22 => simp only [List.getElem?_toArray, List.getElem?_cons_succ, List.getElem?_cons_zero]; rfl
        case g1_22 => rfl
        case y1_22 => (intro w hSw; (go_simp <;> with_reducible rfl))
        (try simp only [Act.put, List.setIfInBounds_toArray, List.set_cons_zero, List.set_cons_succ])
        refine wpAnyH_take (i := 23) (oi := ?o1_23) (v := ?v1_23) ?i1_23 (by kernel_rfl) (by kernel_rfl) (by kernel_rfl) (fun _ _ _ h => h) (Or.inl ⟨?g1_23, ?y1_23⟩) hS ?_
        case i1_23 => simp only [List.getElem?_toArray, List.getElem?_cons_succ, List.getElem?_cons_zero]; rfl
        case g1_23 => rfl
        case y1_23 => (intro w hSw; (go_simp <;> with_reducible rfl))
        (try simp only [Act.put, List.setIfInBounds_toArray, List.set_cons_zero, List.set_cons_succ])
        refine wpAnyH_take (i := 24) (oi := ?o1_24) (v := ?v1_24) ?i1_24 (by kernel_rfl) (by kernel_rfl) (by kernel_rfl) (fun _ _ _ h => h) (Or.inl ⟨?g1_24, ?y1_24⟩) hS ?_
        case i1_24 => simp only [List.getElem?_toArray, List.getElem?_cons_succ, List.getElem?_cons_zero]; rfl
        case g1_24 => rfl
        case y1_24 => (intro w hSw; (go_simp <;> with_reducible rfl))
        (try simp only [Act.put, List.setIfInBounds_toArray, List.set_cons_zero, List.set_cons_succ])
        refine wpAnyH_ready (rs := [19]) (by kernel_rfl) (by simp) ?_
        refine AllReadyH.cons (o := ?o1_19) ?i1_19 (fun K hK => ?_) AllReadyH.nil
        case i1_19 => simp only [List.getElem?_toArray, List.getElem?_cons_succ, List.getElem?_cons_zero]; rfl
        rw [if_pos (by rfl)]
        go_simp
        refine (left_any _ _ _ _ _ hX9).mono ?_
        rintro r w10 ⟨rfl, rfl⟩
        go_wp2_with fail
        refine hK.out _ _ ?s1_19 (fun hS => ?_)
        case s1_19 => (exact hS)
        clear hK K
        (try simp only [Act.put, List.setIfInBounds_toArray, List.set_cons_zero, List.set_cons_succ])
        refine wpAnyH_take (i := 25) (oi := ?o1_25) (v := ?v1_25) ?i1_25 (by kernel_rfl) (by kernel_rfl) (by kernel_rfl) (fun _ _ _ h => h) (Or.inl ⟨?g1_25, ?y1_25⟩) hS ?_
        case i1_25 => simp only [List.getElem?_toArray, List.getElem?_cons_succ, List.getElem?_cons_zero]; rfl
        case g1_25 => rfl
        case y1_25 => (intro w hSw; (go_simp <;> with_reducible rfl))
        (try simp only [Act.put, List.setIfInBounds_toArray, List.set_cons_zero, List.set_cons_succ])
        refine wpAnyH_take (i := 26) (oi := ?o1_26) (v := ?v1_26) ?i1_26 (by kernel_rfl) (by kernel_rfl) (by kernel_rfl) (fun _ _ _ h => h) (Or.inl ⟨?g1_26, ?y1_26⟩) hS ?_
        case i1_26 => simp only [List.getElem?_toArray, List.getElem?_cons_succ, List.getElem?_cons_zero]; rfl
        case g1_26 => rfl
        case y1_26 => (intro w hSw; (go_simp <;> with_reducible rfl))
        (try simp only [Act.put, List.setIfInBounds_toArray, List.set_cons_zero, List.set_cons_succ])
        refine wpAnyH_done (by kernel_rfl) ?_ _
        refine NoPanic.normal ?_
        have hrt := (hr0.below' hB9)
        obtain ⟨vt, hsl2, hrt⟩ := slice_from hrt (k + m) ((k : Int) + (m : Int)) (by omega) (by omega)
        rw [← HT.out] at hrt
        have hnw := nx_ok (l := T) (n := (l.length : Int) - (k : Int) - (m : Int)) (by omega) (by rw [HTL.out]; omega)
        have htn : ((l.length : Int) - (k : Int) - (m : Int)).toNat = T.length := by rw [HTL.out]; omega
        rw [htn, List.take_of_length_le (Nat.le_refl _), List.drop_eq_nil_of_le (Nat.le_refl _)] at hnw
        have HNW := Lib.hid hnw
        have hfin : ((rdE X j == 0) == decide (j ≤ m)) = true := by
          unfold rdE
          rw [HXL.out]
          by_cases hjm : j ≤ m
          · rw [if_pos hjm]; simp; omega
          · rw [if_neg hjm]; simp; omega
        clear hsl hnw htn hI9 hv9 hIs
        go_wp2_with fail
        clear hmx
        obtain ⟨we, hwe⟩ : ∃ we, we = w9.drew := ⟨_, rfl⟩
        have hXe : Win we (w5.heap.size + 1) w5.heap.size (X.drop j) (rdE X j) := by rw [hwe]; exact hX9
        have hWe : Win we (w1.heap.size + 1) w1.heap.size T 0 := by rw [hwe]; exact hW9
        have hre : Rd we d vt T := by rw [hwe]; exact hrt
        have hBe : Below w.heap.size w we := by rw [hwe]; exact hB9.drew
        have hze : w7.heap.size ≤ we.heap.size := by rw [hwe]; show w7.heap.size ≤ w9.heap.size; omega
        clear hX9 hW9 hrt hB9 Z9
        subst hwe
        have hIt : IsX w9.drew vt T := ⟨_, hre⟩
        refine wp_region_noPanic ?_
        refine wp_region_held_drew (S := fun _ => True) (by kernel_rfl) trivial (fun hS => ?_)
        refine wpAnyH_take (i := 0) (oi := ?o2_0) (v := ?v2_0) ?i2_0 (by kernel_rfl) (by kernel_rfl) (by kernel_rfl) (fun _ _ _ h => h) (Or.inl ⟨?g2_0, ?y2_0⟩) hS ?_
        case i2_0 => simp only [List.getElem?_toArray, List.getElem?_cons_succ, List.getElem?_cons_zero]; rfl
        case g2_0 => rfl
        case y2_0 => (intro w hSw; (go_simp <;> with_reducible rfl))
        (try simp only [Act.put, List.setIfInBounds_toArray, List.set_cons_zero, List.set_cons_succ])
        refine wpAnyH_take (i := 1) (oi := ?o2_1) (v := ?v2_1) ?i2_1 (by kernel_rfl) (by kernel_rfl) (by kernel_rfl) (fun _ _ _ h => h) (Or.inl ⟨?g2_1, ?y2_1⟩) hS ?_
        case i2_1 => simp only [List.getElem?_toArray, List.getElem?_cons_succ, List.getElem?_cons_zero]; rfl
        case g2_1 => rfl
        case y2_1 => (intro w hSw; (go_simp <;> with_reducible rfl))
        (try simp only [Act.put, List.setIfInBounds_toArray, List.set_cons_zero, List.set_cons_succ])
        refine wpAnyH_take (i := 2) (oi := ?o2_2) (v := ?v2_2) ?i2_2 (by kernel_rfl) (by kernel_rfl) (by kernel_rfl) (fun _ _ _ h => h) (Or.inl ⟨?g2_2, ?y2_2⟩) hS ?_
        case i2_2 => simp only [List.getElem?_toArray, List.getElem?_cons_succ, List.getElem?_cons_zero]; rfl
        case g2_2 => rfl
        case y2_2 => (intro w hSw; (go_simp <;> with_reducible rfl))
        (try simp only [Act.put, List.setIfInBounds_toArray, List.set_cons_zero, List.set_cons_succ])
        refine wpAnyH_take (i := 3) (oi := ?o2_3) (v := ?v2_3) ?i2_3 (by kernel_rfl) (by kernel_rfl) (by kernel_rfl) (fun _ _ _ h => h) (Or.inl ⟨?g2_3, ?y2_3⟩) hS ?_
        case i2_3 => simp only [List.getElem?_toArray, List.getElem?_cons_succ, List.getElem?_cons_zero]; rfl
        case g2_3 => rfl
        case y2_3 => (intro w hSw; (go_simp <;> with_reducible rfl))
        (try simp only [Act.put, List.setIfInBounds_toArray, List.set_cons_zero, List.set_cons_succ])
        refine wpAnyH_take (i := 4) (oi := ?o2_4) (v := ?v2_4) ?i2_4 (by kernel_rfl) (by kernel_rfl) (by kernel_rfl) (fun _ _ _ h => h) (Or.inl ⟨?g2_4, ?y2_4⟩) hS ?_
        case i2_4 => simp only [List.getElem?_toArray, List.getElem?_cons_succ, List.getElem?_cons_zero]; rfl
        case g2_4 => rfl
        case y2_4 => (intro w hSw; (go_simp <;> with_reducible rfl))
        (try simp only [Act.put, List.setIfInBounds_toArray, List.set_cons_zero, List.set_cons_succ])
        refine wpAnyH_take (i := 5) (oi := ?o2_5) (v := ?v2_5) ?i2_5 (by kernel_rfl) (by kernel_rfl) (by kernel_rfl) (fun _ _ _ h => h) (Or.inl ⟨?g2_5, ?y2_5⟩) hS ?_
        case i2_5 => simp only [List.getElem?_toArray, List.getElem?_cons_succ, List.getElem?_cons_zero]; rfl
        case g2_5 => rfl
        case y2_5 => (intro w hSw; (go_simp <;> with_reducible rfl))
        (try simp only [Act.put, List.setIfInBounds_toArray, List.set_cons_zero, List.set_cons_succ])
        refine wpAnyH_take (i := 6) (oi := ?o2_6) (v := ?v2_6) ?i2_6 (by kernel_rfl) (by kernel_rfl) (by kernel_rfl) (fun _ _ _ h => h) (Or.inl ⟨?g2_6, ?y2_6⟩) hS ?_
        case i2_6 => simp only [List.getElem?_toArray, List.getElem?_cons_succ, List.getElem?_cons_zero]; rfl
        case g2_6 => rfl
        case y2_6 => (intro w hSw; (go_simp <;> with_reducible rfl))
        (try simp only [Act.put, List.setIfInBounds_toArray, List.set_cons_zero, List.set_cons_succ])
        refine wpAnyH_take (i := 9) (oi := ?o2_9) (v := ?v2_9) ?i2_9 (by kernel_rfl) (by kernel_rfl) (by kernel_rfl) (fun _ _ _ h => h) (Or.inl ⟨?g2_9, ?y2_9⟩) hS ?_
        case i2_9 => simp only [List.getElem?_toArray, List.getElem?_cons_succ, List.getElem?_cons_zero]; rfl
        case g2_9 => rfl
        case y2_9 => (intro w hSw; (go_simp <;> with_reducible rfl))
        (try simp only [Act.put, List.setIfInBounds_toArray, List.set_cons_zero, List.set_cons_succ])
        refine wpAnyH_take (i := 10) (oi := ?o2_10) (v := ?v2_10) ?i2_10 (by kernel_rfl) (by kernel_rfl) (by kernel_rfl) (fun _ _ _ h => h) (Or.inl ⟨?g2_10, ?y2_10⟩) hS ?_
        case i2_10 => simp only [List.getElem?_toArray, List.getElem?_cons_succ, List.getElem?_cons_zero]; rfl
        case g2_10 => rfl
        case y2_10 => (intro w hSw; (go_simp <;> with_reducible rfl))
        (try simp only [Act.put, List.setIfInBounds_toArray, List.set_cons_zero, List.set_cons_succ])
        refine wpAnyH_take (i := 11) (oi := ?o2_11) (v := ?v2_11) ?i2_11 (by kernel_rfl) (by kernel_rfl) (by kernel_rfl) (fun _ _ _ h => h) (Or.inl ⟨?g2_11, ?y2_11⟩) hS ?_
        case i2_11 => simp only [List.getElem?_toArray, List.getElem?_cons_succ, List.getElem?_cons_zero]; rfl
        case g2_11 => rfl
        case y2_11 => (intro w hSw; (go_simp <;> with_reducible rfl))
        (try simp only [Act.put, List.setIfInBounds_toArray, List.set_cons_zero, List.set_cons_succ])
        refine wpAnyH_take (i := 12) (oi := ?o2_12) (v := ?v2_12) ?i2_12 (by kernel_rfl) (by kernel_rfl) (by kernel_rfl) (fun _ _ _ h => h) (Or.inl ⟨?g2_12, ?y2_12⟩) hS ?_
        case i2_12 => simp only [List.getElem?_toArray, List.getElem?_cons_succ, List.getElem?_cons_zero]; rfl
        case g2_12 => rfl
        case y2_12 => (intro w hSw; (go_simp <;> with_reducible rfl))
        (try simp only [Act.put, List.setIfInBounds_toArray, List.set_cons_zero, List.set_cons_succ])
        refine wpAnyH_take (i := 13) (oi := ?o2_13) (v := ?v2_13) ?i2_13 (by kernel_rfl) (by kernel_rfl) (by kernel_rfl) (fun _ _ _ h => h) (Or.inl ⟨?g2_13, ?y2_13⟩) hS ?_
        case i2_13 => simp only [List.getElem?_toArray, List.getElem?_cons_succ, List.getElem?_cons_zero]; rfl
        case g2_13 => rfl
        case y2_13 => (intro w hSw; (go_simp <;> with_reducible rfl))
        (try simp only [Act.put, List.setIfInBounds_toArray, List.set_cons_zero, List.set_cons_succ])
        refine held_more (S' := fun w' => IsX w' vt T) (fun _ _ => trivial) _ _ _ _ ?_
        replace hS := hIt
        refine wpAnyH_take (i := 14) (oi := ?o2_14) (v := ?v2_14) ?i2_14 (by kernel_rfl) (by kernel_rfl) (by kernel_rfl) (fun _ _ _ h => h) (Or.inl ⟨?g2_14, ?y2_14⟩) hS ?_
        case i2_14 => simp only [List.getElem?_toArray, List.getElem?_cons_succ, List.getElem?_cons_zero]; rfl
        case g2_14 => rfl
        case y2_14 => (intro w hSw; have hc := IsX.str _ hSw; (go_simp <;> with_reducible rfl))
        (try simp only [Act.put, List.setIfInBounds_toArray, List.set_cons_zero, List.set_cons_succ])
        refine wpAnyH_ready (rs := [7]) (by kernel_rfl) (by simp) ?_
        refine AllReadyH.cons (o := ?o2_7) ?i2_7 (fun K hK => ?_) AllReadyH.nil
        case i2_7 => simp only [List.getElem?_toArray, List.getElem?_cons_succ, List.getElem?_cons_zero]; rfl
        rw [if_pos (by rfl)]
        go_simp
        refine (bytes_any _ _ _ _ ((l.length : Int) - (k : Int) - (m : Int)) _ hWe (by omega)).mono ?_
        rintro r w11 ⟨v11, rfl, hr11, hW11, hg11, hs11⟩
        rw [HNW.out] at hr11 hW11
        have hI11 : IsX w11 v11 T := ⟨_, hr11⟩
        have hv11 : IsX w11 vt T := ⟨_, hre.grown hg11 (by omega)⟩
        have hX11 := hXe.grown hg11 (by omega) (by omega)
        have hB11 := below_grown hBe hg11 (by omega) (by omega)
        clear hXe hBe hr11 hg11 hs11 hWe
        go_wp2_with fail
        refine hK.out _ _ ?s2_7 (fun hS => ?_)
        case s2_7 => (exact hv11)
        clear hK K
        (try simp only [Act.put, List.setIfInBounds_toArray, List.set_cons_zero, List.set_cons_succ])
        refine held_more (S' := fun w' => IsX w' v11 T ∧ IsX w' vt T) (fun _ h => h.2) _ _ _ _ ?_
        replace hS : IsX w11 v11 T ∧ IsX w11 vt T := ⟨hI11, hv11⟩
        refine wpAnyH_take (i := 8) (oi := ?o2_8) (v := ?v2_8) ?i2_8 (by kernel_rfl) (by kernel_rfl) (by kernel_rfl) (fun _ _ _ h => h) (Or.inl ⟨?g2_8, ?y2_8⟩) hS ?_
        case i2_8 => simp only [List.getElem?_toArray, List.getElem?_cons_succ, List.getElem?_cons_zero]; rfl
        case g2_8 => rfl
        case y2_8 => (intro w hSw; have hc := IsX.str _ hSw.1; (go_simp <;> with_reducible rfl))
        (try simp only [Act.put, List.setIfInBounds_toArray, List.set_cons_zero, List.set_cons_succ])
        refine wpAnyH_take (i := 15) (oi := ?o2_15) (v := ?v2_15) ?i2_15 (by kernel_rfl) (by kernel_rfl) (by kernel_rfl) (fun _ _ _ h => h) (Or.inl ⟨?g2_15, ?y2_15⟩) hS ?_
        case i2_15 => simp only [List.getElem?_toArray, List.getElem?_cons_succ, List.getElem?_cons_zero]; rfl
        case g2_15 => rfl
        case y2_15 => (intro w hSw; (go_simp <;> with_reducible rfl))
        (try simp only [Act.put, List.setIfInBounds_toArray, List.set_cons_zero, List.set_cons_succ])
        refine wpAnyH_take (i := 16) (oi := ?o2_16) (v := ?v2_16) ?i2_16 (by kernel_rfl) (by kernel_rfl) (by kernel_rfl) (fun _ _ _ h => h) (Or.inl ⟨?g2_16, ?y2_16⟩) hS ?_
        case i2_16 => simp only [List.getElem?_toArray, List.getElem?_cons_succ, List.getElem?_cons_zero]; rfl
        case g2_16 => rfl
        case y2_16 => (intro w hSw; (go_simp <;> with_reducible rfl))
        (try simp only [Act.put, List.setIfInBounds_toArray, List.set_cons_zero, List.set_cons_succ])
        refine wpAnyH_take (i := 17) (oi := ?o2_17) (v := ?v2_17) ?i2_17 (by kernel_rfl) (by kernel_rfl) (by kernel_rfl) (fun _ _ _ h => h) (Or.inl ⟨?g2_17, ?y2_17⟩) hS ?_
        case i2_17 => simp only [List.getElem?_toArray, List.getElem?_cons_succ, List.getElem?_cons_zero]; rfl
        case g2_17 => rfl
        case y2_17 => (intro w hSw; (go_simp <;> with_reducible rfl))
        (try simp only [Act.put, List.setIfInBounds_toArray, List.set_cons_zero, List.set_cons_succ])
        refine wpAnyH_ready (rs := [18]) (by kernel_rfl) (by simp) ?_
        refine AllReadyH.cons (o := ?o2_18) ?i2_18 (fun K hK => ?_) AllReadyH.nil
        case i2_18 => simp only [List.getElem?_toArray, List.getElem?_cons_succ, List.getElem?_cons_zero]; rfl
        rw [if_pos (by rfl)]
        go_simp
        refine (end_any _ _ _ _ _ hW11).mono ?_
        rintro r w12 ⟨rfl, rfl⟩
        rw [show endOf [] 0 = 0 from by decide]
        go_wp2_with fail
        refine hK.out _ _ ?s2_18 (fun hS => ?_)
        case s2_18 => (exact hS)
        clear hK K
        (try simp only [Act.put, List.setIfInBounds_toArray, List.set_cons_zero, List.set_cons_succ])
        refine wpAnyH_take (i := 19) (oi := ?o2_19) (v := ?v2_19) ?i2_19 (by kernel_rfl) (by kernel_rfl) (by kernel_rfl) (fun _ _ _ h => h) (Or.inl ⟨?g2_19, ?y2_19⟩) hS ?_
        case i2_19 => simp only [List.getElem?_toArray, List.getElem?_cons_succ, List.getElem?_cons_zero]; rfl
        case g2_19 => rfl
        case y2_19 => (intro w hSw; (go_simp <;> with_reducible rfl))
        (try simp only [Act.put, List.setIfInBounds_toArray, List.set_cons_zero, List.set_cons_succ])
        refine wpAnyH_take (i := 20) (oi := ?o2_20) (v := ?v2_20) ?i2_20 (by kernel_rfl) (by kernel_rfl) (by kernel_rfl) (fun _ _ _ h => h) (Or.inl ⟨?g2_20, ?y2_20⟩) hS ?_
        case i2_20 => simp only [List.getElem?_toArray, List.getElem?_cons_succ, List.getElem?_cons_zero]; rfl
        case g2_20 => rfl
        case y2_20 => (intro w hSw; (go_simp <;> with_reducible rfl))
        (try simp only [Act.put, List.setIfInBounds_toArray, List.set_cons_zero, List.set_cons_succ])
        refine wpAnyH_take (i := 21) (oi := ?o2_21) (v := ?v2_21) ?i2_21 (by kernel_rfl) (by kernel_rfl) (by kernel_rfl) (fun _ _ _ h => h) (Or.inl ⟨?g2_21, ?y2_21⟩) hS ?_
        case i2_21 => simp only [List.getElem?_toArray, List.getElem?_cons_succ, List.getElem?_cons_zero]; rfl
        case g2_21 => rfl
        case y2_21 => (intro w hSw; (go_simp <;> with_reducible rfl))
        (try simp only [Act.put, List.setIfInBounds_toArray, List.set_cons_zero, List.set_cons_succ])
        refine wpAnyH_take (i := 22) (oi := ?o2_22) (v := ?v2_22) ?i2_22 (by kernel_rfl) (by kernel_rfl) (by kernel_rfl) (fun _ _ _ h => h) (Or.inl ⟨?g2_22, ?y2_22⟩) hS ?_
        case i2_22 => simp only [List.getElem?_toArray, List.getElem?_cons_succ, List.getElem?_cons_zero]; rfl
        case g2_22 => rfl
        case y2_22 => (intro w hSw; (go_simp <;> with_reducible rfl))
        (try simp only [Act.put, List.setIfInBounds_toArray, List.set_cons_zero, List.set_cons_succ])
        refine wpAnyH_take (i := 25) (oi := ?o2_25) (v := ?v2_25) ?i2_25 (by kernel_rfl) (by kernel_rfl) (by kernel_rfl) (fun _ _ _ h => h) (Or.inl ⟨?g2_25, ?y2_25⟩) hS ?_
        case i2_25 => simp only [List.getElem?_toArray, List.getElem?_cons_succ, List.getElem?_cons_zero]; rfl
        case g2_25 => rfl
        case y2_25 => (intro w hSw; (go_simp <;> with_reducible rfl))
        (try simp only [Act.put, List.setIfInBounds_toArray, List.set_cons_zero, List.set_cons_succ])
        refine wpAnyH_take (i := 26) (oi := ?o2_26) (v := ?v2_26) ?i2_26 (by kernel_rfl) (by kernel_rfl) (by kernel_rfl) (fun _ _ _ h => h) (Or.inl ⟨?g2_26, ?y2_26⟩) hS ?_
        case i2_26 => simp only [List.getElem?_toArray, List.getElem?_cons_succ, List.getElem?_cons_zero]; rfl
        case g2_26 => rfl
        case y2_26 => (intro w hSw; (go_simp <;> with_reducible rfl))
        (try simp only [Act.put, List.setIfInBounds_toArray, List.set_cons_zero, List.set_cons_succ])
        refine wpAnyH_take (i := 27) (oi := ?o2_27) (v := ?v2_27) ?i2_27 (by kernel_rfl) (by kernel_rfl) (by kernel_rfl) (fun _ _ _ h => h) (Or.inl ⟨?g2_27, ?y2_27⟩) hS ?_
        case i2_27 => simp only [List.getElem?_toArray, List.getElem?_cons_succ, List.getElem?_cons_zero]; rfl
        case g2_27 => rfl
        case y2_27 => (intro w hSw; (go_simp <;> with_reducible rfl))
        (try simp only [Act.put, List.setIfInBounds_toArray, List.set_cons_zero, List.set_cons_succ])
        refine wpAnyH_take (i := 28) (oi := ?o2_28) (v := ?v2_28) ?i2_28 (by kernel_rfl) (by kernel_rfl) (by kernel_rfl) (fun _ _ _ h => h) (Or.inl ⟨?g2_28, ?y2_28⟩) hS ?_
        case i2_28 => simp only [List.getElem?_toArray, List.getElem?_cons_succ, List.getElem?_cons_zero]; rfl
        case g2_28 => rfl
        case y2_28 => (intro w hSw; (go_simp <;> with_reducible rfl))
        (try simp only [Act.put, List.setIfInBounds_toArray, List.set_cons_zero, List.set_cons_succ])
        refine wpAnyH_ready (rs := [23]) (by kernel_rfl) (by simp) ?_
        refine AllReadyH.cons (o := ?o2_23) ?i2_23 (fun K hK => ?_) AllReadyH.nil
        case i2_23 => simp only [List.getElem?_toArray, List.getElem?_cons_succ, List.getElem?_cons_zero]; rfl
        rw [if_pos (by rfl)]
        go_simp
        refine (err_any _ _ _ _ _ hX11).mono ?_
        rintro r w12 ⟨rfl, rfl⟩
        go_wp2_with fail
        refine hK.out _ _ ?s2_23 (fun hS => ?_)
        case s2_23 => (exact hS)
        clear hK K
        (try simp only [Act.put, List.setIfInBounds_toArray, List.set_cons_zero, List.set_cons_succ])
        refine wpAnyH_take (i := 24) (oi := ?o2_24) (v := ?v2_24) ?i2_24 (by kernel_rfl) (by kernel_rfl) (by kernel_rfl) (fun _ _ _ h => h) (Or.inl ⟨?g2_24, ?y2_24⟩) hS ?_
        case i2_24 => simp only [List.getElem?_toArray, List.getElem?_cons_succ, List.getElem?_cons_zero]; rfl
        case g2_24 => rfl
        case y2_24 => (intro w hSw; (go_simp <;> with_reducible rfl))
        (try simp only [Act.put, List.setIfInBounds_toArray, List.set_cons_zero, List.set_cons_succ])
        refine wpAnyH_take (i := 29) (oi := ?o2_29) (v := ?v2_29) ?i2_29 (by kernel_rfl) (by kernel_rfl) (by kernel_rfl) (fun _ _ _ h => h) (Or.inl ⟨?g2_29, ?y2_29⟩) hS ?_
        case i2_29 => simp only [List.getElem?_toArray, List.getElem?_cons_succ, List.getElem?_cons_zero]; rfl
        case g2_29 => rfl
        case y2_29 => (intro w hSw; (go_simp <;> with_reducible rfl))
        (try simp only [Act.put, List.setIfInBounds_toArray, List.set_cons_zero, List.set_cons_succ])
        refine wpAnyH_take (i := 30) (oi := ?o2_30) (v := ?v2_30) ?i2_30 (by kernel_rfl) (by kernel_rfl) (by kernel_rfl) (fun _ _ _ h => h) (Or.inl ⟨?g2_30, ?y2_30⟩) hS ?_
        case i2_30 => simp only [List.getElem?_toArray, List.getElem?_cons_succ, List.getElem?_cons_zero]; rfl
        case g2_30 => rfl
        case y2_30 => (intro w hSw; (go_simp <;> with_reducible rfl))
        (try simp only [Act.put, List.setIfInBounds_toArray, List.set_cons_zero, List.set_cons_succ])
        refine wpAnyH_take (i := 31) (oi := ?o2_31) (v := ?v2_31) ?i2_31 (by kernel_rfl) (by kernel_rfl) (by kernel_rfl) (fun _ _ _ h => h) (Or.inl ⟨?g2_31, ?y2_31⟩) hS ?_
        case i2_31 => simp only [List.getElem?_toArray, List.getElem?_cons_succ, List.getElem?_cons_zero]; rfl
        case g2_31 => rfl
        case y2_31 => (intro w hSw; (go_simp <;> with_reducible rfl))
        (try simp only [Act.put, List.setIfInBounds_toArray, List.set_cons_zero, List.set_cons_succ])
        refine wpAnyH_done (by kernel_rfl) ?_ _
        refine NoPanic.normal ?_
        go_wp2
        go_ret
        exact ⟨rfl, hB11⟩

end Go.Proofs.Ytkajlicppdfegaa
