/-
  The walk of the law OctetReads: it answers true, for all bytes and steps, and writes nothing that was there. No condition.
-/
import Derived.Test.YtkajlicppdfegaaOctRefB
import Derived.Test.YtkajlicppdfegaaLaw01A
import Derived.Test.YtkajlicppdfegaaDrawn
import Derived.Deep.DrawnRows
import Derived.Deep.DeepCutAuto
import Derived.Deep.CutBlock
import Derived.WalkLawsBesides
namespace Go.Proofs.Ytkajlicppdfegaa
open Go.RowKit
set_option linter.unusedSimpArgs false
attribute [local go_sem ↓] Go.wp_at_zero Go.wp_at_succ

/-- What a walk is told of a slice of steps that came in. -/
def IsSteps (w : World) (a : Option Addr) (len cap : Nat) : Prop :=
  (a = none ∧ len = 0 ∧ cap = 0) ∨
  ∃ x, a = some x ∧ len ≤ cap ∧ cap ≤ maxLen ∧ ∀ i, i < len → ∃ k n : Int, w.cell? (x.add (i * 2 + 0)) = some (.int .i64 k) ∧ w.cell? (x.add (i * 2 + 1)) = some (.int .i64 n)

theorem IsSteps.cell {w : World} {a : Option Addr} {len cap : Nat} (h : IsSteps w a len cap) {j : Nat} (hj : j < len) :
    ∃ (d off : Nat) (k n : Int), a = some ⟨d, off, none⟩ ∧ d < w.heap.size ∧ w.cell? ⟨d, off + j * 2, none⟩ = some (.int .i64 k) ∧ w.cell? ⟨d, off + j * 2 + 1, none⟩ = some (.int .i64 n) := by
  rcases h with ⟨_, h0, _⟩ | ⟨x, rfl, _, _, hc⟩
  · omega
  · obtain ⟨k, n, h1, h2⟩ := hc j hj
    have hx : x.spot = none := by
      obtain ⟨_, _, h0, _⟩ := hc 0 (by omega)
      exact World.cell?_spot (by simpa [Addr.add] using h0)
    obtain ⟨b, off, sp⟩ := x
    have hsp : sp = none := hx
    subst hsp
    have e1 : (⟨b, off, none⟩ : Addr).add (j * 2 + 0) = ⟨b, off + j * 2, none⟩ := by unfold Addr.add; split <;> simp_all
    have e2 : (⟨b, off, none⟩ : Addr).add (j * 2 + 1) = ⟨b, off + j * 2 + 1, none⟩ := by unfold Addr.add; split <;> simp_all [Nat.add_assoc]
    rw [e1] at h1
    rw [e2] at h2
    exact ⟨b, off, k, n, rfl, World.block_lt_of_cell? w _ h1, h1, h2⟩

set_option maxRecDepth 100000 in
set_option maxHeartbeats 8000000 in
theorem octetReads_walk (a0 : Option Addr) (len0 cap0 : Nat) (z0 : List Int) (a1 : Option Addr) (len1 cap1 : Nat) (w : World) (w0 : IsRow .u8 w a0 len0 cap0 z0) (w1 : IsSteps w a1 len1 cap1) :
    Calls Try.prog 3 #[.slice a0 len0 cap0, .slice a1 len1 cap1] w fun e w' => e = .returned (.bool true) ∧ Below w.heap.size w w' := by
  by_cases hbig : 1000 < len0 ∨ 60 < len1
  · by_cases h40 : 1000 < len0
    · go_enter Try.func3, Try.ntmps3
      go_wp2_with fail
      refine (awake_any _).mono ?_
      rintro r w1 ⟨rfl, hB1⟩
      go_wp2
      go_ret
      exact ⟨rfl, hB1⟩
    · have h41 : decide ((1000 : Int) < (len0 : Int)) = false := by simp; omega
      have hzl : 60 < len1 := by omega
      go_enter Try.func3, Try.ntmps3
      go_wp2_with fail
      refine (awake_any _).mono ?_
      rintro r w1 ⟨rfl, hB1⟩
      go_wp2
      go_ret
      exact ⟨rfl, hB1⟩
  · obtain ⟨d, l, rfl, hdw, hr0⟩ := w0.rd (by omega)
    have h41 : decide ((1000 : Int) < (l.length : Int)) = false := by simp; omega
    have h42 : decide ((60 : Int) < (len1 : Int)) = false := by simp; omega
    have hL : l.length ≤ 1000 := by omega
    have hN : len1 ≤ 60 := by omega
    clear hbig
    go_enter Try.func3, Try.ntmps3
    go_wp2_with fail
    refine (awake_any _).mono ?_
    rintro r wa ⟨rfl, hB1⟩
    have hr1 := hr0.below' hB1
    go_wp2_with fail
    refine (open_any _ _ _ _ hr1).mono ?_
    rintro r wb ⟨rfl, hW2, hA2, hs2⟩
    have hB2 := hB1.trans (hA2.mono hB1.size)
    have hr2 := hr1.below' hA2
    have z1 := hB1.size
    have Z2 : wa.heap.size + 2 ≤ wb.heap.size := Nat.le_of_eq hs2.symm
    have hst : (convert 22 9 (.slice a0 l.length cap0)).run Try.prog wb = .ok (.string (txt l)) wb := str_of hr2
    obtain ⟨wz, hwz⟩ : ∃ wz, wz = wb.alloc (.cells #[.string (txt l), .int .i64 0] 30) := ⟨_, rfl⟩
    have hV3 : RW wz wb.heap.size l 0 := by rw [hwz]; exact Blk.new _ _ _
    have hW3 : Win wz (wa.heap.size + 1) wa.heap.size l 0 := by rw [hwz]; exact hW2.alloc _
    have hB3 : Below w.heap.size w wz := by rw [hwz]; exact hB2.alloc hB2.size _
    have Z3 : wb.heap.size + 1 ≤ wz.heap.size := by rw [hwz]; simp
    have HWZ := Lib.hid hwz
    clear hr0 hr1 hr2 hW2 hA2 hs2 hB1 hB2 hwz w0
    go_wp2
    rw [← HWZ.out]
    go_loopw [8] (fun i wr => ∃ (j : Nat) (s : List UInt8) (e : Int), j ≤ len1 ∧ i = .int .i64 j ∧ Win wr (wa.heap.size + 1) wa.heap.size s e ∧ RW wr wb.heap.size s e ∧ Below w.heap.size w wr ∧ wz.heap.size ≤ wr.heap.size) (fun i _ => len1 - (intOf i).toNat)
    case atStart => exact ⟨0, l, 0, Nat.zero_le _, rfl, hW3, hV3, hB3, Nat.le_refl _⟩
    case round =>
      obtain ⟨j, s, e, hj, rfl, hW, hV, hB, hZ⟩ := hrel
      by_cases hlt : j < len1
      · obtain ⟨d1, off1, k, n, rfl, hd1, hck, hcn⟩ := w1.cell hlt
        have hck' : wr.cell? ⟨d1, off1 + j * 2, none⟩ = some (.int .i64 k) := (hB.cell (p := ⟨d1, off1 + j * 2, none⟩) hd1).trans hck
        have hcn' : wr.cell? ⟨d1, off1 + j * 2 + 1, none⟩ = some (.int .i64 n) := (hB.cell (p := ⟨d1, off1 + j * 2 + 1, none⟩) hd1).trans hcn
        clear hck hcn
        go_upto_block 2 with fail
        go_cut [] (fun wx => ∃ (s : List UInt8) (e : Int), Win wx (wa.heap.size + 1) wa.heap.size s e ∧ RW wx wb.heap.size s e ∧ Below w.heap.size w wx ∧ wz.heap.size ≤ wx.heap.size)
        case first =>
          by_cases k0 : k = 0
          · subst k0
            have hq := nm_one_lt s e
            go_wp2_with fail
            refine (byte_any _ _ _ _ _ hW (by omega)).mono ?_
            rintro r w4 ⟨rfl, hW4, hg4, hs4⟩
            have hV4 := hV.grown hg4 (by omega)
            have z4 : wr.heap.size ≤ w4.heap.size := Nat.le_of_eq hs4.symm
            have hB4 := below_grown hB hg4 (by omega) (by omega)
            go_wp2_with fail
            refine (rnum_any _ _ _ _ _ hV4).mono ?_
            rintro r w5 ⟨rfl, hV5, hg5, hs5⟩
            have hW5 := hW4.grown hg5 (by omega) (by omega)
            have z5 : w4.heap.size ≤ w5.heap.size := Nat.le_of_eq hs5.symm
            have hB5 := below_grown hB4 hg5 (by omega) (by omega)
            have zz : wz.heap.size ≤ w5.heap.size := by omega
            clear hs4 hs5 hg4 hg5 hW hV hB hW4 hV4 hB4 z4 z5
            go_wp2_with fail
            go_meet
            exact ⟨_, _, hW5, hV5, hB5, zz⟩
          by_cases k1 : k = 1
          · subst k1
            go_wp2_with fail
            refine (num_any _ _ _ _ _ _ hW (by omega)).mono ?_
            rintro r w4 ⟨rfl, hW4, hg4, hs4⟩
            have hV4 := hV.grown hg4 (by omega)
            have z4 : wr.heap.size ≤ w4.heap.size := Nat.le_of_eq hs4.symm
            have hB4 := below_grown hB hg4 (by omega) (by omega)
            go_wp2_with fail
            refine (rnum_any _ _ _ _ _ hV4).mono ?_
            rintro r w5 ⟨rfl, hV5, hg5, hs5⟩
            have hW5 := hW4.grown hg5 (by omega) (by omega)
            have z5 : w4.heap.size ≤ w5.heap.size := Nat.le_of_eq hs5.symm
            have hB5 := below_grown hB4 hg5 (by omega) (by omega)
            have zz : wz.heap.size ≤ w5.heap.size := by omega
            clear hs4 hs5 hg4 hg5 hW hV hB hW4 hV4 hB4 z4 z5
            go_wp2_with fail
            go_meet
            exact ⟨_, _, hW5, hV5, hB5, zz⟩
          by_cases k2 : k = 2
          · subst k2
            obtain ⟨X, Y, E, hT⟩ : ∃ X Y E, nx s e n = (X, Y, E) := ⟨_, _, _, rfl⟩
            have HT := Lib.hid hT
            clear hT
            go_wp2_with fail
            obtain ⟨wd, hwd⟩ : ∃ wd, wd = wr.drew := ⟨_, rfl⟩
            have hWd : Win wd (wa.heap.size + 1) wa.heap.size s e := by rw [hwd]; exact hW
            have hVd : RW wd wb.heap.size s e := by rw [hwd]; exact hV
            have hBd : Below w.heap.size w wd := by rw [hwd]; exact hB.drew
            have hzd : wz.heap.size ≤ wd.heap.size := by rw [hwd]; exact hZ
            clear hW hV hB hZ
            subst hwd
            refine wp_region_noPanic ?_
            refine wp_region_held_drew (S := fun _ => True) (by kernel_rfl) trivial (fun hS => ?_)
            refine wpAnyH_take (i := 0) (oi := ?o1_0) (v := ?v1_0) ?i1_0 (by kernel_rfl) (by kernel_rfl) (by kernel_rfl) (fun _ _ _ h => h) (Or.inl ⟨?g1_0, ?y1_0⟩) hS ?_
            case i1_0 => simp only [List.getElem?_toArray, List.getElem?_cons_succ, List.getElem?_cons_zero]; rfl
            case g1_0 => rfl
            case y1_0 => (intro w hSw; (go_simp <;> with_reducible rfl))
            (try simp only [Act.put, List.setIfInBounds_toArray, List.set_cons_zero, List.set_cons_succ])
            refine wpAnyH_take (i := 1) (oi := ?o1_1) (v := ?v1_1) ?i1_1 (by kernel_rfl) (by kernel_rfl) (by kernel_rfl) (fun _ _ _ h => h) (Or.inl ⟨?g1_1, ?y1_1⟩) hS ?_
            case i1_1 => simp only [List.getElem?_toArray, List.getElem?_cons_succ, List.getElem?_cons_zero]; rfl
            case g1_1 => rfl
            case y1_1 => (intro w hSw; (go_simp <;> with_reducible rfl))
            (try simp only [Act.put, List.setIfInBounds_toArray, List.set_cons_zero, List.set_cons_succ])
            refine wpAnyH_take (i := 4) (oi := ?o1_4) (v := ?v1_4) ?i1_4 (by kernel_rfl) (by kernel_rfl) (by kernel_rfl) (fun _ _ _ h => h) (Or.inl ⟨?g1_4, ?y1_4⟩) hS ?_
            case i1_4 => simp only [List.getElem?_toArray, List.getElem?_cons_succ, List.getElem?_cons_zero]; rfl
            case g1_4 => rfl
            case y1_4 => (intro w hSw; (go_simp <;> with_reducible rfl))
            (try simp only [Act.put, List.setIfInBounds_toArray, List.set_cons_zero, List.set_cons_succ])
            refine wpAnyH_take (i := 5) (oi := ?o1_5) (v := ?v1_5) ?i1_5 (by kernel_rfl) (by kernel_rfl) (by kernel_rfl) (fun _ _ _ h => h) (Or.inl ⟨?g1_5, ?y1_5⟩) hS ?_
            case i1_5 => simp only [List.getElem?_toArray, List.getElem?_cons_succ, List.getElem?_cons_zero]; rfl
            case g1_5 => rfl
            case y1_5 => (intro w hSw; (go_simp <;> with_reducible rfl))
            (try simp only [Act.put, List.setIfInBounds_toArray, List.set_cons_zero, List.set_cons_succ])
            refine wpAnyH_ready (rs := [2]) (by kernel_rfl) (by simp) ?_
            refine AllReadyH.cons (o := ?o1_2) ?i1_2 (fun K hK => ?_) AllReadyH.nil
            case i1_2 => simp only [List.getElem?_toArray, List.getElem?_cons_succ, List.getElem?_cons_zero]; rfl
            rw [if_pos (by rfl)]
            go_simp
            refine (bytes_any _ _ _ _ n _ hWd (by omega)).mono ?_
            rintro r w4 ⟨v4, rfl, hr4, hW4, hg4, hs4⟩
            rw [HT.out] at hr4 hW4
            have hV4 := hVd.grown hg4 (by omega)
            have z4 : wr.drew.heap.size + 1 ≤ w4.heap.size := Nat.le_of_eq hs4.symm
            have hB4 := below_grown hBd hg4 (by omega) (by omega)
            clear hg4 hs4 hWd hVd hBd
            go_wp2_with fail
            refine hK.out _ _ ?s1_2 (fun hS => ?_)
            case s1_2 => (exact hS)
            clear hK K
            (try simp only [Act.put, List.setIfInBounds_toArray, List.set_cons_zero, List.set_cons_succ])
            refine held_more (S' := fun w' => Rd w' wr.drew.heap.size v4 X) (fun _ _ => trivial) _ _ _ _ ?_
            replace hS := hr4
            refine wpAnyH_take (i := 3) (oi := ?o1_3) (v := ?v1_3) ?i1_3 (by kernel_rfl) (by kernel_rfl) (by kernel_rfl) (fun _ _ _ h => h) (Or.inl ⟨?g1_3, ?y1_3⟩) hS ?_
            case i1_3 => simp only [List.getElem?_toArray, List.getElem?_cons_succ, List.getElem?_cons_zero]; rfl
            case g1_3 => rfl
            case y1_3 => (intro w hSw; have hc : (convert 22 9 v4).run Try.prog w = .ok (.string (txt X)) w := str_of hSw; (go_simp <;> with_reducible rfl))
            (try simp only [Act.put, List.setIfInBounds_toArray, List.set_cons_zero, List.set_cons_succ])
            refine wpAnyH_ready (rs := [6]) (by kernel_rfl) (by simp) ?_
            refine AllReadyH.cons (o := ?o1_6) ?i1_6 (fun K hK => ?_) AllReadyH.nil
            case i1_6 => simp only [List.getElem?_toArray, List.getElem?_cons_succ, List.getElem?_cons_zero]; rfl
            rw [if_pos (by rfl)]
            go_simp
            refine (rbytes_any _ _ _ n _ hV4).mono ?_
            rintro r w5 ⟨rfl, hV5, hg5, hs5⟩
            rw [HT.out] at hV5 ⊢
            have hW5 := hW4.grown hg5 (by omega) (by omega)
            have hr5 := hr4.grown hg5 (by omega)
            have z5 : w4.heap.size ≤ w5.heap.size := Nat.le_of_eq hs5.symm
            have hB5 := below_grown hB4 hg5 (by omega) (by omega)
            clear hg5 hs5 hW4 hV4 hB4 hr4
            go_wp2_with fail
            refine hK.out _ _ ?s1_6 (fun hS => ?_)
            case s1_6 => (exact hr5)
            clear hK K
            (try simp only [Act.put, List.setIfInBounds_toArray, List.set_cons_zero, List.set_cons_succ])
            refine wpAnyH_take (i := 7) (oi := ?o1_7) (v := ?v1_7) ?i1_7 (by kernel_rfl) (by kernel_rfl) (by kernel_rfl) (fun _ _ _ h => h) (Or.inl ⟨?g1_7, ?y1_7⟩) hS ?_
            case i1_7 => simp only [List.getElem?_toArray, List.getElem?_cons_succ, List.getElem?_cons_zero]; rfl
            case g1_7 => rfl
            case y1_7 => (intro w hSw; (go_simp <;> with_reducible rfl))
            (try simp only [Act.put, List.setIfInBounds_toArray, List.set_cons_zero, List.set_cons_succ])
            refine wpAnyH_done (by kernel_rfl) ?_ _
            refine NoPanic.normal ?_
            have zz : wz.heap.size ≤ w5.heap.size := by omega
            go_wp2_with fail
            go_meet
            exact ⟨_, _, hW5, hV5, hB5, zz⟩
          by_cases k3 : k = 3
          · subst k3
            obtain ⟨X, Y, E, hT⟩ : ∃ X Y E, nx s e n = (X, Y, E) := ⟨_, _, _, rfl⟩
            obtain ⟨q, X2, E2, hM⟩ : ∃ q X2 E2, nm X E 2 = (q, X2, E2) := ⟨_, _, _, rfl⟩
            have HT := Lib.hid hT
            have HM := Lib.hid hM
            have hsz := txt_size X2
            clear hT hM
            go_wp2_with fail
            refine (sub_any _ _ _ _ n _ hW (by omega)).mono ?_
            rintro r w4 ⟨rfl, hX4, hW4, hg4, hs4⟩
            rw [HT.out] at hX4 hW4
            have hV4 := hV.grown hg4 (by omega)
            have z4 : wr.heap.size + 2 ≤ w4.heap.size := Nat.le_of_eq hs4.symm
            have hB4 := below_grown hB hg4 (by omega) (by omega)
            clear hg4 hs4 hW hV hB
            go_wp2_with fail
            refine (rsub_any _ _ _ n _ hV4).mono ?_
            rintro r w5 ⟨rfl, hY5, hV5, hg5, hs5⟩
            rw [HT.out] at hY5 hV5
            have hW5 := hW4.grown hg5 (by omega) (by omega)
            have hX5 := hX4.grown hg5 (by omega) (by omega)
            have z5 : w4.heap.size + 1 ≤ w5.heap.size := Nat.le_of_eq hs5.symm
            have hB5 := below_grown hB4 hg5 (by omega) (by omega)
            clear hg5 hs5 hW4 hV4 hB4 hX4
            go_wp2_with fail
            obtain ⟨wd, hwd⟩ : ∃ wd, wd = w5.drew := ⟨_, rfl⟩
            have hWd : Win wd (wa.heap.size + 1) wa.heap.size Y E := by rw [hwd]; exact hW5
            have hVd : RW wd wb.heap.size Y E := by rw [hwd]; exact hV5
            have hXd : Win wd (wr.heap.size + 1) wr.heap.size X E := by rw [hwd]; exact hX5
            have hYd : RW wd w4.heap.size X E := by rw [hwd]; exact hY5
            have hBd : Below w.heap.size w wd := by rw [hwd]; exact hB5.drew
            have hzd : w4.heap.size + 1 ≤ wd.heap.size := by rw [hwd]; exact z5
            clear hW5 hV5 hB5 hX5 hY5 z5
            subst hwd
            refine wp_region_noPanic ?_
            refine wp_region_held_drew (S := fun _ => True) (by kernel_rfl) trivial (fun hS => ?_)
            refine wpAnyH_take (i := 0) (oi := ?o2_0) (v := ?v2_0) ?i2_0 (by kernel_rfl) (by kernel_rfl) (by kernel_rfl) (fun _ _ _ h => h) (Or.inl ⟨?g2_0, ?y2_0⟩) hS ?_
            case i2_0 => simp only [List.getElem?_toArray, List.getElem?_cons_succ, List.getElem?_cons_zero]; rfl
            case g2_0 => rfl
            case y2_0 => (intro w hSw; (go_simp <;> with_reducible rfl))
            (try simp only [Act.put, List.setIfInBounds_toArray, List.set_cons_zero, List.set_cons_succ])
            refine wpAnyH_take (i := 2) (oi := ?o2_2) (v := ?v2_2) ?i2_2 (by kernel_rfl) (by kernel_rfl) (by kernel_rfl) (fun _ _ _ h => h) (Or.inl ⟨?g2_2, ?y2_2⟩) hS ?_
            case i2_2 => simp only [List.getElem?_toArray, List.getElem?_cons_succ, List.getElem?_cons_zero]; rfl
            case g2_2 => rfl
            case y2_2 => (intro w hSw; (go_simp <;> with_reducible rfl))
            (try simp only [Act.put, List.setIfInBounds_toArray, List.set_cons_zero, List.set_cons_succ])
            refine wpAnyH_ready (rs := [1]) (by kernel_rfl) (by simp) ?_
            refine AllReadyH.cons (o := ?o2_1) ?i2_1 (fun K hK => ?_) AllReadyH.nil
            case i2_1 => simp only [List.getElem?_toArray, List.getElem?_cons_succ, List.getElem?_cons_zero]; rfl
            rw [if_pos (by rfl)]
            go_simp
            refine (num_any _ _ _ _ 2 _ hXd (by omega)).mono ?_
            rintro r w6 ⟨rfl, hX6, hg6, hs6⟩
            rw [HM.out] at hX6 ⊢
            have hW6 := hWd.grown hg6 (by omega) (by omega)
            have hV6 := hVd.grown hg6 (by omega)
            have hY6 := hYd.grown hg6 (by omega)
            have z6 : w5.drew.heap.size ≤ w6.heap.size := Nat.le_of_eq hs6.symm
            have hB6 := below_grown hBd hg6 (by omega) (by omega)
            clear hg6 hs6 hWd hVd hXd hYd hBd
            go_wp2_with fail
            refine hK.out _ _ ?s2_1 (fun hS => ?_)
            case s2_1 => (exact hS)
            clear hK K
            (try simp only [Act.put, List.setIfInBounds_toArray, List.set_cons_zero, List.set_cons_succ])
            refine wpAnyH_ready (rs := [3]) (by kernel_rfl) (by simp) ?_
            refine AllReadyH.cons (o := ?o2_3) ?i2_3 (fun K hK => ?_) AllReadyH.nil
            case i2_3 => simp only [List.getElem?_toArray, List.getElem?_cons_succ, List.getElem?_cons_zero]; rfl
            rw [if_pos (by rfl)]
            go_simp
            refine (rnum_any _ _ _ 2 _ hY6).mono ?_
            rintro r w7 ⟨rfl, hY7, hg7, hs7⟩
            rw [HM.out] at hY7 ⊢
            have hW7 := hW6.grown hg7 (by omega) (by omega)
            have hV7 := hV6.grown hg7 (by omega)
            have hX7 := hX6.grown hg7 (by omega) (by omega)
            have z7 : w6.heap.size ≤ w7.heap.size := Nat.le_of_eq hs7.symm
            have hB7 := below_grown hB6 hg7 (by omega) (by omega)
            clear hg7 hs7 hW6 hV6 hX6 hY6 hB6
            go_wp2_with fail
            refine hK.out _ _ ?s2_3 (fun hS => ?_)
            case s2_3 => (exact hS)
            clear hK K
            (try simp only [Act.put, List.setIfInBounds_toArray, List.set_cons_zero, List.set_cons_succ])
            refine wpAnyH_take (i := 4) (oi := ?o2_4) (v := ?v2_4) ?i2_4 (by kernel_rfl) (by kernel_rfl) (by kernel_rfl) (fun _ _ _ h => h) (Or.inl ⟨?g2_4, ?y2_4⟩) hS ?_
            case i2_4 => simp only [List.getElem?_toArray, List.getElem?_cons_succ, List.getElem?_cons_zero]; rfl
            case g2_4 => rfl
            case y2_4 => (intro w hSw; (go_simp <;> with_reducible rfl))
            (try simp only [Act.put, List.setIfInBounds_toArray, List.set_cons_zero, List.set_cons_succ])
            refine wpAnyH_take (i := 5) (oi := ?o2_5) (v := ?v2_5) ?i2_5 (by kernel_rfl) (by kernel_rfl) (by kernel_rfl) (fun _ _ _ h => h) (Or.inl ⟨?g2_5, ?y2_5⟩) hS ?_
            case i2_5 => simp only [List.getElem?_toArray, List.getElem?_cons_succ, List.getElem?_cons_zero]; rfl
            case g2_5 => rfl
            case y2_5 => (intro w hSw; (go_simp <;> with_reducible rfl))
            (try simp only [Act.put, List.setIfInBounds_toArray, List.set_cons_zero, List.set_cons_succ])
            refine wpAnyH_take (i := 6) (oi := ?o2_6) (v := ?v2_6) ?i2_6 (by kernel_rfl) (by kernel_rfl) (by kernel_rfl) (fun _ _ _ h => h) (Or.inl ⟨?g2_6, ?y2_6⟩) hS ?_
            case i2_6 => simp only [List.getElem?_toArray, List.getElem?_cons_succ, List.getElem?_cons_zero]; rfl
            case g2_6 => rfl
            case y2_6 => (intro w hSw; (go_simp <;> with_reducible rfl))
            (try simp only [Act.put, List.setIfInBounds_toArray, List.set_cons_zero, List.set_cons_succ])
            refine wpAnyH_take (i := 8) (oi := ?o2_8) (v := ?v2_8) ?i2_8 (by kernel_rfl) (by kernel_rfl) (by kernel_rfl) (fun _ _ _ h => h) (Or.inl ⟨?g2_8, ?y2_8⟩) hS ?_
            case i2_8 => simp only [List.getElem?_toArray, List.getElem?_cons_succ, List.getElem?_cons_zero]; rfl
            case g2_8 => rfl
            case y2_8 => (intro w hSw; (go_simp <;> with_reducible rfl))
            (try simp only [Act.put, List.setIfInBounds_toArray, List.set_cons_zero, List.set_cons_succ])
            refine wpAnyH_take (i := 9) (oi := ?o2_9) (v := ?v2_9) ?i2_9 (by kernel_rfl) (by kernel_rfl) (by kernel_rfl) (fun _ _ _ h => h) (Or.inl ⟨?g2_9, ?y2_9⟩) hS ?_
            case i2_9 => simp only [List.getElem?_toArray, List.getElem?_cons_succ, List.getElem?_cons_zero]; rfl
            case g2_9 => rfl
            case y2_9 => (intro w hSw; (go_simp <;> with_reducible rfl))
            (try simp only [Act.put, List.setIfInBounds_toArray, List.set_cons_zero, List.set_cons_succ])
            refine wpAnyH_take (i := 10) (oi := ?o2_10) (v := ?v2_10) ?i2_10 (by kernel_rfl) (by kernel_rfl) (by kernel_rfl) (fun _ _ _ h => h) (Or.inl ⟨?g2_10, ?y2_10⟩) hS ?_
            case i2_10 => simp only [List.getElem?_toArray, List.getElem?_cons_succ, List.getElem?_cons_zero]; rfl
            case g2_10 => rfl
            case y2_10 => (intro w hSw; (go_simp <;> with_reducible rfl))
            (try simp only [Act.put, List.setIfInBounds_toArray, List.set_cons_zero, List.set_cons_succ])
            refine held_more (S' := fun w' => RW w' w4.heap.size X2 E2) (fun _ _ => trivial) _ _ _ _ ?_
            replace hS := hY7
            refine wpAnyH_take (i := 11) (oi := ?o2_11) (v := ?v2_11) ?i2_11 (by kernel_rfl) (by kernel_rfl) (by kernel_rfl) (fun _ _ _ h => h) (Or.inl ⟨?g2_11, ?y2_11⟩) hS ?_
            case i2_11 => simp only [List.getElem?_toArray, List.getElem?_cons_succ, List.getElem?_cons_zero]; rfl
            case g2_11 => rfl
            case y2_11 => (intro w hSw; have hc := hSw.cell0; (go_simp <;> with_reducible rfl))
            (try simp only [Act.put, List.setIfInBounds_toArray, List.set_cons_zero, List.set_cons_succ])
            refine wpAnyH_take (i := 12) (oi := ?o2_12) (v := ?v2_12) ?i2_12 (by kernel_rfl) (by kernel_rfl) (by kernel_rfl) (fun _ _ _ h => h) (Or.inl ⟨?g2_12, ?y2_12⟩) hS ?_
            case i2_12 => simp only [List.getElem?_toArray, List.getElem?_cons_succ, List.getElem?_cons_zero]; rfl
            case g2_12 => rfl
            case y2_12 => (intro w hSw; (go_simp <;> with_reducible rfl))
            (try simp only [Act.put, List.setIfInBounds_toArray, List.set_cons_zero, List.set_cons_succ])
            refine wpAnyH_ready (rs := [7]) (by kernel_rfl) (by simp) ?_
            refine AllReadyH.cons (o := ?o2_7) ?i2_7 (fun K hK => ?_) AllReadyH.nil
            case i2_7 => simp only [List.getElem?_toArray, List.getElem?_cons_succ, List.getElem?_cons_zero]; rfl
            rw [if_pos (by rfl)]
            go_simp
            refine (left_any _ _ _ _ _ hX7).mono ?_
            rintro r w8 ⟨rfl, rfl⟩
            go_wp2_with fail
            refine hK.out _ _ ?s2_7 (fun hS => ?_)
            case s2_7 => (exact hS)
            clear hK K
            (try simp only [Act.put, List.setIfInBounds_toArray, List.set_cons_zero, List.set_cons_succ])
            refine wpAnyH_take (i := 13) (oi := ?o2_13) (v := ?v2_13) ?i2_13 (by kernel_rfl) (by kernel_rfl) (by kernel_rfl) (fun _ _ _ h => h) (Or.inl ⟨?g2_13, ?y2_13⟩) hS ?_
            case i2_13 => simp only [List.getElem?_toArray, List.getElem?_cons_succ, List.getElem?_cons_zero]; rfl
            case g2_13 => rfl
            case y2_13 => (intro w hSw; (go_simp <;> with_reducible rfl))
            (try simp only [Act.put, List.setIfInBounds_toArray, List.set_cons_zero, List.set_cons_succ])
            refine wpAnyH_take (i := 14) (oi := ?o2_14) (v := ?v2_14) ?i2_14 (by kernel_rfl) (by kernel_rfl) (by kernel_rfl) (fun _ _ _ h => h) (Or.inl ⟨?g2_14, ?y2_14⟩) hS ?_
            case i2_14 => simp only [List.getElem?_toArray, List.getElem?_cons_succ, List.getElem?_cons_zero]; rfl
            case g2_14 => rfl
            case y2_14 => (intro w hSw; (go_simp <;> with_reducible rfl))
            (try simp only [Act.put, List.setIfInBounds_toArray, List.set_cons_zero, List.set_cons_succ])
            refine wpAnyH_take (i := 15) (oi := ?o2_15) (v := ?v2_15) ?i2_15 (by kernel_rfl) (by kernel_rfl) (by kernel_rfl) (fun _ _ _ h => h) (Or.inl ⟨?g2_15, ?y2_15⟩) hS ?_
            case i2_15 => simp only [List.getElem?_toArray, List.getElem?_cons_succ, List.getElem?_cons_zero]; rfl
            case g2_15 => rfl
            case y2_15 => (intro w hSw; (go_simp <;> with_reducible rfl))
            (try simp only [Act.put, List.setIfInBounds_toArray, List.set_cons_zero, List.set_cons_succ])
            refine wpAnyH_take (i := 16) (oi := ?o2_16) (v := ?v2_16) ?i2_16 (by kernel_rfl) (by kernel_rfl) (by kernel_rfl) (fun _ _ _ h => h) (Or.inl ⟨?g2_16, ?y2_16⟩) hS ?_
            case i2_16 => simp only [List.getElem?_toArray, List.getElem?_cons_succ, List.getElem?_cons_zero]; rfl
            case g2_16 => rfl
            case y2_16 => (intro w hSw; (go_simp <;> with_reducible rfl))
            (try simp only [Act.put, List.setIfInBounds_toArray, List.set_cons_zero, List.set_cons_succ])
            refine wpAnyH_take (i := 18) (oi := ?o2_18) (v := ?v2_18) ?i2_18 (by kernel_rfl) (by kernel_rfl) (by kernel_rfl) (fun _ _ _ h => h) (Or.inl ⟨?g2_18, ?y2_18⟩) hS ?_
            case i2_18 => simp only [List.getElem?_toArray, List.getElem?_cons_succ, List.getElem?_cons_zero]; rfl
            case g2_18 => rfl
            case y2_18 => (intro w hSw; (go_simp <;> with_reducible rfl))
            (try simp only [Act.put, List.setIfInBounds_toArray, List.set_cons_zero, List.set_cons_succ])
            refine wpAnyH_take (i := 19) (oi := ?o2_19) (v := ?v2_19) ?i2_19 (by kernel_rfl) (by kernel_rfl) (by kernel_rfl) (fun _ _ _ h => h) (Or.inl ⟨?g2_19, ?y2_19⟩) hS ?_
            case i2_19 => simp only [List.getElem?_toArray, List.getElem?_cons_succ, List.getElem?_cons_zero]; rfl
            case g2_19 => rfl
            case y2_19 => (intro w hSw; (go_simp <;> with_reducible rfl))
            (try simp only [Act.put, List.setIfInBounds_toArray, List.set_cons_zero, List.set_cons_succ])
            refine wpAnyH_take (i := 20) (oi := ?o2_20) (v := ?v2_20) ?i2_20 (by kernel_rfl) (by kernel_rfl) (by kernel_rfl) (fun _ _ _ h => h) (Or.inl ⟨?g2_20, ?y2_20⟩) hS ?_
            case i2_20 => simp only [List.getElem?_toArray, List.getElem?_cons_succ, List.getElem?_cons_zero]; rfl
            case g2_20 => rfl
            case y2_20 => (intro w hSw; (go_simp <;> with_reducible rfl))
            (try simp only [Act.put, List.setIfInBounds_toArray, List.set_cons_zero, List.set_cons_succ])
            refine wpAnyH_take (i := 21) (oi := ?o2_21) (v := ?v2_21) ?i2_21 (by kernel_rfl) (by kernel_rfl) (by kernel_rfl) (fun _ _ _ h => h) (Or.inl ⟨?g2_21, ?y2_21⟩) hS ?_
            case i2_21 => simp only [List.getElem?_toArray, List.getElem?_cons_succ, List.getElem?_cons_zero]; rfl
            case g2_21 => rfl
            case y2_21 => (intro w hSw; have hc := hSw.cell1; (go_simp <;> with_reducible rfl))
            (try simp only [Act.put, List.setIfInBounds_toArray, List.set_cons_zero, List.set_cons_succ])
            refine wpAnyH_ready (rs := [17]) (by kernel_rfl) (by simp) ?_
            refine AllReadyH.cons (o := ?o2_17) ?i2_17 (fun K hK => ?_) AllReadyH.nil
            case i2_17 => simp only [List.getElem?_toArray, List.getElem?_cons_succ, List.getElem?_cons_zero]; rfl
            rw [if_pos (by rfl)]
            go_simp
            refine (err_any _ _ _ _ _ hX7).mono ?_
            rintro r w8 ⟨rfl, rfl⟩
            go_wp2_with fail
            refine hK.out _ _ ?s2_17 (fun hS => ?_)
            case s2_17 => (exact hS)
            clear hK K
            (try simp only [Act.put, List.setIfInBounds_toArray, List.set_cons_zero, List.set_cons_succ])
            refine wpAnyH_take (i := 22) (oi := ?o2_22) (v := ?v2_22) ?i2_22 (by kernel_rfl) (by kernel_rfl) (by kernel_rfl) (fun _ _ _ h => h) (Or.inl ⟨?g2_22, ?y2_22⟩) hS ?_
            case i2_22 => simp only [List.getElem?_toArray, List.getElem?_cons_succ, List.getElem?_cons_zero]; rfl
            case g2_22 => rfl
            case y2_22 => (intro w hSw; (go_simp <;> with_reducible rfl))
            (try simp only [Act.put, List.setIfInBounds_toArray, List.set_cons_zero, List.set_cons_succ])
            refine wpAnyH_take (i := 23) (oi := ?o2_23) (v := ?v2_23) ?i2_23 (by kernel_rfl) (by kernel_rfl) (by kernel_rfl) (fun _ _ _ h => h) (Or.inl ⟨?g2_23, ?y2_23⟩) hS ?_
            case i2_23 => simp only [List.getElem?_toArray, List.getElem?_cons_succ, List.getElem?_cons_zero]; rfl
            case g2_23 => rfl
            case y2_23 => (intro w hSw; (go_simp <;> with_reducible rfl))
            (try simp only [Act.put, List.setIfInBounds_toArray, List.set_cons_zero, List.set_cons_succ])
            refine wpAnyH_done (by kernel_rfl) ?_ _
            refine NoPanic.normal ?_
            have zz : wz.heap.size ≤ w7.heap.size := by omega
            go_wp2_with fail
            go_meet
            exact ⟨_, _, hW7, hV7, hB7, zz⟩
          · have b0 : (k == 0) = false := by simpa using k0
            have b1 : (k == 1) = false := by simpa using k1
            have b2 : (k == 2) = false := by simpa using k2
            have b3 : (k == 3) = false := by simpa using k3
            go_wp2_with fail
            go_meet
            exact ⟨_, _, hW, hV, hB, hZ⟩
        case rest =>
          obtain ⟨s, e, hW, hV, hB, hZ⟩ := hcut
          have hsz := txt_size s
          go_wp2_with fail
          obtain ⟨wd, hwd⟩ : ∃ wd, wd = wc.drew := ⟨_, rfl⟩
          have hWd : Win wd (wa.heap.size + 1) wa.heap.size s e := by rw [hwd]; exact hW
          have hVd : RW wd wb.heap.size s e := by rw [hwd]; exact hV
          have hBd : Below w.heap.size w wd := by rw [hwd]; exact hB.drew
          have hzd : wz.heap.size ≤ wd.heap.size := by rw [hwd]; exact hZ
          clear hW hV hB hZ
          subst hwd
          refine wp_region_noPanic ?_
          refine wp_region_held_drew (S := fun _ => True) (by kernel_rfl) trivial (fun hS => ?_)
          refine wpAnyH_take (i := 0) (oi := ?o3_0) (v := ?v3_0) ?i3_0 (by kernel_rfl) (by kernel_rfl) (by kernel_rfl) (fun _ _ _ h => h) (Or.inl ⟨?g3_0, ?y3_0⟩) hS ?_
          case i3_0 => simp only [List.getElem?_toArray, List.getElem?_cons_succ, List.getElem?_cons_zero]; rfl
          case g3_0 => rfl
          case y3_0 => (intro w hSw; (go_simp <;> with_reducible rfl))
          (try simp only [Act.put, List.setIfInBounds_toArray, List.set_cons_zero, List.set_cons_succ])
          refine wpAnyH_take (i := 2) (oi := ?o3_2) (v := ?v3_2) ?i3_2 (by kernel_rfl) (by kernel_rfl) (by kernel_rfl) (fun _ _ _ h => h) (Or.inl ⟨?g3_2, ?y3_2⟩) hS ?_
          case i3_2 => simp only [List.getElem?_toArray, List.getElem?_cons_succ, List.getElem?_cons_zero]; rfl
          case g3_2 => rfl
          case y3_2 => (intro w hSw; (go_simp <;> with_reducible rfl))
          (try simp only [Act.put, List.setIfInBounds_toArray, List.set_cons_zero, List.set_cons_succ])
          refine wpAnyH_take (i := 3) (oi := ?o3_3) (v := ?v3_3) ?i3_3 (by kernel_rfl) (by kernel_rfl) (by kernel_rfl) (fun _ _ _ h => h) (Or.inl ⟨?g3_3, ?y3_3⟩) hS ?_
          case i3_3 => simp only [List.getElem?_toArray, List.getElem?_cons_succ, List.getElem?_cons_zero]; rfl
          case g3_3 => rfl
          case y3_3 => (intro w hSw; (go_simp <;> with_reducible rfl))
          (try simp only [Act.put, List.setIfInBounds_toArray, List.set_cons_zero, List.set_cons_succ])
          refine wpAnyH_take (i := 4) (oi := ?o3_4) (v := ?v3_4) ?i3_4 (by kernel_rfl) (by kernel_rfl) (by kernel_rfl) (fun _ _ _ h => h) (Or.inl ⟨?g3_4, ?y3_4⟩) hS ?_
          case i3_4 => simp only [List.getElem?_toArray, List.getElem?_cons_succ, List.getElem?_cons_zero]; rfl
          case g3_4 => rfl
          case y3_4 => (intro w hSw; (go_simp <;> with_reducible rfl))
          (try simp only [Act.put, List.setIfInBounds_toArray, List.set_cons_zero, List.set_cons_succ])
          refine held_more (S' := fun w' => RW w' wb.heap.size s e) (fun _ _ => trivial) _ _ _ _ ?_
          replace hS := hVd
          refine wpAnyH_take (i := 5) (oi := ?o3_5) (v := ?v3_5) ?i3_5 (by kernel_rfl) (by kernel_rfl) (by kernel_rfl) (fun _ _ _ h => h) (Or.inl ⟨?g3_5, ?y3_5⟩) hS ?_
          case i3_5 => simp only [List.getElem?_toArray, List.getElem?_cons_succ, List.getElem?_cons_zero]; rfl
          case g3_5 => rfl
          case y3_5 => (intro w hSw; have hc := hSw.cell0; (go_simp <;> with_reducible rfl))
          (try simp only [Act.put, List.setIfInBounds_toArray, List.set_cons_zero, List.set_cons_succ])
          refine wpAnyH_take (i := 6) (oi := ?o3_6) (v := ?v3_6) ?i3_6 (by kernel_rfl) (by kernel_rfl) (by kernel_rfl) (fun _ _ _ h => h) (Or.inl ⟨?g3_6, ?y3_6⟩) hS ?_
          case i3_6 => simp only [List.getElem?_toArray, List.getElem?_cons_succ, List.getElem?_cons_zero]; rfl
          case g3_6 => rfl
          case y3_6 => (intro w hSw; (go_simp <;> with_reducible rfl))
          (try simp only [Act.put, List.setIfInBounds_toArray, List.set_cons_zero, List.set_cons_succ])
          refine wpAnyH_ready (rs := [1]) (by kernel_rfl) (by simp) ?_
          refine AllReadyH.cons (o := ?o3_1) ?i3_1 (fun K hK => ?_) AllReadyH.nil
          case i3_1 => simp only [List.getElem?_toArray, List.getElem?_cons_succ, List.getElem?_cons_zero]; rfl
          rw [if_pos (by rfl)]
          go_simp
          refine (left_any _ _ _ _ _ hWd).mono ?_
          rintro r w8 ⟨rfl, rfl⟩
          go_wp2_with fail
          refine hK.out _ _ ?s3_1 (fun hS => ?_)
          case s3_1 => (exact hS)
          clear hK K
          (try simp only [Act.put, List.setIfInBounds_toArray, List.set_cons_zero, List.set_cons_succ])
          refine wpAnyH_take (i := 7) (oi := ?o3_7) (v := ?v3_7) ?i3_7 (by kernel_rfl) (by kernel_rfl) (by kernel_rfl) (fun _ _ _ h => h) (Or.inl ⟨?g3_7, ?y3_7⟩) hS ?_
          case i3_7 => simp only [List.getElem?_toArray, List.getElem?_cons_succ, List.getElem?_cons_zero]; rfl
          case g3_7 => rfl
          case y3_7 => (intro w hSw; (go_simp <;> with_reducible rfl))
          (try simp only [Act.put, List.setIfInBounds_toArray, List.set_cons_zero, List.set_cons_succ])
          refine wpAnyH_take (i := 8) (oi := ?o3_8) (v := ?v3_8) ?i3_8 (by kernel_rfl) (by kernel_rfl) (by kernel_rfl) (fun _ _ _ h => h) (Or.inl ⟨?g3_8, ?y3_8⟩) hS ?_
          case i3_8 => simp only [List.getElem?_toArray, List.getElem?_cons_succ, List.getElem?_cons_zero]; rfl
          case g3_8 => rfl
          case y3_8 => (intro w hSw; (go_simp <;> with_reducible rfl))
          (try simp only [Act.put, List.setIfInBounds_toArray, List.set_cons_zero, List.set_cons_succ])
          refine wpAnyH_take (i := 9) (oi := ?o3_9) (v := ?v3_9) ?i3_9 (by kernel_rfl) (by kernel_rfl) (by kernel_rfl) (fun _ _ _ h => h) (Or.inl ⟨?g3_9, ?y3_9⟩) hS ?_
          case i3_9 => simp only [List.getElem?_toArray, List.getElem?_cons_succ, List.getElem?_cons_zero]; rfl
          case g3_9 => rfl
          case y3_9 => (intro w hSw; (go_simp <;> with_reducible rfl))
          (try simp only [Act.put, List.setIfInBounds_toArray, List.set_cons_zero, List.set_cons_succ])
          refine wpAnyH_take (i := 11) (oi := ?o3_11) (v := ?v3_11) ?i3_11 (by kernel_rfl) (by kernel_rfl) (by kernel_rfl) (fun _ _ _ h => h) (Or.inl ⟨?g3_11, ?y3_11⟩) hS ?_
          case i3_11 => simp only [List.getElem?_toArray, List.getElem?_cons_succ, List.getElem?_cons_zero]; rfl
          case g3_11 => rfl
          case y3_11 => (intro w hSw; (go_simp <;> with_reducible rfl))
          (try simp only [Act.put, List.setIfInBounds_toArray, List.set_cons_zero, List.set_cons_succ])
          refine wpAnyH_take (i := 12) (oi := ?o3_12) (v := ?v3_12) ?i3_12 (by kernel_rfl) (by kernel_rfl) (by kernel_rfl) (fun _ _ _ h => h) (Or.inl ⟨?g3_12, ?y3_12⟩) hS ?_
          case i3_12 => simp only [List.getElem?_toArray, List.getElem?_cons_succ, List.getElem?_cons_zero]; rfl
          case g3_12 => rfl
          case y3_12 => (intro w hSw; (go_simp <;> with_reducible rfl))
          (try simp only [Act.put, List.setIfInBounds_toArray, List.set_cons_zero, List.set_cons_succ])
          refine wpAnyH_take (i := 13) (oi := ?o3_13) (v := ?v3_13) ?i3_13 (by kernel_rfl) (by kernel_rfl) (by kernel_rfl) (fun _ _ _ h => h) (Or.inl ⟨?g3_13, ?y3_13⟩) hS ?_
          case i3_13 => simp only [List.getElem?_toArray, List.getElem?_cons_succ, List.getElem?_cons_zero]; rfl
          case g3_13 => rfl
          case y3_13 => (intro w hSw; (go_simp <;> with_reducible rfl))
          (try simp only [Act.put, List.setIfInBounds_toArray, List.set_cons_zero, List.set_cons_succ])
          refine wpAnyH_take (i := 14) (oi := ?o3_14) (v := ?v3_14) ?i3_14 (by kernel_rfl) (by kernel_rfl) (by kernel_rfl) (fun _ _ _ h => h) (Or.inl ⟨?g3_14, ?y3_14⟩) hS ?_
          case i3_14 => simp only [List.getElem?_toArray, List.getElem?_cons_succ, List.getElem?_cons_zero]; rfl
          case g3_14 => rfl
          case y3_14 => (intro w hSw; have hc := hSw.cell1; (go_simp <;> with_reducible rfl))
          (try simp only [Act.put, List.setIfInBounds_toArray, List.set_cons_zero, List.set_cons_succ])
          refine wpAnyH_ready (rs := [10]) (by kernel_rfl) (by simp) ?_
          refine AllReadyH.cons (o := ?o3_10) ?i3_10 (fun K hK => ?_) AllReadyH.nil
          case i3_10 => simp only [List.getElem?_toArray, List.getElem?_cons_succ, List.getElem?_cons_zero]; rfl
          rw [if_pos (by rfl)]
          go_simp
          refine (err_any _ _ _ _ _ hWd).mono ?_
          rintro r w8 ⟨rfl, rfl⟩
          go_wp2_with fail
          refine hK.out _ _ ?s3_10 (fun hS => ?_)
          case s3_10 => (exact hS)
          clear hK K
          (try simp only [Act.put, List.setIfInBounds_toArray, List.set_cons_zero, List.set_cons_succ])
          refine wpAnyH_take (i := 15) (oi := ?o3_15) (v := ?v3_15) ?i3_15 (by kernel_rfl) (by kernel_rfl) (by kernel_rfl) (fun _ _ _ h => h) (Or.inl ⟨?g3_15, ?y3_15⟩) hS ?_
          case i3_15 => simp only [List.getElem?_toArray, List.getElem?_cons_succ, List.getElem?_cons_zero]; rfl
          case g3_15 => rfl
          case y3_15 => (intro w hSw; (go_simp <;> with_reducible rfl))
          (try simp only [Act.put, List.setIfInBounds_toArray, List.set_cons_zero, List.set_cons_succ])
          refine wpAnyH_take (i := 16) (oi := ?o3_16) (v := ?v3_16) ?i3_16 (by kernel_rfl) (by kernel_rfl) (by kernel_rfl) (fun _ _ _ h => h) (Or.inl ⟨?g3_16, ?y3_16⟩) hS ?_
          case i3_16 => simp only [List.getElem?_toArray, List.getElem?_cons_succ, List.getElem?_cons_zero]; rfl
          case g3_16 => rfl
          case y3_16 => (intro w hSw; (go_simp <;> with_reducible rfl))
          (try simp only [Act.put, List.setIfInBounds_toArray, List.set_cons_zero, List.set_cons_succ])
          refine wpAnyH_take (i := 17) (oi := ?o3_17) (v := ?v3_17) ?i3_17 (by kernel_rfl) (by kernel_rfl) (by kernel_rfl) (fun _ _ _ h => h) (Or.inl ⟨?g3_17, ?y3_17⟩) hS ?_
          case i3_17 => simp only [List.getElem?_toArray, List.getElem?_cons_succ, List.getElem?_cons_zero]; rfl
          case g3_17 => rfl
          case y3_17 => (intro w hSw; (go_simp <;> with_reducible rfl))
          (try simp only [Act.put, List.setIfInBounds_toArray, List.set_cons_zero, List.set_cons_succ])
          refine wpAnyH_take (i := 18) (oi := ?o3_18) (v := ?v3_18) ?i3_18 (by kernel_rfl) (by kernel_rfl) (by kernel_rfl) (fun _ _ _ h => h) (Or.inl ⟨?g3_18, ?y3_18⟩) hS ?_
          case i3_18 => simp only [List.getElem?_toArray, List.getElem?_cons_succ, List.getElem?_cons_zero]; rfl
          case g3_18 => rfl
          case y3_18 => (intro w hSw; (go_simp <;> with_reducible rfl))
          (try simp only [Act.put, List.setIfInBounds_toArray, List.set_cons_zero, List.set_cons_succ])
          refine wpAnyH_take (i := 20) (oi := ?o3_20) (v := ?v3_20) ?i3_20 (by kernel_rfl) (by kernel_rfl) (by kernel_rfl) (fun _ _ _ h => h) (Or.inl ⟨?g3_20, ?y3_20⟩) hS ?_
          case i3_20 => simp only [List.getElem?_toArray, List.getElem?_cons_succ, List.getElem?_cons_zero]; rfl
          case g3_20 => rfl
          case y3_20 => (intro w hSw; (go_simp <;> with_reducible rfl))
          (try simp only [Act.put, List.setIfInBounds_toArray, List.set_cons_zero, List.set_cons_succ])
          refine wpAnyH_ready (rs := [19]) (by kernel_rfl) (by simp) ?_
          refine AllReadyH.cons (o := ?o3_19) ?i3_19 (fun K hK => ?_) AllReadyH.nil
          case i3_19 => simp only [List.getElem?_toArray, List.getElem?_cons_succ, List.getElem?_cons_zero]; rfl
          rw [if_pos (by rfl)]
          go_simp
          refine (end_any _ _ _ _ _ hWd).mono ?_
          rintro r w8 ⟨rfl, rfl⟩
          go_wp2_with fail
          refine hK.out _ _ ?s3_19 (fun hS => ?_)
          case s3_19 => (exact hS)
          clear hK K
          (try simp only [Act.put, List.setIfInBounds_toArray, List.set_cons_zero, List.set_cons_succ])
          refine wpAnyH_ready (rs := [21]) (by kernel_rfl) (by simp) ?_
          refine AllReadyH.cons (o := ?o3_21) ?i3_21 (fun K hK => ?_) AllReadyH.nil
          case i3_21 => simp only [List.getElem?_toArray, List.getElem?_cons_succ, List.getElem?_cons_zero]; rfl
          rw [if_pos (by rfl)]
          go_simp
          refine (rend_any _ _ _ _ hVd).mono ?_
          rintro r w8 ⟨rfl, rfl⟩
          go_wp2_with fail
          refine hK.out _ _ ?s3_21 (fun hS => ?_)
          case s3_21 => (exact hS)
          clear hK K
          (try simp only [Act.put, List.setIfInBounds_toArray, List.set_cons_zero, List.set_cons_succ])
          refine wpAnyH_take (i := 22) (oi := ?o3_22) (v := ?v3_22) ?i3_22 (by kernel_rfl) (by kernel_rfl) (by kernel_rfl) (fun _ _ _ h => h) (Or.inl ⟨?g3_22, ?y3_22⟩) hS ?_
          case i3_22 => simp only [List.getElem?_toArray, List.getElem?_cons_succ, List.getElem?_cons_zero]; rfl
          case g3_22 => rfl
          case y3_22 => (intro w hSw; (go_simp <;> with_reducible rfl))
          (try simp only [Act.put, List.setIfInBounds_toArray, List.set_cons_zero, List.set_cons_succ])
          refine wpAnyH_take (i := 23) (oi := ?o3_23) (v := ?v3_23) ?i3_23 (by kernel_rfl) (by kernel_rfl) (by kernel_rfl) (fun _ _ _ h => h) (Or.inl ⟨?g3_23, ?y3_23⟩) hS ?_
          case i3_23 => simp only [List.getElem?_toArray, List.getElem?_cons_succ, List.getElem?_cons_zero]; rfl
          case g3_23 => rfl
          case y3_23 => (intro w hSw; (go_simp <;> with_reducible rfl))
          (try simp only [Act.put, List.setIfInBounds_toArray, List.set_cons_zero, List.set_cons_succ])
          refine wpAnyH_done (by kernel_rfl) ?_ _
          refine NoPanic.normal ?_
          go_wp2
          go_roundw
          case rel => exact ⟨j + 1, s, e, by omega, by go_num, hWd, hVd, hBd, hzd⟩
          case measure => simp [intOf]; omega
      · go_wp2_with fail
        refine (left_nil _).mono ?_
        rintro r w4 ⟨rfl, rfl⟩
        go_wp2_with fail
        refine (byte_nil _).mono ?_
        rintro r w4 ⟨rfl, rfl⟩
        go_wp2_with fail
        refine (num_nil _ _).mono ?_
        rintro r w4 ⟨rfl, rfl⟩
        go_wp2_with fail
        refine (bytes_nil _ _).mono ?_
        rintro r w4 ⟨rfl, hb4, hs4⟩
        have hB4 := hB.trans (hb4.mono hB.size)
        clear hb4 hs4
        go_wp2_with fail
        refine (sub_nil _ _).mono ?_
        rintro r w5 ⟨rfl, hw5, hb5, hs5⟩
        have hB5 := hB4.trans (hb5.mono hB4.size)
        clear hb5 hs5
        go_wp2_with fail
        refine (err_any _ _ _ _ _ hw5).mono ?_
        rintro r w6 ⟨rfl, rfl⟩
        go_wp2_with fail
        refine (err_nil _).mono ?_
        rintro r w6 ⟨rfl, rfl⟩
        go_wp2_with fail
        refine (end_nil _).mono ?_
        rintro r w6 ⟨rfl, rfl⟩
        go_wp2
        go_ret
        exact ⟨rfl, hB5⟩

end Go.Proofs.Ytkajlicppdfegaa
