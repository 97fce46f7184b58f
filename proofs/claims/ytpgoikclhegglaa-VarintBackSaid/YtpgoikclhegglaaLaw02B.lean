/-
  The walk of the law VarintBack: it answers true, for all numbers, and writes nothing that was there. No condition.
-/
import Derived.Test.YtpgoikclhegglaaLaw02A
namespace Go.Proofs.Ytpgoikclhegglaa
open Go.RowKit
set_option linter.unusedSimpArgs false

/-- The bytes of numbers, one behind the other. -/
def vrow (xs : List Nat) : List UInt8 := (xs.map (encV 9)).flatten
theorem vrow_cons (x : Nat) (xs : List Nat) : vrow (x :: xs) = encV 9 x ++ vrow xs := rfl
theorem vrow_snoc (xs : List Nat) (x : Nat) : vrow (xs ++ [x]) = vrow xs ++ encV 9 x := by simp [vrow]
theorem vrow_length (xs : List Nat) : (vrow xs).length ≤ 10 * xs.length := by
  induction xs with
  | nil => simp [vrow]
  | cons x xs ih =>
    rw [vrow_cons, List.length_append, List.length_cons]
    have := (encV_length 9 x).2
    omega

theorem RdN.at {k : IntKind} {w : World} {d : Nat} {v : Value} {xs : List Nat} (h : RdN k w d v xs) {j : Nat} (hj : j < xs.length) :
    ∃ off c x, v = .slice (some ⟨d, off, none⟩) xs.length c ∧ xs[j]? = some x ∧ d < w.heap.size ∧ w.cell? ⟨d, off + j, none⟩ = some (.int k (x : Int)) := by
  obtain ⟨A, c, rfl, _, h2⟩ := h
  obtain ⟨hlt, off, rfl, hc⟩ := h2 (by omega)
  exact ⟨off, c, xs[j], rfl, List.getElem?_eq_getElem hj, hlt, hc j _ (List.getElem?_eq_getElem hj)⟩

set_option maxRecDepth 100000 in
set_option maxHeartbeats 8000000 in
theorem varintBack_walk (a0 : Option Addr) (len0 cap0 : Nat) (z0 : List Int) (w : World) (w0 : IsRow .u64 w a0 len0 cap0 z0) :
    Calls Try.prog 5 #[.slice a0 len0 cap0] w fun e w' => e = .returned (.bool true) ∧ Below w.heap.size w w' := by
  obtain ⟨d0, xs, rfl, hx, hr0⟩ := w0.rdN (M := 18446744073709551616) (fun n h => by have := bounds_u64 h; omega)
  clear w0
  by_cases h60 : 60 < xs.length
  · go_enter Try.func5, Try.ntmps5
    go_wp2_with fail
    refine (awake2_any _).mono ?_
    rintro r w1 ⟨rfl, hB1⟩
    go_wp2
    go_ret
    exact ⟨rfl, hB1⟩
  · have h61 : decide ((60 : Int) < (xs.length : Int)) = false := by simp; omega
    have hN : xs.length ≤ 60 := by omega
    clear h60
    have HX := Lib.hid hx
    clear hx
    go_enter Try.func5, Try.ntmps5
    go_wp2_with fail
    refine (awake2_any _).mono ?_
    rintro r w1 ⟨rfl, hB1⟩
    have hr0' := hr0.below hB1
    clear hr0
    go_wp2
    go_loopw [4, 5] (fun v i wr => ∃ j : Nat, j ≤ xs.length ∧ i = .int .i64 j ∧ Own wr w1.heap.size v (vrow (xs.take j)) ∧ Below w1.heap.size w1 wr) (fun _ i _ => xs.length - (intOf i).toNat)
    case atStart => exact ⟨0, Nat.zero_le _, rfl, Own.nil _ _, Below.refl _ _⟩
    case round =>
      obtain ⟨j, hj, rfl, hown, hb⟩ := hrel
      by_cases hlt : j < xs.length
      · obtain ⟨off0, c0, x, he0, hxj, hlt0, hcx⟩ := hr0'.at hlt
        injection he0 with e1 e2 e3
        subst e1 e3
        have hcx' : wr.cell? ⟨d0, off0 + j, none⟩ = some (.int .u64 (x : Int)) := (hb.cell (p := ⟨d0, off0 + j, none⟩) hlt0).trans hcx
        have hx64 : x < 18446744073709551616 := HX.out x (List.mem_of_getElem? hxj)
        have i1 : (0 : Int) ≤ (j : Int) := by omega
        have i2 : (j : Int) < (xs.length : Int) := by omega
        obtain ⟨P, hP⟩ : ∃ P, P = encV 9 x := ⟨_, rfl⟩
        have hPl : 1 ≤ P.length ∧ P.length ≤ 10 := by rw [hP]; exact encV_length 9 x
        obtain ⟨hP1, hP10⟩ := hPl
        have hsn : vrow (xs.take (j + 1)) = vrow (xs.take j) ++ P := by
          rw [List.take_succ_eq_append_getElem hlt, vrow_snoc, hP]
          rw [List.getElem?_eq_getElem hlt] at hxj
          injection hxj with hxj
          rw [hxj]
        have hvl : (vrow (xs.take j)).length ≤ 600 := by
          have h1 := vrow_length (xs.take j)
          have h2 : (xs.take j).length ≤ xs.length := by rw [List.length_take]; omega
          omega
        have HSN := Lib.hid hsn
        have HP := Lib.hid hP
        have HX64 := Lib.hid hx64
        clear hcx hxj hsn hP e2 hx64
        go_wp2_with fail
        refine (put_any x HX64.out _).mono ?_
        rintro r w6 ⟨v6, d6, rfl, hr6, hd6, hb6⟩
        rw [← HP.out] at hr6
        have hown6 := hown.below hb6
        have hbw6 := hb.trans (hb6.mono hb.size)
        have hcx6 : w6.cell? ⟨d0, off0 + j, none⟩ = some (.int .u64 (x : Int)) := (hb6.cell (p := ⟨d0, off0 + j, none⟩) (Nat.lt_of_lt_of_le hlt0 hb.size)).trans hcx'
        have hdl := hr6.lt hP1
        obtain ⟨A6, c6, rfl⟩ := hr6.shape2
        clear hb6 hown hcx' hb
        go_wp2_with fail
        refine (len_any x HX64.out _).mono ?_
        rintro r w7 ⟨rfl, hb7⟩
        rw [← HP.out]
        have hown7 := hown6.below hb7
        have hbw7 := hbw6.trans (hb7.mono hbw6.size)
        have hr7 := hr6.below' hb7
        clear hb7 hr6 hown6 hcx6 hbw6 hdl hd6
        go_wp2_with (at_builtin; refine wpList_append_rd rfl (.tmp 52) (.tmp 53) rfl rfl w1.heap.size _ (vrow (xs.take j)) rfl hown7 _ _ P rfl hr7 ?h1 ?h2 ?_)
        case h1 => omega
        case h2 => exact hbw7.size
        intro v8 w8 hap
        have hb8 := hap.below hown7 hbw7.size
        have hown8 : Own w8 w1.heap.size v8 (vrow (xs.take (j + 1))) := by rw [HSN.out]; exact hap.1
        have hbw8 := hbw7.trans hb8
        clear hap hb8 hbw7 hown7 hr7
        go_wp2
        go_roundw
        case rel => exact ⟨j + 1, by omega, by go_num, hown8, hbw8⟩
        case measure => simp [intOf]; omega
      · obtain rfl : j = xs.length := by omega
        rw [List.take_of_length_le (Nat.le_refl _)] at hown
        have hvl := vrow_length xs
        obtain ⟨dB, hdB, hrB⟩ := hown.rd' (by omega)
        have hB2 : Below w.heap.size w wr := hB1.trans (hb.mono hB1.size)
        have ZB2 := hB2.size
        have hr02 := hr0'.below hb
        obtain ⟨AB, cB, rfl⟩ := hrB.shape2
        clear hown hb hr0' hB1
        go_wp2_with fail
        refine (open_any _ _ _ _ hrB).mono ?_
        rintro r w2 ⟨rfl, hW2, hA2, hs2⟩
        have hB3 := hB2.trans (hA2.mono hB2.size)
        have hr03 := hr02.below hA2
        have HD0 : Hid (0 < xs.length → d0 < wr.heap.size) := Lib.hid (fun hp => (hr02.at hp).choose_spec.choose_spec.choose_spec.2.2.1)
        have Z2 : wr.heap.size + 2 ≤ w2.heap.size := Nat.le_of_eq hs2.symm
        clear hA2 hs2 hrB hr02 hB2
        obtain ⟨wo, rfl⟩ : ∃ wo : World, wo = wr := ⟨_, rfl⟩
        go_wp2
        go_loopw [8] (fun i wq => ∃ j : Nat, j ≤ xs.length ∧ i = .int .i64 j ∧ Win wq (wo.heap.size + 1) wo.heap.size (vrow (xs.drop j)) 0 ∧ w2.grownBy wq (some (wo.heap.size + 1))) (fun i _ => xs.length - (intOf i).toNat)
        case atStart => exact ⟨0, Nat.zero_le _, rfl, hW2, World.grownBy.refl w2 _⟩
        case round =>
          obtain ⟨j, hj2, rfl, hW, hg⟩ := hrel
          have Zr : wo.heap.size + 2 ≤ wr.heap.size := Nat.le_trans Z2 hg.size
          by_cases hlt : j < xs.length
          · obtain ⟨off0, c0, x, he0, hxj, hlt0, hcx⟩ := hr03.at hlt
            injection he0 with e1 e2 e3
            subst e1 e3
            have hdd : d0 < wo.heap.size := HD0.out (by omega)
            have hx64 : x < 18446744073709551616 := HX.out x (List.mem_of_getElem? hxj)
            have i1 : (0 : Int) ≤ (j : Int) := by omega
            have i2 : (j : Int) < (xs.length : Int) := by omega
            have hdr : xs.drop j = x :: xs.drop (j + 1) := by
              rw [List.drop_eq_getElem_cons hlt]
              rw [List.getElem?_eq_getElem hlt] at hxj
              injection hxj with hxj
              rw [hxj]
            rw [hdr, vrow_cons] at hW
            have hgv := getV_enc x hx64 (vrow (xs.drop (j + 1)))
            have hcx' : wr.cell? ⟨d0, off0 + j, none⟩ = some (.int .u64 (x : Int)) := hg.cell hcx (by intro e; injection e with e; simp at e; omega)
            have HC := Lib.hid (take_at _ _ _ _ _ _ hgv wr hW (by omega) (by omega))
            clear hcx hxj hdr hx64 e2 hgv
            go_wp2_with fail
            refine HC.out.mono ?_
            rintro r w9 ⟨rfl, hW9, hg9⟩
            rw [List.drop_left] at hW9
            have hgq := hg.trans hg9
            have hcx9 : w9.cell? ⟨d0, off0 + j, none⟩ = some (.int .u64 (x : Int)) := hg9.cell hcx' (by intro e; injection e with e; simp at e; omega)
            clear hg hg9 hcx' hW
            go_wp2
            go_roundw
            case rel => exact ⟨j + 1, by omega, by go_num, hW9, hgq⟩
            case measure => simp [intOf]; omega
          · obtain rfl : j = xs.length := by omega
            rw [List.drop_of_length_le (Nat.le_refl _)] at hW
            have hB4 : Below w.heap.size w wr := below_grown2 hB3 hg (by omega) (by omega)
            go_wp2_with fail
            refine (take_at _ _ [] 0 0 10 (by decide) wr hW (by omega) (by omega)).mono ?_
            rintro r w9 ⟨rfl, hW9, hg9⟩
            have hB9 : Below w.heap.size w w9 := below_grown2 hB4 hg9 (by omega) (by omega)
            have hgq := hg.trans hg9
            have hrQ := hr03.grown hgq (fun h => by have := HD0.out h; omega)
            have ZB9 := hB9.size
            clear hg hg9 hW hB4 hgq hr03 hB3
            go_wp2_with fail
            refine (left_any _ _ _ _ _ hW9).mono ?_
            rintro r w10 ⟨rfl, rfl⟩
            go_wp2_with fail
            refine (err_any _ _ _ _ _ hW9).mono ?_
            rintro r w10 ⟨rfl, rfl⟩
            clear hW9
            by_cases h0 : xs.length = 0
            · have HB := Lib.hid hB9
              clear hB9
              go_wp2
              go_ret
              exact ⟨rfl, HB.out⟩
            · have hne : ((xs.length : Int) == 0) = false := beq_eq_false_iff_ne.2 (by omega)
              obtain ⟨off0, c0, x, he0, hxj, hlt0, hcx⟩ := hrQ.at (show xs.length - 1 < xs.length by omega)
              injection he0 with e1 e2 e3
              subst e1 e3
              have hx64 : x < 18446744073709551616 := HX.out x (List.mem_of_getElem? hxj)
              obtain ⟨m, hm⟩ : ∃ m : Nat, m = xs.length - 1 := ⟨_, rfl⟩
              have hmI : (xs.length : Int) - 1 = (m : Int) := by omega
              have hm0 : m < xs.length := by omega
              rw [← hm] at hcx
              have HX64 := Lib.hid hx64
              clear hxj e2 hx64 h0 hm hrQ
              go_wp2_with fail
              refine (put_any x HX64.out _).mono ?_
              rintro r w11 ⟨v6, d6, rfl, hr6, hd6, hb6⟩
              have hB11 := hB9.trans (hb6.mono hB9.size)
              have hlen := encV_length 9 x
              obtain ⟨A6, c6, rfl⟩ := hr6.shape2
              obtain ⟨q, hq⟩ : ∃ q, q = (encV 9 x).length - 1 := ⟨_, rfl⟩
              obtain ⟨vs, hsl, hrs⟩ := slice_to hr6 q (((encV 9 x).length : Int) - 1) (by omega) (by omega)
              have hgs : (encV 9 x).take q = (encV 9 x).dropLast := by rw [List.dropLast_eq_take, hq]
              rw [hgs] at hrs
              have HG := Lib.hid (get_at _ _ _ (.returned (.tuple #[.int .u64 0, .int .i64 0, .int .i64 10])) _ hrs (by rw [getV_short x HX64.out]; rfl))
              clear hgs hrs hr6 hb6 hd6 hB9 hcx hmI hq
              go_wp2_with fail
              refine HG.out.mono ?_
              rintro r w12 ⟨rfl, rfl⟩
              have HB := Lib.hid hB11
              clear hB11
              go_wp2
              go_ret
              exact ⟨rfl, HB.out⟩

end Go.Proofs.Ytpgoikclhegglaa
