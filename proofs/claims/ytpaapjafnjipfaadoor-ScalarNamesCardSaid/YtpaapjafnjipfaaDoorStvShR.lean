/-
  scalar.ShowRate. No condition but those of each theorem.
-/
import Derived.Test.YtpaapjafnjipfaaDoorStvRte
import Derived.Test.YtpaapjafnjipfaaDoorDrawn
namespace Go.Proofs.YtpaapjafnjipfaaDoor
open Go.RowKit
set_option linter.unusedSimpArgs false
set_option linter.unusedVariables false

def ShRateP (x : Nat) (w : World) (r : Ending) (w' : World) : Prop := r = .returned (.string (txt (showRateX x))) ∧ Below w.heap.size w w'
set_option maxHeartbeats 4000000 in
set_option maxRecDepth 100000 in
theorem shrate_m (x : Nat) (hx : x < 18446744073709551616) (h1 : 0 < x ∧ x % 1000000 = 0) (w : World) (hT : Tab6 w) : Calls Tryd.prog 15 #[.int .u64 (x : Int)] w (ShRateP x w) := by
  obtain ⟨p, hp⟩ : ∃ p, p = x / 1000000 := ⟨_, rfl⟩
  have HV : Hid (showRateX x = dec p ++ [109]) := Lib.hid (by unfold showRateX; rw [if_pos h1, hp])
  have a1 : (x : Int) / 1000000 = (p : Int) := by omega
  have a3 : (x : Int).tdiv 1000000 = (p : Int) := by rw [Int.tdiv_eq_ediv_of_nonneg (by omega)]; omega
  have z1 : (txt (dec p)).size ≤ 20 := by rw [txt_size]; exact dec_len20 (by omega)
  have cat : txt (dec p) ++ (ByteArray.mk #[109]) = txt (dec p ++ [109]) := txt_catS _ [109]
  have n0 : ((x : Int) == 0) = false := beq_eq_false_iff_ne.2 (by omega)
  have n1 : ((x : Int) != 0) = true := by unfold bne; rw [n0]; rfl
  have b1000000 : (x : Int) % 1000000 = 0 := by omega
  have c1000000 : (x : Int).tmod 1000000 = 0 := by rw [Int.tmod_eq_emod_of_nonneg (by omega)]; omega
  clear hp h1
  have HT := Lib.hid hT
  have u0 := hT.u0
  have u1 := hT.u1
  have u2 := hT.u2
  have u3 := hT.u3
  have e0 := unit_at0
  have e1 := unit_at1
  clear hT
  go_enter Tryd.func15, Tryd.ntmps15
  go_wp2
  go_loopw [6] (fun i wr => i = .int .i64 0 ∧ Below w.heap.size w wr) (fun i _ => 0 - (intOf i).toNat)
  case atStart => exact ⟨rfl, Below.refl _ _⟩
  case round =>
    obtain ⟨hi, hB⟩ := hrel
    have HB := Lib.hid hB
    clear hB
    obtain rfl := hi
    have HB1 : Hid (Below w.heap.size w (wr.alloc (.cells #[.int .u64 1000000, .string ⟨#[109]⟩] 37))) := Lib.hid (HB.out.alloc HB.out.size _)
    have hc0 : (wr.alloc (.cells #[.int .u64 1000000, .string ⟨#[109]⟩] 37)).drew.cell? ⟨wr.heap.size, 0, none⟩ = some (.int .u64 1000000) := by rw [World.cell?_drew, World.cell?_alloc_new]; rfl
    have hc1 : (wr.alloc (.cells #[.int .u64 1000000, .string ⟨#[109]⟩] 37)).drew.cell? ⟨wr.heap.size, 1, none⟩ = some (.string ⟨#[109]⟩) := by rw [World.cell?_drew, World.cell?_alloc_new]; rfl
    have HC := Lib.hid (shows_any p (by omega) (wr.alloc (.cells #[.int .u64 1000000, .string ⟨#[109]⟩] 37)).drew (HT.out.below HB1.out.drew))
    have hlt : wr.heap.size < (wr.alloc (.cells #[.int .u64 1000000, .string ⟨#[109]⟩] 37)).drew.heap.size := by show wr.heap.size < (wr.alloc (.cells #[.int .u64 1000000, .string ⟨#[109]⟩] 37)).heap.size; simp
    have HK := Lib.hid (And.intro hc0 (And.intro hc1 (And.intro hlt HB1.out.drew)))
    have HN : Hid (¬ 9223372036854775807 < (txt (dec p)).size + 1) := Lib.hid (by omega)
    have HW : Hid (IntKind.u64.wrap (p : Int) = (p : Int)) := Lib.hid (by rw [IntKind.wrap_u64]; omega)
    clear hc0 hc1 hlt HB1 HT
    go_wp2_with fail
    refine wp_region_noPanic ?_
    refine wp_region_held_drew (S := fun _ => True) (by kernel_rfl) trivial (fun hS => ?_)
    refine wpAnyH_take (i := 0) (oi := ?o1_0_1) (v := ?v1_0_1) ?i1_0_1 (by kernel_rfl) (by kernel_rfl) (by kernel_rfl) (fun _ _ _ h => h) (Or.inl ⟨?g1_0_1, ?y1_0_1⟩) hS ?_
    case i1_0_1 => simp only [List.getElem?_toArray, List.getElem?_cons_succ, List.getElem?_cons_zero]; rfl
    case g1_0_1 => rfl
    case y1_0_1 => (intro w hSw; (go_simp <;> with_reducible rfl))
    (try simp only [Act.put, List.setIfInBounds_toArray, List.set_cons_zero, List.set_cons_succ])
    refine wpAnyH_take (i := 1) (oi := ?o1_1_2) (v := ?v1_1_2) ?i1_1_2 (by kernel_rfl) (by kernel_rfl) (by kernel_rfl) (fun _ _ _ h => h) (Or.inl ⟨?g1_1_2, ?y1_1_2⟩) hS ?_
    case i1_1_2 => simp only [List.getElem?_toArray, List.getElem?_cons_succ, List.getElem?_cons_zero]; rfl
    case g1_1_2 => rfl
    case y1_1_2 => (intro w hSw; (go_simp <;> with_reducible rfl))
    (try simp only [Act.put, List.setIfInBounds_toArray, List.set_cons_zero, List.set_cons_succ])
    refine held_more (S' := fun w' => w'.cell? ⟨wr.heap.size, 0, none⟩ = some (.int .u64 1000000) ∧ w'.cell? ⟨wr.heap.size, 1, none⟩ = some (.string ⟨#[109]⟩)) (fun _ _ => trivial) _ _ _ _ ?_
    replace hS := And.intro HK.out.1 HK.out.2.1
    refine wpAnyH_take (i := 2) (oi := ?o1_2_3) (v := ?v1_2_3) ?i1_2_3 (by kernel_rfl) (by kernel_rfl) (by kernel_rfl) (fun _ _ _ h => h) (Or.inl ⟨?g1_2_3, ?y1_2_3⟩) hS ?_
    case i1_2_3 => simp only [List.getElem?_toArray, List.getElem?_cons_succ, List.getElem?_cons_zero]; rfl
    case g1_2_3 => rfl
    case y1_2_3 => (intro w hSw; have hc := hSw.1; (go_simp <;> with_reducible rfl))
    (try simp only [Act.put, List.setIfInBounds_toArray, List.set_cons_zero, List.set_cons_succ])
    refine wpAnyH_take (i := 3) (oi := ?o1_3_4) (v := ?v1_3_4) ?i1_3_4 (by kernel_rfl) (by kernel_rfl) (by kernel_rfl) (fun _ _ _ h => h) (Or.inl ⟨?g1_3_4, ?y1_3_4⟩) hS ?_
    case i1_3_4 => simp only [List.getElem?_toArray, List.getElem?_cons_succ, List.getElem?_cons_zero]; rfl
    case g1_3_4 => rfl
    case y1_3_4 => (intro w hSw; (go_simp <;> with_reducible rfl))
    (try simp only [Act.put, List.setIfInBounds_toArray, List.set_cons_zero, List.set_cons_succ])
    refine wpAnyH_take (i := 5) (oi := ?o1_5_5) (v := ?v1_5_5) ?i1_5_5 (by kernel_rfl) (by kernel_rfl) (by kernel_rfl) (fun _ _ _ h => h) (Or.inl ⟨?g1_5_5, ?y1_5_5⟩) hS ?_
    case i1_5_5 => simp only [List.getElem?_toArray, List.getElem?_cons_succ, List.getElem?_cons_zero]; rfl
    case g1_5_5 => rfl
    case y1_5_5 => (intro w hSw; (go_simp <;> with_reducible rfl))
    (try simp only [Act.put, List.setIfInBounds_toArray, List.set_cons_zero, List.set_cons_succ])
    refine wpAnyH_take (i := 6) (oi := ?o1_6_6) (v := ?v1_6_6) ?i1_6_6 (by kernel_rfl) (by kernel_rfl) (by kernel_rfl) (fun _ _ _ h => h) (Or.inl ⟨?g1_6_6, ?y1_6_6⟩) hS ?_
    case i1_6_6 => simp only [List.getElem?_toArray, List.getElem?_cons_succ, List.getElem?_cons_zero]; rfl
    case g1_6_6 => rfl
    case y1_6_6 => (intro w hSw; have hc := hSw.2; (go_simp <;> with_reducible rfl))
    (try simp only [Act.put, List.setIfInBounds_toArray, List.set_cons_zero, List.set_cons_succ])
    refine wpAnyH_ready (rs := [4]) (by kernel_rfl) (by simp) ?_
    refine (AllReadyH.cons (o := ?o1_7_4) ?i1_7_4 (fun K hK => ?st1_7_4) AllReadyH.nil)
    case i1_7_4 => simp only [List.getElem?_toArray, List.getElem?_cons_succ, List.getElem?_cons_zero]; rfl
    rw [if_pos (by rfl)]
    have hwk := HW.out
    go_simp
    clear hwk
    refine HC.out.mono ?_
    rintro r w3 ⟨rfl, hb3⟩
    have HB3 : Hid (Below w.heap.size w w3) := Lib.hid (HK.out.2.2.2.trans (hb3.mono HK.out.2.2.2.size))
    have HS3 := Lib.hid (And.intro ((hb3.cell (p := ⟨wr.heap.size, 0, none⟩) HK.out.2.2.1).trans HK.out.1) ((hb3.cell (p := ⟨wr.heap.size, 1, none⟩) HK.out.2.2.1).trans HK.out.2.1))
    clear hb3
    go_wp2_with fail
    refine hK.out _ _ ?s1_7_4 (fun hS => ?_)
    case s1_7_4 => (exact HS3.out)
    clear hK K
    (try simp only [Act.put, List.setIfInBounds_toArray, List.set_cons_zero, List.set_cons_succ])
    refine wpAnyH_take (i := 7) (oi := ?o1_7_8) (v := ?v1_7_8) ?i1_7_8 (by kernel_rfl) (by kernel_rfl) (by kernel_rfl) (fun _ _ _ h => h) (Or.inl ⟨?g1_7_8, ?y1_7_8⟩) hS ?_
    case i1_7_8 => simp only [List.getElem?_toArray, List.getElem?_cons_succ, List.getElem?_cons_zero]; rfl
    case g1_7_8 => rfl
    case y1_7_8 => (intro w hSw; have hcs := HN.out; (go_simp <;> with_reducible rfl))
    (try simp only [Act.put, List.setIfInBounds_toArray, List.set_cons_zero, List.set_cons_succ])
    refine wpAnyH_take (i := 8) (oi := ?o1_8_9) (v := ?v1_8_9) ?i1_8_9 (by kernel_rfl) (by kernel_rfl) (by kernel_rfl) (fun _ _ _ h => h) (Or.inl ⟨?g1_8_9, ?y1_8_9⟩) hS ?_
    case i1_8_9 => simp only [List.getElem?_toArray, List.getElem?_cons_succ, List.getElem?_cons_zero]; rfl
    case g1_8_9 => rfl
    case y1_8_9 => (intro w hSw; (go_simp <;> with_reducible rfl))
    (try simp only [Act.put, List.setIfInBounds_toArray, List.set_cons_zero, List.set_cons_succ])
    refine wpAnyH_done (by kernel_rfl) ?_ _
    refine NoPanic.normal ?_
    go_wp2
    go_ret
    exact ⟨by rw [HV.out]; rfl, HB3.out⟩
set_option maxHeartbeats 4000000 in
set_option maxRecDepth 100000 in
theorem shrate_k (x : Nat) (hx : x < 18446744073709551616) (h1 : ¬ (0 < x ∧ x % 1000000 = 0)) (h2 : 0 < x ∧ x % 1000 = 0) (w : World) (hT : Tab6 w) : Calls Tryd.prog 15 #[.int .u64 (x : Int)] w (ShRateP x w) := by
  obtain ⟨q, hq⟩ : ∃ q, q = x / 1000 := ⟨_, rfl⟩
  have HV : Hid (showRateX x = dec q ++ [107]) := Lib.hid (by unfold showRateX; rw [if_neg h1, if_pos h2, hq])
  have a1 : (x : Int) / 1000 = (q : Int) := by omega
  have a3 : (x : Int).tdiv 1000 = (q : Int) := by rw [Int.tdiv_eq_ediv_of_nonneg (by omega)]; omega
  have z1 : (txt (dec q)).size ≤ 20 := by rw [txt_size]; exact dec_len20 (by omega)
  have cat : txt (dec q) ++ (ByteArray.mk #[107]) = txt (dec q ++ [107]) := txt_catS _ [107]
  have n0 : ((x : Int) == 0) = false := beq_eq_false_iff_ne.2 (by omega)
  have n1 : ((x : Int) != 0) = true := by unfold bne; rw [n0]; rfl
  obtain ⟨y1000000, hy1000000⟩ : ∃ y, y = x % 1000000 := ⟨_, rfl⟩
  have b1000000 : (x : Int) % 1000000 = (y1000000 : Int) := by omega
  have c1000000 : (x : Int).tmod 1000000 = (y1000000 : Int) := by rw [Int.tmod_eq_emod_of_nonneg (by omega)]; omega
  have d1000000 : ((y1000000 : Int) == 0) = false := beq_eq_false_iff_ne.2 (by omega)
  have b1000 : (x : Int) % 1000 = 0 := by omega
  have c1000 : (x : Int).tmod 1000 = 0 := by rw [Int.tmod_eq_emod_of_nonneg (by omega)]; omega
  clear hq h1 h2 hy1000000
  have HT := Lib.hid hT
  have u0 := hT.u0
  have u1 := hT.u1
  have u2 := hT.u2
  have u3 := hT.u3
  have e0 := unit_at0
  have e1 := unit_at1
  clear hT
  go_enter Tryd.func15, Tryd.ntmps15
  go_wp2
  go_loopw [6] (fun i wr => (i = .int .i64 0 ∨ i = .int .i64 1) ∧ Below w.heap.size w wr) (fun i _ => 1 - (intOf i).toNat)
  case atStart => exact ⟨.inl rfl, Below.refl _ _⟩
  case round =>
    obtain ⟨hi, hB⟩ := hrel
    have HB := Lib.hid hB
    clear hB
    rcases hi with rfl | rfl
    · have HB1 : Hid (Below w.heap.size w (wr.alloc (.cells #[.int .u64 1000000, .string ⟨#[109]⟩] 37))) := Lib.hid (HB.out.alloc HB.out.size _)
      go_wp2
      go_roundw
      case rel => exact ⟨.inr (by go_num), HB1.out⟩
      case measure => simp [intOf]
    · have HB1 : Hid (Below w.heap.size w (wr.alloc (.cells #[.int .u64 1000, .string ⟨#[107]⟩] 37))) := Lib.hid (HB.out.alloc HB.out.size _)
      have hc0 : (wr.alloc (.cells #[.int .u64 1000, .string ⟨#[107]⟩] 37)).drew.cell? ⟨wr.heap.size, 0, none⟩ = some (.int .u64 1000) := by rw [World.cell?_drew, World.cell?_alloc_new]; rfl
      have hc1 : (wr.alloc (.cells #[.int .u64 1000, .string ⟨#[107]⟩] 37)).drew.cell? ⟨wr.heap.size, 1, none⟩ = some (.string ⟨#[107]⟩) := by rw [World.cell?_drew, World.cell?_alloc_new]; rfl
      have HC := Lib.hid (shows_any q (by omega) (wr.alloc (.cells #[.int .u64 1000, .string ⟨#[107]⟩] 37)).drew (HT.out.below HB1.out.drew))
      have hlt : wr.heap.size < (wr.alloc (.cells #[.int .u64 1000, .string ⟨#[107]⟩] 37)).drew.heap.size := by show wr.heap.size < (wr.alloc (.cells #[.int .u64 1000, .string ⟨#[107]⟩] 37)).heap.size; simp
      have HK := Lib.hid (And.intro hc0 (And.intro hc1 (And.intro hlt HB1.out.drew)))
      have HN : Hid (¬ 9223372036854775807 < (txt (dec q)).size + 1) := Lib.hid (by omega)
      have HW : Hid (IntKind.u64.wrap (q : Int) = (q : Int)) := Lib.hid (by rw [IntKind.wrap_u64]; omega)
      clear hc0 hc1 hlt HB1 HT
      go_wp2_with fail
      refine wp_region_noPanic ?_
      refine wp_region_held_drew (S := fun _ => True) (by kernel_rfl) trivial (fun hS => ?_)
      refine wpAnyH_take (i := 0) (oi := ?o2_0_1) (v := ?v2_0_1) ?i2_0_1 (by kernel_rfl) (by kernel_rfl) (by kernel_rfl) (fun _ _ _ h => h) (Or.inl ⟨?g2_0_1, ?y2_0_1⟩) hS ?_
      case i2_0_1 => simp only [List.getElem?_toArray, List.getElem?_cons_succ, List.getElem?_cons_zero]; rfl
      case g2_0_1 => rfl
      case y2_0_1 => (intro w hSw; (go_simp <;> with_reducible rfl))
      (try simp only [Act.put, List.setIfInBounds_toArray, List.set_cons_zero, List.set_cons_succ])
      refine wpAnyH_take (i := 1) (oi := ?o2_1_2) (v := ?v2_1_2) ?i2_1_2 (by kernel_rfl) (by kernel_rfl) (by kernel_rfl) (fun _ _ _ h => h) (Or.inl ⟨?g2_1_2, ?y2_1_2⟩) hS ?_
      case i2_1_2 => simp only [List.getElem?_toArray, List.getElem?_cons_succ, List.getElem?_cons_zero]; rfl
      case g2_1_2 => rfl
      case y2_1_2 => (intro w hSw; (go_simp <;> with_reducible rfl))
      (try simp only [Act.put, List.setIfInBounds_toArray, List.set_cons_zero, List.set_cons_succ])
      refine held_more (S' := fun w' => w'.cell? ⟨wr.heap.size, 0, none⟩ = some (.int .u64 1000) ∧ w'.cell? ⟨wr.heap.size, 1, none⟩ = some (.string ⟨#[107]⟩)) (fun _ _ => trivial) _ _ _ _ ?_
      replace hS := And.intro HK.out.1 HK.out.2.1
      refine wpAnyH_take (i := 2) (oi := ?o2_2_3) (v := ?v2_2_3) ?i2_2_3 (by kernel_rfl) (by kernel_rfl) (by kernel_rfl) (fun _ _ _ h => h) (Or.inl ⟨?g2_2_3, ?y2_2_3⟩) hS ?_
      case i2_2_3 => simp only [List.getElem?_toArray, List.getElem?_cons_succ, List.getElem?_cons_zero]; rfl
      case g2_2_3 => rfl
      case y2_2_3 => (intro w hSw; have hc := hSw.1; (go_simp <;> with_reducible rfl))
      (try simp only [Act.put, List.setIfInBounds_toArray, List.set_cons_zero, List.set_cons_succ])
      refine wpAnyH_take (i := 3) (oi := ?o2_3_4) (v := ?v2_3_4) ?i2_3_4 (by kernel_rfl) (by kernel_rfl) (by kernel_rfl) (fun _ _ _ h => h) (Or.inl ⟨?g2_3_4, ?y2_3_4⟩) hS ?_
      case i2_3_4 => simp only [List.getElem?_toArray, List.getElem?_cons_succ, List.getElem?_cons_zero]; rfl
      case g2_3_4 => rfl
      case y2_3_4 => (intro w hSw; (go_simp <;> with_reducible rfl))
      (try simp only [Act.put, List.setIfInBounds_toArray, List.set_cons_zero, List.set_cons_succ])
      refine wpAnyH_take (i := 5) (oi := ?o2_5_5) (v := ?v2_5_5) ?i2_5_5 (by kernel_rfl) (by kernel_rfl) (by kernel_rfl) (fun _ _ _ h => h) (Or.inl ⟨?g2_5_5, ?y2_5_5⟩) hS ?_
      case i2_5_5 => simp only [List.getElem?_toArray, List.getElem?_cons_succ, List.getElem?_cons_zero]; rfl
      case g2_5_5 => rfl
      case y2_5_5 => (intro w hSw; (go_simp <;> with_reducible rfl))
      (try simp only [Act.put, List.setIfInBounds_toArray, List.set_cons_zero, List.set_cons_succ])
      refine wpAnyH_take (i := 6) (oi := ?o2_6_6) (v := ?v2_6_6) ?i2_6_6 (by kernel_rfl) (by kernel_rfl) (by kernel_rfl) (fun _ _ _ h => h) (Or.inl ⟨?g2_6_6, ?y2_6_6⟩) hS ?_
      case i2_6_6 => simp only [List.getElem?_toArray, List.getElem?_cons_succ, List.getElem?_cons_zero]; rfl
      case g2_6_6 => rfl
      case y2_6_6 => (intro w hSw; have hc := hSw.2; (go_simp <;> with_reducible rfl))
      (try simp only [Act.put, List.setIfInBounds_toArray, List.set_cons_zero, List.set_cons_succ])
      refine wpAnyH_ready (rs := [4]) (by kernel_rfl) (by simp) ?_
      refine (AllReadyH.cons (o := ?o2_7_4) ?i2_7_4 (fun K hK => ?st2_7_4) AllReadyH.nil)
      case i2_7_4 => simp only [List.getElem?_toArray, List.getElem?_cons_succ, List.getElem?_cons_zero]; rfl
      rw [if_pos (by rfl)]
      have hwk := HW.out
      go_simp
      clear hwk
      refine HC.out.mono ?_
      rintro r w3 ⟨rfl, hb3⟩
      have HB3 : Hid (Below w.heap.size w w3) := Lib.hid (HK.out.2.2.2.trans (hb3.mono HK.out.2.2.2.size))
      have HS3 := Lib.hid (And.intro ((hb3.cell (p := ⟨wr.heap.size, 0, none⟩) HK.out.2.2.1).trans HK.out.1) ((hb3.cell (p := ⟨wr.heap.size, 1, none⟩) HK.out.2.2.1).trans HK.out.2.1))
      clear hb3
      go_wp2_with fail
      refine hK.out _ _ ?s2_7_4 (fun hS => ?_)
      case s2_7_4 => (exact HS3.out)
      clear hK K
      (try simp only [Act.put, List.setIfInBounds_toArray, List.set_cons_zero, List.set_cons_succ])
      refine wpAnyH_take (i := 7) (oi := ?o2_7_8) (v := ?v2_7_8) ?i2_7_8 (by kernel_rfl) (by kernel_rfl) (by kernel_rfl) (fun _ _ _ h => h) (Or.inl ⟨?g2_7_8, ?y2_7_8⟩) hS ?_
      case i2_7_8 => simp only [List.getElem?_toArray, List.getElem?_cons_succ, List.getElem?_cons_zero]; rfl
      case g2_7_8 => rfl
      case y2_7_8 => (intro w hSw; have hcs := HN.out; (go_simp <;> with_reducible rfl))
      (try simp only [Act.put, List.setIfInBounds_toArray, List.set_cons_zero, List.set_cons_succ])
      refine wpAnyH_take (i := 8) (oi := ?o2_8_9) (v := ?v2_8_9) ?i2_8_9 (by kernel_rfl) (by kernel_rfl) (by kernel_rfl) (fun _ _ _ h => h) (Or.inl ⟨?g2_8_9, ?y2_8_9⟩) hS ?_
      case i2_8_9 => simp only [List.getElem?_toArray, List.getElem?_cons_succ, List.getElem?_cons_zero]; rfl
      case g2_8_9 => rfl
      case y2_8_9 => (intro w hSw; (go_simp <;> with_reducible rfl))
      (try simp only [Act.put, List.setIfInBounds_toArray, List.set_cons_zero, List.set_cons_succ])
      refine wpAnyH_done (by kernel_rfl) ?_ _
      refine NoPanic.normal ?_
      go_wp2
      go_ret
      exact ⟨by rw [HV.out]; rfl, HB3.out⟩
set_option maxHeartbeats 4000000 in
set_option maxRecDepth 100000 in
theorem shrate_0 (x : Nat) (hx : x < 18446744073709551616) (h0 : x = 0) (w : World) (hT : Tab6 w) : Calls Tryd.prog 15 #[.int .u64 (x : Int)] w (ShRateP x w) := by
  have HV : Hid (showRateX x = dec x) := Lib.hid (by subst h0; rfl)
  have n0 : ((x : Int) == 0) = true := by subst h0; rfl
  have n1 : ((x : Int) != 0) = false := by unfold bne; rw [n0]; rfl
  clear h0
  have HT := Lib.hid hT
  have u0 := hT.u0
  have u1 := hT.u1
  have u2 := hT.u2
  have u3 := hT.u3
  have e0 := unit_at0
  have e1 := unit_at1
  clear hT
  go_enter Tryd.func15, Tryd.ntmps15
  go_wp2
  go_loopw [6] (fun i wr => (i = .int .i64 0 ∨ i = .int .i64 1 ∨ i = .int .i64 2) ∧ Below w.heap.size w wr) (fun i _ => 2 - (intOf i).toNat)
  case atStart => exact ⟨.inl rfl, Below.refl _ _⟩
  case round =>
    obtain ⟨hi, hB⟩ := hrel
    have HB := Lib.hid hB
    clear hB
    rcases hi with rfl | rfl | rfl
    · have HB1 : Hid (Below w.heap.size w (wr.alloc (.cells #[.int .u64 1000000, .string ⟨#[109]⟩] 37))) := Lib.hid (HB.out.alloc HB.out.size _)
      go_wp2
      go_roundw
      case rel => exact ⟨.inr (.inl (by go_num)), HB1.out⟩
      case measure => simp [intOf]
    · have HB1 : Hid (Below w.heap.size w (wr.alloc (.cells #[.int .u64 1000, .string ⟨#[107]⟩] 37))) := Lib.hid (HB.out.alloc HB.out.size _)
      go_wp2
      go_roundw
      case rel => exact ⟨.inr (.inr (by go_num)), HB1.out⟩
      case measure => simp [intOf]
    · have HC := Lib.hid (shows_any x hx wr (HT.out.below HB.out))
      go_wp2_with fail
      refine HC.out.mono ?_
      rintro r w2 ⟨rfl, hB2⟩
      have HB2 : Hid (Below w.heap.size w w2) := Lib.hid (HB.out.trans (hB2.mono HB.out.size))
      clear hB2
      go_wp2
      go_ret
      exact ⟨by rw [HV.out]; rfl, HB2.out⟩
set_option maxHeartbeats 4000000 in
set_option maxRecDepth 100000 in
theorem shrate_n (x : Nat) (hx : x < 18446744073709551616) (h0 : 0 < x) (h1 : x % 1000000 ≠ 0) (h2 : x % 1000 ≠ 0) (w : World) (hT : Tab6 w) : Calls Tryd.prog 15 #[.int .u64 (x : Int)] w (ShRateP x w) := by
  have HV : Hid (showRateX x = dec x) := Lib.hid (by unfold showRateX; rw [if_neg (fun h => h1 h.2), if_neg (fun h => h2 h.2)])
  have n0 : ((x : Int) == 0) = false := beq_eq_false_iff_ne.2 (by omega)
  have n1 : ((x : Int) != 0) = true := by unfold bne; rw [n0]; rfl
  obtain ⟨y1000000, hy1000000⟩ : ∃ y, y = x % 1000000 := ⟨_, rfl⟩
  have b1000000 : (x : Int) % 1000000 = (y1000000 : Int) := by omega
  have c1000000 : (x : Int).tmod 1000000 = (y1000000 : Int) := by rw [Int.tmod_eq_emod_of_nonneg (by omega)]; omega
  have d1000000 : ((y1000000 : Int) == 0) = false := beq_eq_false_iff_ne.2 (by omega)
  obtain ⟨y1000, hy1000⟩ : ∃ y, y = x % 1000 := ⟨_, rfl⟩
  have b1000 : (x : Int) % 1000 = (y1000 : Int) := by omega
  have c1000 : (x : Int).tmod 1000 = (y1000 : Int) := by rw [Int.tmod_eq_emod_of_nonneg (by omega)]; omega
  have d1000 : ((y1000 : Int) == 0) = false := beq_eq_false_iff_ne.2 (by omega)
  clear hy1000000 hy1000 h0 h1 h2
  have HT := Lib.hid hT
  have u0 := hT.u0
  have u1 := hT.u1
  have u2 := hT.u2
  have u3 := hT.u3
  have e0 := unit_at0
  have e1 := unit_at1
  clear hT
  go_enter Tryd.func15, Tryd.ntmps15
  go_wp2
  go_loopw [6] (fun i wr => (i = .int .i64 0 ∨ i = .int .i64 1 ∨ i = .int .i64 2) ∧ Below w.heap.size w wr) (fun i _ => 2 - (intOf i).toNat)
  case atStart => exact ⟨.inl rfl, Below.refl _ _⟩
  case round =>
    obtain ⟨hi, hB⟩ := hrel
    have HB := Lib.hid hB
    clear hB
    rcases hi with rfl | rfl | rfl
    · have HB1 : Hid (Below w.heap.size w (wr.alloc (.cells #[.int .u64 1000000, .string ⟨#[109]⟩] 37))) := Lib.hid (HB.out.alloc HB.out.size _)
      go_wp2
      go_roundw
      case rel => exact ⟨.inr (.inl (by go_num)), HB1.out⟩
      case measure => simp [intOf]
    · have HB1 : Hid (Below w.heap.size w (wr.alloc (.cells #[.int .u64 1000, .string ⟨#[107]⟩] 37))) := Lib.hid (HB.out.alloc HB.out.size _)
      go_wp2
      go_roundw
      case rel => exact ⟨.inr (.inr (by go_num)), HB1.out⟩
      case measure => simp [intOf]
    · have HC := Lib.hid (shows_any x hx wr (HT.out.below HB.out))
      go_wp2_with fail
      refine HC.out.mono ?_
      rintro r w2 ⟨rfl, hB2⟩
      have HB2 : Hid (Below w.heap.size w w2) := Lib.hid (HB.out.trans (hB2.mono HB.out.size))
      clear hB2
      go_wp2
      go_ret
      exact ⟨by rw [HV.out]; rfl, HB2.out⟩
theorem shrate_any (x : Nat) (hx : x < 18446744073709551616) (w : World) (hT : Tab6 w) : Calls Tryd.prog 15 #[.int .u64 (x : Int)] w (ShRateP x w) := by
  by_cases h1 : 0 < x ∧ x % 1000000 = 0
  · exact shrate_m x hx h1 w hT
  by_cases h2 : 0 < x ∧ x % 1000 = 0
  · exact shrate_k x hx h1 h2 w hT
  by_cases h0 : x = 0
  · exact shrate_0 x hx h0 w hT
  · exact shrate_n x hx (by omega) (by omega) (by omega) w hT
end Go.Proofs.YtpaapjafnjipfaaDoor
