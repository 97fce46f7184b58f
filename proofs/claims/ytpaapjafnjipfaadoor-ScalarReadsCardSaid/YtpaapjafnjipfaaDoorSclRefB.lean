/-
  What the document's Rate, ShowRate and Ident (package tollbarref06) answer. No condition but those of each theorem.
-/
import Derived.Test.YtpaapjafnjipfaaDoorSclRef
namespace Go.Proofs.YtpaapjafnjipfaaDoor
open Go.RowKit
set_option linter.unusedSimpArgs false

def RRateP (s : List UInt8) (w : World) (r : Ending) (w' : World) : Prop := r = .returned (optR (rateX s)) ∧ Below w.heap.size w w'
theorem rate_umN {t : List UInt8} (h : uintX t = none) : rateX (t ++ [109]) = none := by unfold rateX; rw [unit_m]; simp only [h]
theorem rate_ukN {t : List UInt8} (h : uintX t = none) : rateX (t ++ [107]) = none := by unfold rateX; rw [unit_k]; simp only [h]
theorem rate_umS {t : List UInt8} {x : Nat} (h : uintX t = some x) : rateX (t ++ [109]) = if 18446744073709 < x then none else some (x * 1000000) := by
  obtain ⟨h1, rfl⟩ := uint_iff.1 h
  exact rate_m h1
theorem rate_ukS {t : List UInt8} {x : Nat} (h : uintX t = some x) : rateX (t ++ [107]) = if 18446744073709551 < x then none else some (x * 1000) := by
  obtain ⟨h1, rfl⟩ := uint_iff.1 h
  exact rate_k h1
theorem rate_un {T : List UInt8} (h1 : T.getLast? ≠ some 109) (h2 : T.getLast? ≠ some 107) : rateX T = uintX T := by
  unfold rateX unitX
  rw [if_neg h1, if_neg h2]
  simp only
  cases h : uintX T with
  | none => rfl
  | some x =>
    have := (uint_iff.1 h).1
    simp only
    rw [if_neg (by omega), Nat.mul_one]
theorem txt_front (t : List UInt8) (c : UInt8) : (txt (t ++ [c])).extract 0 t.length = txt t := by rw [txt_extract]; simp
set_option maxRecDepth 100000 in
set_option maxHeartbeats 1000000 in
/-- Behind a unit, or none. -/
theorem rrate_any (s : List UInt8) (hs : s.length ≤ 100000) (w : World) : Calls Tryd.prog 11 #[.string (txt s)] w (RRateP s w) := by
  rcases List.eq_nil_or_concat s with rfl | ⟨t, c, rfl⟩
  · have hs0 : (txt ([] : List UInt8)).size = 0 := rfl
    have hT : (txt ([] : List UInt8)).toList = [] := txt_toList []
    have SH := fun W => Lib.hid (ruint_any [] (by simp) W)
    have HV : Hid (optR (rateX []) = .tuple #[.int .u64 0, .bool false] ∧ uintX [] = none) := Lib.hid (by
      have h : uintX [] = none := uint_no (.inr (.inl rfl))
      refine ⟨?_, h⟩
      unfold rateX unitX
      simp [h, optR])
    go_enter Tryd.func11, Tryd.ntmps11
    go_wp2_with fail
    refine (SH _).out.mono ?_
    rintro r w2 ⟨rfl, hB⟩
    rw [HV.out.2]
    unfold optR
    go_wp2
    refine bodyPost_ret (v := .tuple #[.int .u64 0, .bool false]) (by simp [results, Tryd.results11, go_sem]) rfl ?_
    exact ⟨by rw [HV.out.1], hB⟩
  · rw [List.concat_eq_append] at hs ⊢
    obtain ⟨T, hT⟩ : ∃ T, T = t ++ [c] := ⟨_, rfl⟩
    obtain ⟨n, hn⟩ : ∃ n, n = t.length := ⟨_, rfl⟩
    have hz : (txt T).size = n + 1 := by rw [txt_size, hT, hn]; simp
    have hTl : T.length = n + 1 := by rw [hT, hn]; simp
    have hin : n < (txt T).size := by rw [hz]; omega
    have hix : (((txt T)[n]'hin).toNat : Int) = (c.toNat : Int) := by
      rw [txt_get T n (by omega) hin]
      simp only [hT, hn, List.getElem_concat_length]
    have hex : (txt T).extract 0 n = txt t := by rw [hT, hn]; exact txt_front t c
    have hn5 : n + 1 ≤ 100000 := by rw [← hT, hTl] at hs; omega
    have hTT : (txt T).toList = T := txt_toList T
    have hE : T.isEmpty = false := by rw [hT]; simp
    rw [← hT]
    clear hTl hs
    go_enter Tryd.func11, Tryd.ntmps11
    by_cases hc1 : c = 109
    · subst hc1
      have HRN : uintX t = none → Hid (rateX T = none) := fun h => Lib.hid (by rw [hT]; exact rate_umN h)
      have HRS : ∀ x, uintX t = some x → Hid (rateX T = if 18446744073709 < x then none else some (x * 1000000)) := fun x h => Lib.hid (by rw [hT]; exact rate_umS h)
      have SH := fun W => Lib.hid (ruint_any t (by omega) W)
      have hlt := fun x (h : uintX t = some x) => (uint_iff.1 h).1
      clear hT hn
      cases hu : uintX t with
      | none =>
        have HV : Hid (optR (rateX T) = .tuple #[.int .u64 0, .bool false] ∧ uintX t = none) := Lib.hid ⟨by rw [(HRN hu).out]; rfl, hu⟩
        clear hu hlt HRN HRS
        go_wp2_with fail
        refine (SH _).out.mono ?_
        rintro r w2 ⟨rfl, hB⟩
        rw [HV.out.2]
        unfold optR
        go_wp2
        refine bodyPost_ret (v := .tuple #[.int .u64 0, .bool false]) (by simp [results, Tryd.results11, go_sem]) rfl ?_
        exact ⟨by rw [HV.out.1], hB⟩
      | some x =>
        have hx := hlt x hu
        by_cases hb : 18446744073709 < x
        · have g : (18446744073709 : Int) < (x : Int) := by omega
          have HV : Hid (optR (rateX T) = .tuple #[.int .u64 0, .bool false] ∧ uintX t = some x) := Lib.hid ⟨by rw [(HRS x hu).out, if_pos hb]; rfl, hu⟩
          clear hu hlt HRN HRS hb
          go_wp2_with fail
          refine (SH _).out.mono ?_
          rintro r w2 ⟨rfl, hB⟩
          rw [HV.out.2]
          unfold optR
          go_wp2
          refine bodyPost_ret (v := .tuple #[.int .u64 0, .bool false]) (by simp [results, Tryd.results11, go_sem]) rfl ?_
          exact ⟨by rw [HV.out.1], hB⟩
        · have g : ¬ (18446744073709 : Int) < (x : Int) := by omega
          obtain ⟨y, hy⟩ : ∃ y, y = x * 1000000 := ⟨_, rfl⟩
          have HV : Hid (optR (rateX T) = .tuple #[.int .u64 (y : Int), .bool true] ∧ uintX t = some x) := Lib.hid ⟨by rw [(HRS x hu).out, if_neg hb, hy]; rfl, hu⟩
          have HW : Hid (IntKind.u64.wrap ((x : Int) * 1000000) = (y : Int)) := Lib.hid (by rw [IntKind.wrap_u64]; omega)
          clear hu hlt HRN HRS hb hy
          go_wp2_with fail
          refine (SH _).out.mono ?_
          rintro r w2 ⟨rfl, hB⟩
          rw [HV.out.2]
          unfold optR
          have hw := HW.out
          go_wp2
          refine bodyPost_ret (v := .tuple #[.int .u64 (y : Int), .bool true]) (by simp [results, Tryd.results11, go_sem]) rfl ?_
          exact ⟨by rw [HV.out.1], hB⟩
    by_cases hc2 : c = 107
    · subst hc2
      have HRN : uintX t = none → Hid (rateX T = none) := fun h => Lib.hid (by rw [hT]; exact rate_ukN h)
      have HRS : ∀ x, uintX t = some x → Hid (rateX T = if 18446744073709551 < x then none else some (x * 1000)) := fun x h => Lib.hid (by rw [hT]; exact rate_ukS h)
      have SH := fun W => Lib.hid (ruint_any t (by omega) W)
      have hlt := fun x (h : uintX t = some x) => (uint_iff.1 h).1
      clear hT hn
      cases hu : uintX t with
      | none =>
        have HV : Hid (optR (rateX T) = .tuple #[.int .u64 0, .bool false] ∧ uintX t = none) := Lib.hid ⟨by rw [(HRN hu).out]; rfl, hu⟩
        clear hu hlt HRN HRS
        go_wp2_with fail
        refine (SH _).out.mono ?_
        rintro r w2 ⟨rfl, hB⟩
        rw [HV.out.2]
        unfold optR
        go_wp2
        refine bodyPost_ret (v := .tuple #[.int .u64 0, .bool false]) (by simp [results, Tryd.results11, go_sem]) rfl ?_
        exact ⟨by rw [HV.out.1], hB⟩
      | some x =>
        have hx := hlt x hu
        by_cases hb : 18446744073709551 < x
        · have g : (18446744073709551 : Int) < (x : Int) := by omega
          have HV : Hid (optR (rateX T) = .tuple #[.int .u64 0, .bool false] ∧ uintX t = some x) := Lib.hid ⟨by rw [(HRS x hu).out, if_pos hb]; rfl, hu⟩
          clear hu hlt HRN HRS hb
          go_wp2_with fail
          refine (SH _).out.mono ?_
          rintro r w2 ⟨rfl, hB⟩
          rw [HV.out.2]
          unfold optR
          go_wp2
          refine bodyPost_ret (v := .tuple #[.int .u64 0, .bool false]) (by simp [results, Tryd.results11, go_sem]) rfl ?_
          exact ⟨by rw [HV.out.1], hB⟩
        · have g : ¬ (18446744073709551 : Int) < (x : Int) := by omega
          obtain ⟨y, hy⟩ : ∃ y, y = x * 1000 := ⟨_, rfl⟩
          have HV : Hid (optR (rateX T) = .tuple #[.int .u64 (y : Int), .bool true] ∧ uintX t = some x) := Lib.hid ⟨by rw [(HRS x hu).out, if_neg hb, hy]; rfl, hu⟩
          have HW : Hid (IntKind.u64.wrap ((x : Int) * 1000) = (y : Int)) := Lib.hid (by rw [IntKind.wrap_u64]; omega)
          clear hu hlt HRN HRS hb hy
          go_wp2_with fail
          refine (SH _).out.mono ?_
          rintro r w2 ⟨rfl, hB⟩
          rw [HV.out.2]
          unfold optR
          have hw := HW.out
          go_wp2
          refine bodyPost_ret (v := .tuple #[.int .u64 (y : Int), .bool true]) (by simp [results, Tryd.results11, go_sem]) rfl ?_
          exact ⟨by rw [HV.out.1], hB⟩
    have n1 : ((c.toNat : Int) == 109) = false := beq_eq_false_iff_ne.2 (fun e => hc1 (UInt8.toNat_inj.1 (by rw [show (109 : UInt8).toNat = 109 from rfl]; omega)))
    have n2 : ((c.toNat : Int) == 107) = false := beq_eq_false_iff_ne.2 (fun e => hc2 (UInt8.toNat_inj.1 (by rw [show (107 : UInt8).toNat = 107 from rfl]; omega)))
    have HR : Hid (rateX T = uintX T) := Lib.hid (rate_un (by rw [hT]; simpa using hc1) (by rw [hT]; simpa using hc2))
    have SH := fun W => Lib.hid (ruint_any T (by rw [← txt_size, hz]; omega) W)
    have hlt := fun x (h : uintX T = some x) => (uint_iff.1 h).1
    clear hT hn hex hc1 hc2
    cases hu : uintX T with
    | none =>
      have HV : Hid (optR (rateX T) = .tuple #[.int .u64 0, .bool false] ∧ uintX T = none) := Lib.hid ⟨by rw [HR.out, hu]; rfl, hu⟩
      clear hu hlt HR
      go_wp2_with fail
      refine (SH _).out.mono ?_
      rintro r w2 ⟨rfl, hB⟩
      rw [HV.out.2]
      unfold optR
      go_wp2
      refine bodyPost_ret (v := .tuple #[.int .u64 0, .bool false]) (by simp [results, Tryd.results11, go_sem]) rfl ?_
      exact ⟨by rw [HV.out.1], hB⟩
    | some x =>
      have hx := hlt x hu
      have g : ¬ (18446744073709551615 : Int) < (x : Int) := by omega
      have HV : Hid (optR (rateX T) = .tuple #[.int .u64 (x : Int), .bool true] ∧ uintX T = some x) := Lib.hid ⟨by rw [HR.out, hu]; rfl, hu⟩
      have HW : Hid (IntKind.u64.wrap ((x : Int) * 1) = (x : Int)) := Lib.hid (by rw [IntKind.wrap_u64]; omega)
      have HW2 : Hid (IntKind.u64.wrap (x : Int) = (x : Int)) := Lib.hid (by rw [IntKind.wrap_u64]; omega)
      clear hu hlt HR
      go_wp2_with fail
      refine (SH _).out.mono ?_
      rintro r w2 ⟨rfl, hB⟩
      rw [HV.out.2]
      unfold optR
      have hw := HW.out
      have hw2 := HW2.out
      go_wp2
      refine bodyPost_ret (v := .tuple #[.int .u64 (x : Int), .bool true]) (by simp [results, Tryd.results11, go_sem]) rfl ?_
      exact ⟨by rw [HV.out.1], hB⟩

end Go.Proofs.YtpaapjafnjipfaaDoor
