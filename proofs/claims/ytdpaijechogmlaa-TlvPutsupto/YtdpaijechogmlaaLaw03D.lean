/-
  The walk of the law TlvPuts: it answers true, for all items (of at most 2^40 values), and writes nothing that was there, where package tlv answers as it is to (TlvC).
-/
import Derived.Test.YtdpaijechogmlaaLaw03C
namespace Go.Proofs.Ytdpaijechogmlaa
open Go.RowKit
set_option linter.unusedSimpArgs false

set_option maxRecDepth 100000 in
set_option maxHeartbeats 8000000 in
theorem tlvPuts_walk (C : TlvC) (f : Fo) (v : Value) (w : World) (hF : FV DataI w (Lo w) v f) (hs40 : f.sz ≤ 1099511627776) :
    Calls Try.prog 3 #[v] w fun e w' => e = .returned (.bool true) ∧ Below w.heap.size w w' := by
  have HC := Lib.hid C
  clear C
  by_cases hbig : 300 < f.wt
  · have hd : decide ((300 : Int) < (f.wt : Int)) = true := decide_eq_true (by omega)
    go_enter Try.func3, Try.ntmps3
    go_wp2_with fail
    refine (awake3_any HC.out _).mono ?_
    rintro r w1 ⟨rfl, hB1⟩
    have hF1 := FV.below stays_I hF hB1
    go_wp2_with fail
    refine (many_any f _ _ hF1 hs40).mono ?_
    rintro r w2 ⟨rfl, hb2⟩
    have hB2 := hB1.trans (hb2.mono hB1.size)
    clear hF hF1 hB1 hb2
    go_wp2
    go_ret
    exact ⟨rfl, hB2⟩
  · have hd : decide ((300 : Int) < (f.wt : Int)) = false := decide_eq_false (by omega)
    have hal : f.all.length ≤ 22000000000000 := by have := f.all_le; omega
    have hts := txt_size f.all
    have hw300 : f.wt ≤ 300 := by omega
    clear hbig
    cases hok : f.ok with
    | true =>
      have HOK := Lib.hid hok
      have HPO : Hid (putOut f = .returned (.tuple #[.string (txt f.all), .int .i64 0])) := Lib.hid (by unfold putOut; rw [if_pos hok])
      clear hok
      go_enter Try.func3, Try.ntmps3
      go_wp2_with fail
      refine (awake3_any HC.out _).mono ?_
      rintro r w1 ⟨rfl, hB1⟩
      have hF1 := FV.below stays_I hF hB1
      clear hF
      go_wp2_with fail
      refine (many_any f _ _ hF1 hs40).mono ?_
      rintro r w2 ⟨rfl, hb2⟩
      have hF2 := FV.below stays_I hF1 hb2
      have hB2 := hB1.trans (hb2.mono hB1.size)
      clear hF1 hB1 hb2
      go_wp2_with fail
      refine (plain_any f _ _ hF2 hs40).mono ?_
      rintro r w3 ⟨v3, rfl, hv3, hb3⟩
      have hF3 := FV.below stays_I hF2 hb3
      have hP3 := FV.lo stays_R hv3
      have hB3 := hB2.trans (hb3.mono hB2.size)
      clear hF2 hB2 hb3 hv3
      go_wp2_with fail
      refine (HC.out.put f _ _ hF3 hs40).mono ?_
      rintro r w4 ⟨v4, rfl, hv4, hb4⟩
      rw [if_pos HOK.out] at hv4
      rw [if_pos HOK.out]
      obtain ⟨d4, -, -, hr4⟩ := hv4.rd (by omega)
      have hF4 := FV.below stays_I hF3 hb4
      have hP4 := FV.below stays_R hP3 hb4
      have hB4 := hB3.trans (hb4.mono hB3.size)
      clear hF3 hP3 hB3 hb4 hv4
      go_wp2_with fail
      refine (rput3_any f _ _ hP4 hs40).mono ?_
      rintro r w5 ⟨rfl, hb5⟩
      rw [HPO.out]
      have hF5 := FV.below stays_I hF4 hb5
      have hP5 := FV.below stays_R hP4 hb5
      have hr5 := hr4.below' hb5
      have hB5 := hB4.trans (hb5.mono hB4.size)
      clear hF4 hP4 hB4 hb5 hr4
      go_wp2_with fail
      refine (HC.out.check f _ _ hF5 hs40).mono ?_
      rintro r w6 ⟨rfl, hb6⟩
      rw [HOK.out]
      have hF6 := FV.below stays_I hF5 hb6
      have hP6 := FV.below stays_R hP5 hb6
      have hr6 := hr5.below' hb6
      have hB6 := hB5.trans (hb6.mono hB5.size)
      clear hF5 hP5 hB5 hb6 hr5
      go_wp2_with fail
      refine (rcheck_any f _ _ hP6 hs40).mono ?_
      rintro r w7 ⟨rfl, hb7⟩
      rw [HOK.out]
      have hF7 := FV.below stays_I hF6 hb7
      have hP7 := FV.below stays_R hP6 hb7
      have hr7 := hr6.below' hb7
      have hB7 := hB6.trans (hb7.mono hB6.size)
      clear hF6 hP6 hB6 hb7 hr6
      go_wp2_with fail
      refine (HC.out.size f _ _ hF7 hs40 hw300).mono ?_
      rintro r w8 ⟨rfl, hb8⟩
      have hP8 := FV.below stays_R hP7 hb8
      have hr8 := hr7.below' hb8
      have hB8 := hB7.trans (hb8.mono hB7.size)
      clear hF7 hP7 hB7 hb8 hr7
      go_wp2_with fail
      refine (all_any f _ _ hP8 hs40).mono ?_
      rintro r w9 ⟨rfl, hb9⟩
      have hr9 := hr8.below' hb9
      have hB9 := hB8.trans (hb9.mono hB8.size)
      have hst : (convert 27 9 v4).run Try.prog w9 = .ok (.string (txt f.all)) w9 := str_of hr9
      clear hP8 hB8 hb9 hr8 hr9
      go_wp2
      go_ret
      exact ⟨rfl, hB9⟩
    | false =>
      have HOK : Hid (¬ f.ok = true) := Lib.hid (by rw [hok]; decide)
      have HOKF := Lib.hid hok
      have HPO : Hid (putOut f = .returned (.tuple #[.string ⟨#[]⟩, .int .i64 1])) := Lib.hid (by unfold putOut; rw [if_neg (by rw [hok]; decide)])
      clear hok
      go_enter Try.func3, Try.ntmps3
      go_wp2_with fail
      refine (awake3_any HC.out _).mono ?_
      rintro r w1 ⟨rfl, hB1⟩
      have hF1 := FV.below stays_I hF hB1
      clear hF
      go_wp2_with fail
      refine (many_any f _ _ hF1 hs40).mono ?_
      rintro r w2 ⟨rfl, hb2⟩
      have hF2 := FV.below stays_I hF1 hb2
      have hB2 := hB1.trans (hb2.mono hB1.size)
      clear hF1 hB1 hb2
      go_wp2_with fail
      refine (plain_any f _ _ hF2 hs40).mono ?_
      rintro r w3 ⟨v3, rfl, hv3, hb3⟩
      have hF3 := FV.below stays_I hF2 hb3
      have hP3 := FV.lo stays_R hv3
      have hB3 := hB2.trans (hb3.mono hB2.size)
      clear hF2 hB2 hb3 hv3
      go_wp2_with fail
      refine (HC.out.put f _ _ hF3 hs40).mono ?_
      rintro r w4 ⟨v4, rfl, hv4, hb4⟩
      rw [if_neg HOK.out] at hv4
      rw [if_neg HOK.out]
      obtain ⟨d4, -, -, hr4⟩ := hv4.rd (by simp)
      have hF4 := FV.below stays_I hF3 hb4
      have hP4 := FV.below stays_R hP3 hb4
      have hB4 := hB3.trans (hb4.mono hB3.size)
      clear hF3 hP3 hB3 hb4 hv4
      go_wp2_with fail
      refine (rput3_any f _ _ hP4 hs40).mono ?_
      rintro r w5 ⟨rfl, hb5⟩
      rw [HPO.out]
      have hF5 := FV.below stays_I hF4 hb5
      have hP5 := FV.below stays_R hP4 hb5
      have hr5 := hr4.below' hb5
      have hB5 := hB4.trans (hb5.mono hB4.size)
      clear hF4 hP4 hB4 hb5 hr4
      go_wp2_with fail
      refine (HC.out.check f _ _ hF5 hs40).mono ?_
      rintro r w6 ⟨rfl, hb6⟩
      rw [HOKF.out]
      have hF6 := FV.below stays_I hF5 hb6
      have hP6 := FV.below stays_R hP5 hb6
      have hr6 := hr5.below' hb6
      have hB6 := hB5.trans (hb6.mono hB5.size)
      clear hF5 hP5 hB5 hb6 hr5
      go_wp2_with fail
      refine (rcheck_any f _ _ hP6 hs40).mono ?_
      rintro r w7 ⟨rfl, hb7⟩
      rw [HOKF.out]
      have hF7 := FV.below stays_I hF6 hb7
      have hP7 := FV.below stays_R hP6 hb7
      have hr7 := hr6.below' hb7
      have hB7 := hB6.trans (hb7.mono hB6.size)
      clear hF6 hP6 hB6 hb7 hr6
      go_wp2_with fail
      refine (HC.out.size f _ _ hF7 hs40 hw300).mono ?_
      rintro r w8 ⟨rfl, hb8⟩
      have hP8 := FV.below stays_R hP7 hb8
      have hr8 := hr7.below' hb8
      have hB8 := hB7.trans (hb8.mono hB7.size)
      clear hF7 hP7 hB7 hb8 hr7
      go_wp2_with fail
      refine (all_any f _ _ hP8 hs40).mono ?_
      rintro r w9 ⟨rfl, hb9⟩
      have hr9 := hr8.below' hb9
      have hB9 := hB8.trans (hb9.mono hB8.size)
      have hst : (convert 27 9 v4).run Try.prog w9 = .ok (.string ⟨#[]⟩) w9 := str_of hr9
      clear hP8 hB8 hb9 hr8 hr9
      go_wp2
      go_ret
      exact ⟨rfl, hB9⟩

end Go.Proofs.Ytdpaijechogmlaa
