/-
  The walks of the laws TlvGets and TlvOwn: they answer true, for all bytes, and write nothing that was there, where package tlv answers as it is to (TlvC).
-/
import Derived.Test.YtdpaijechogmlaaLaw03A
import Derived.Test.YtdpaijechogmlaaOctI
namespace Go.Proofs.Ytdpaijechogmlaa
open Go.RowKit
set_option linter.unusedSimpArgs false

theorem Fo.sz_le_all (f : Fo) : ∀ deep, Fo.right deep f = true → f.sz ≤ f.all.length := by
  induction f with
  | nil => intro _ _; exact Nat.le_refl _
  | cons t d k r ihk ihr =>
    intro deep h
    simp only [Fo.right, Bool.and_eq_true, decide_eq_true_eq] at h
    obtain ⟨⟨⟨_, hs⟩, hk⟩, hr⟩ := h
    have h1 := ihk _ hk
    have h2 := ihr _ hr
    have h3 := (encV_length 9 t).1
    simp only [Fo.sz, Fo.all, List.length_append]
    by_cases hodd : t % 2 = 1
    · rw [if_pos hodd] at hs
      have hd : d = [] := by simpa using hs
      subst hd
      have hin : Fo.inn t [] k.all = k.all := by unfold Fo.inn; rw [if_pos hodd]
      rw [hin]
      simp only [List.length_nil]
      omega
    · rw [if_neg hodd] at hs
      have hk0 : k = .nil := Fo.len_zero (by simpa using hs)
      subst hk0
      have hin : Fo.inn t d Fo.nil.all = d := by unfold Fo.inn; rw [if_neg hodd]
      rw [hin]
      simp only [Fo.sz]
      omega

theorem got_ok {l : List UInt8} (h : (gotOf l).2.1 = 0) : l.length ≤ 8192 ∧ (gotOf l).1.all = l ∧ Fo.right 1 (gotOf l).1 = true ∧ (gotOf l).1.fit ∧ (gotOf l).2.2 = 0 ∧ (gotOf l).1.ok = true := by
  unfold gotOf at h ⊢
  by_cases h1 : 8192 < l.length
  · rw [if_pos h1] at h; exact absurd h (by decide)
  · rw [if_neg h1] at h ⊢
    obtain ⟨a, b, c, d⟩ := gt_own l.length l 1 0 (Nat.le_refl _) (by omega) h
    refine ⟨by omega, a, b, c, d, ?_⟩
    unfold Fo.ok
    rw [b, a, decide_eq_true (by omega)]
    rfl
theorem got_nil {l : List UInt8} (h : (gotOf l).2.1 ≠ 0) : (gotOf l).1 = .nil ∧ (gotOf l).2.2 ≤ l.length := by
  unfold gotOf at h ⊢
  by_cases h1 : 8192 < l.length
  · rw [if_pos h1]; exact ⟨rfl, Nat.zero_le _⟩
  · rw [if_neg h1] at h ⊢
    have h2 := gt_off l.length l 1 0 (Nat.le_refl _)
    exact ⟨gt_err _ _ _ _ h, by omega⟩
theorem got_sz (l : List UInt8) : (gotOf l).1.sz ≤ l.length := by
  by_cases h : (gotOf l).2.1 = 0
  · obtain ⟨_, a, b, _⟩ := got_ok h
    have h1 := Fo.sz_le_all _ 1 b
    rw [a] at h1
    exact h1
  · rw [(got_nil h).1]; exact Nat.zero_le _

set_option maxRecDepth 100000 in
set_option maxHeartbeats 4000000 in
theorem tlvGets_walk (C : TlvC) (a0 : Option Addr) (len0 cap0 : Nat) (z0 : List Int) (w : World) (w0 : IsRow .u8 w a0 len0 cap0 z0) :
    Calls Try.prog 4 #[.slice a0 len0 cap0] w fun e w' => e = .returned (.bool true) ∧ Below w.heap.size w w' := by
  have HC := Lib.hid C
  clear C
  by_cases h9 : 9000 < len0
  · go_enter Try.func4, Try.ntmps4
    go_wp2_with fail
    refine (awake3_any HC.out _).mono ?_
    rintro r w1 ⟨rfl, hB1⟩
    go_wp2
    go_ret
    exact ⟨rfl, hB1⟩
  · obtain ⟨d, l, rfl, hdw, hr0⟩ := w0.rd (by omega)
    have hl9 : l.length ≤ 9000 := by omega
    have hd9 : decide ((9000 : Int) < (l.length : Int)) = false := decide_eq_false (by omega)
    clear h9 w0
    obtain ⟨x, hx⟩ : ∃ x, x = gotOf l := ⟨_, rfl⟩
    have hxs : x.1.sz ≤ 1099511627776 := by rw [hx]; have := got_sz l; omega
    have HX := Lib.hid hx
    clear hx
    go_enter Try.func4, Try.ntmps4
    go_wp2_with fail
    refine (awake3_any HC.out _).mono ?_
    rintro r w1 ⟨rfl, hB1⟩
    have hr1 := hr0.below' hB1
    clear hr0
    go_wp2_with fail
    refine (get3_at HC.out l x _ _ _ hr1 (by omega) HX.out.symm).mono ?_
    rintro r w2 ⟨v2, rfl, hv2, hb2⟩
    have hr2 := hr1.below' hb2
    have hst : (convert 27 9 (.slice a0 l.length cap0)).run Try.prog w2 = .ok (.string (txt l)) w2 := str_of hr2
    have hB2 := hB1.trans (hb2.mono hB1.size)
    have hf2 := FV.lo stays_I hv2
    clear hr1 hb2 hB1 hr2 hv2
    go_wp2_with fail
    refine (rgetall_any l _ (by omega)).mono ?_
    rintro r w3 ⟨v3, rfl, hv3, hb3⟩
    rw [← HX.out] at hv3 ⊢
    have hf3 := FV.below stays_I hf2 hb3
    have hg3 := FV.lo stays_R hv3
    have hB3 := hB2.trans (hb3.mono hB2.size)
    clear hf2 hb3 hB2 hv3 hst
    go_wp2_with fail
    refine (plain_any x.1 _ _ hf3 hxs).mono ?_
    rintro r w4 ⟨v4, rfl, hv4, hb4⟩
    have hg4 := FV.below stays_R hg3 hb4
    have hf4 := FV.lo stays_R hv4
    have hB4 := hB3.trans (hb4.mono hB3.size)
    clear hf3 hb4 hB3 hv4 hg3
    go_wp2_with fail
    refine (same_any x.1 x.1 _ _ _ hf4 hg4 hxs).mono ?_
    rintro r w5 ⟨rfl, hb5⟩
    rw [decide_eq_true rfl]
    have hB5 := hB4.trans (hb5.mono hB4.size)
    clear hf4 hb5 hB4 hg4
    go_wp2
    go_ret
    exact ⟨rfl, hB5⟩

set_option maxRecDepth 100000 in
set_option maxHeartbeats 4000000 in
theorem tlvOwn_walk (C : TlvC) (a0 : Option Addr) (len0 cap0 : Nat) (z0 : List Int) (w : World) (w0 : IsRow .u8 w a0 len0 cap0 z0) :
    Calls Try.prog 6 #[.slice a0 len0 cap0] w fun e w' => e = .returned (.bool true) ∧ Below w.heap.size w w' := by
  have HC := Lib.hid C
  clear C
  by_cases h9 : 9000 < len0
  · go_enter Try.func6, Try.ntmps6
    go_wp2_with fail
    refine (awake3_any HC.out _).mono ?_
    rintro r w1 ⟨rfl, hB1⟩
    go_wp2
    go_ret
    exact ⟨rfl, hB1⟩
  · obtain ⟨d, l, rfl, hdw, hr0⟩ := w0.rd (by omega)
    have hl9 : l.length ≤ 9000 := by omega
    have hd9 : decide ((9000 : Int) < (l.length : Int)) = false := decide_eq_false (by omega)
    clear h9 w0
    by_cases he : (gotOf l).2.1 = 0
    · obtain ⟨hl8, hall, hright, hfit, hoff, hok⟩ := got_ok he
      have hsz := got_sz l
      obtain ⟨f, hf⟩ : ∃ f, f = (gotOf l).1 := ⟨_, rfl⟩
      have hx : gotOf l = (f, 0, 0) := by
        rw [hf]
        exact Prod.ext rfl (Prod.ext he hoff)
      rw [← hf] at hall hok hsz
      have HX := Lib.hid hx
      have HALL := Lib.hid hall
      have HOK := Lib.hid hok
      clear he hl8 hall hright hfit hoff hok hf hx
      go_enter Try.func6, Try.ntmps6
      go_wp2_with fail
      refine (awake3_any HC.out _).mono ?_
      rintro r w1 ⟨rfl, hB1⟩
      have hr1 := hr0.below' hB1
      clear hr0
      go_wp2_with fail
      refine (get3_at HC.out l _ _ _ _ hr1 (by omega) HX.out).mono ?_
      rintro r w2 ⟨v2, rfl, hv2, hb2⟩
      have hr2 := hr1.below' hb2
      have hB2 := hB1.trans (hb2.mono hB1.size)
      have hf2 := FV.lo stays_I hv2
      clear hr1 hb2 hB1 hv2
      go_wp2_with fail
      refine (HC.out.put f _ _ hf2 (by omega)).mono ?_
      rintro r w3 ⟨v3, rfl, hv3, hb3⟩
      rw [if_pos HOK.out, HALL.out] at hv3
      rw [if_pos HOK.out]
      obtain ⟨d3, -, -, hr3⟩ := hv3.rd (by omega)
      have hst3 : (convert 27 9 v3).run Try.prog w3 = .ok (.string (txt l)) w3 := str_of hr3
      have hst0 : (convert 27 9 (.slice a0 l.length cap0)).run Try.prog w3 = .ok (.string (txt l)) w3 := str_of (hr2.below' hb3)
      have hf3 := FV.below stays_I hf2 hb3
      have hB3 := hB2.trans (hb3.mono hB2.size)
      clear hf2 hb3 hB2 hv3 hr3 hr2
      go_wp2_with fail
      refine (HC.out.check f _ _ hf3 (by omega)).mono ?_
      rintro r w4 ⟨rfl, hb4⟩
      rw [HOK.out]
      have hB4 := hB3.trans (hb4.mono hB3.size)
      clear hf3 hb4 hB3 hst0 hst3
      go_wp2
      go_ret
      exact ⟨rfl, hB4⟩
    · obtain ⟨hnil, hoff⟩ := got_nil he
      obtain ⟨e, hee⟩ : ∃ e, e = (gotOf l).2.1 := ⟨_, rfl⟩
      obtain ⟨o, ho⟩ : ∃ o, o = (gotOf l).2.2 := ⟨_, rfl⟩
      have hx : gotOf l = (.nil, e, o) := by
        rw [hee, ho]
        exact Prod.ext hnil rfl
      rw [← hee] at he
      rw [← ho] at hoff
      have hb1 : (e == 0) = false := beq_eq_false_iff_ne.2 he
      have hb2 : (e != 0) = true := by unfold bne; rw [hb1]; rfl
      have hd0 : decide (o ≤ l.length) = true := decide_eq_true hoff
      have HX := Lib.hid hx
      clear he hnil hee ho hx
      go_enter Try.func6, Try.ntmps6
      go_wp2_with fail
      refine (awake3_any HC.out _).mono ?_
      rintro r w1 ⟨rfl, hB1⟩
      have hr1 := hr0.below' hB1
      clear hr0
      go_wp2_with fail
      refine (get3_at HC.out l _ _ _ _ hr1 (by omega) HX.out).mono ?_
      rintro r w2 ⟨v2, rfl, hv2, hb2⟩
      obtain ⟨A2, c2, rfl⟩ := hv2.shape
      have hB2 := hB1.trans (hb2.mono hB1.size)
      clear hr1 hb2 hB1 hv2
      have hlen0 : Fo.nil.len = 0 := rfl
      rw [hlen0]
      go_wp2
      go_ret
      exact ⟨rfl, hB2⟩

end Go.Proofs.Ytdpaijechogmlaa
