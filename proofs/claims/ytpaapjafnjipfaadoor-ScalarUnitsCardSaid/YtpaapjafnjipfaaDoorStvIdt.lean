/-
  scalar.Ident, and what it asks of each character. No condition but those of each theorem.
-/
import Derived.Test.YtpaapjafnjipfaaDoorSclSpec
namespace Go.Proofs.YtpaapjafnjipfaaDoor
open Go.RowKit
set_option linter.unusedSimpArgs false

def SmP (c : UInt8) (w : World) (r : Ending) (w' : World) : Prop := r = .returned (.bool (smB c)) ∧ w = w'
theorem letter_any (c : UInt8) (w : World) : Calls Tryd.prog 21 #[.int .u8 (c.toNat : Int)] w (SmP c w) := by
  rcases sm_cases c with ⟨hb, g1, g2⟩ | ⟨hb, g⟩
  · have HB := Lib.hid hb
    clear hb
    obtain ⟨m, hm⟩ : ∃ m, m = c.toNat := ⟨_, rfl⟩
    rw [← hm] at g1 g2 ⊢
    clear hm
    go_enter Tryd.func21, Tryd.ntmps21
    go_wp2
    go_ret
    exact ⟨by rw [HB.out]; rfl, rfl⟩
  · have HB := Lib.hid hb
    clear hb
    obtain ⟨m, hm⟩ : ∃ m, m = c.toNat := ⟨_, rfl⟩
    rw [← hm] at g ⊢
    clear hm
    rcases g with g | ⟨g1, g2⟩
    all_goals
      go_enter Tryd.func21, Tryd.ntmps21
      go_wp2
      go_ret
      exact ⟨by rw [HB.out]; rfl, rfl⟩
theorem nm_ways (c : UInt8) (h : smB c = false) : (nmB c = true ∧ ((48 ≤ (c.toNat : Int) ∧ (c.toNat : Int) ≤ 57) ∨ (¬ 48 ≤ (c.toNat : Int) ∧ ((c.toNat : Int) == 45) = true))) ∨
    (nmB c = false ∧ ((c.toNat : Int) == 45) = false ∧ (¬ 48 ≤ (c.toNat : Int) ∨ (48 ≤ (c.toNat : Int) ∧ ¬ (c.toNat : Int) ≤ 57))) := by
  rcases nm_cases h with ⟨h1, h2⟩ | ⟨h1, h2, h3⟩
  · refine .inl ⟨h1, ?_⟩
    rcases h2 with h2 | ⟨h2, h3, h4⟩
    · have : (c.toNat : Int) = 45 := beq_iff_eq.1 h2
      exact .inr ⟨by omega, h2⟩
    · exact .inl ⟨by omega, by omega⟩
  · refine .inr ⟨h1, h2, ?_⟩
    rcases h3 with h3 | ⟨h3, h4⟩
    · exact .inl (by omega)
    · exact .inr ⟨by omega, by omega⟩
def NmP (c : UInt8) (w : World) (r : Ending) (w' : World) : Prop := r = .returned (.bool (nmB c)) ∧ w = w'
set_option maxHeartbeats 1000000 in
theorem inName_any (c : UInt8) (w : World) : Calls Tryd.prog 22 #[.int .u8 (c.toNat : Int)] w (NmP c w) := by
  have HL := Lib.hid (letter_any c w)
  cases hb : smB c with
  | true =>
    have HN := Lib.hid (sm_nm hb)
    have HS := Lib.hid hb
    clear hb
    go_enter Tryd.func22, Tryd.ntmps22
    go_wp2_with fail
    refine HL.out.mono ?_
    rintro r w1 ⟨rfl, rfl⟩
    rw [HS.out]
    clear HL
    go_wp2
    go_ret
    exact ⟨by rw [HN.out]; rfl, rfl⟩
  | false =>
    have HS := Lib.hid hb
    have g := nm_ways c hb
    clear hb
    have HL : Hid (Calls Tryd.prog 21 #[.int .u8 (c.toNat : Int)] w fun r w' => r = .returned (.bool false) ∧ w = w') := Lib.hid (HL.out.mono fun r w' h => ⟨by rw [h.1, HS.out], h.2⟩)
    have HQ : Hid (∀ b, nmB c = b → NmP c w (.returned (.bool b)) w) := Lib.hid (fun b e => ⟨by rw [e], rfl⟩)
    rcases g with ⟨h1, g⟩ | ⟨h1, g0, g⟩
    · have HN := Lib.hid h1
      clear h1 HS
      generalize c.toNat = m at g HL
      rcases g with ⟨g1, g2⟩ | ⟨g1, g2⟩
      all_goals
        go_enter Tryd.func22, Tryd.ntmps22
        go_wp2_with fail
        refine HL.out.mono ?_
        rintro r w1 ⟨rfl, rfl⟩
        clear HL
        go_wp2
        go_ret
        exact HQ.out _ HN.out
    · have HN := Lib.hid h1
      clear h1 HS
      generalize c.toNat = m at g g0 HL
      rcases g with g1 | ⟨g1, g2⟩
      · go_enter Tryd.func22, Tryd.ntmps22
        go_wp2_with fail
        refine HL.out.mono ?_
        rintro r w1 ⟨rfl, rfl⟩
        clear HL
        go_wp2
        go_ret
        exact HQ.out _ HN.out
      · go_enter Tryd.func22, Tryd.ntmps22
        go_wp2_with fail
        refine HL.out.mono ?_
        rintro r w1 ⟨rfl, rfl⟩
        clear HL
        go_wp2
        go_ret
        exact HQ.out _ (HN.out.trans (decide_eq_false (by omega)).symm)

def IdentP (s : List UInt8) (w : World) (r : Ending) (w' : World) : Prop := r = .returned (.bool (identX s)) ∧ w = w'
/-- As far as it was looked at, behind the first character. -/
def nmL (s : List UInt8) (k : Nat) : Prop := ∀ j c, j < k → s[j]? = some c → nmB c = true
theorem nmL_step {s : List UInt8} {k : Nat} {c : UInt8} (hc : s[k]? = some c) (h : nmL s k) (h1 : nmB c = true) : nmL s (k + 1) := by
  intro j d hj hd
  by_cases e : j = k
  · subst e
    rw [hc] at hd
    injection hd with hd
    rw [← hd]; exact h1
  · exact h j d (by omega) hd
theorem nmL_all {c : UInt8} {r : List UInt8} (h1 : smB c = true) (h2 : (c :: r).length ≤ 12) (h : nmL (c :: r) (c :: r).length) : identX (c :: r) = true := by
  rw [idL_all ⟨fun d _ hd => by simp at hd; rw [← hd]; exact h1, h⟩]
  simp
  simpa using h2
theorem ident_bad {s : List UInt8} {k : Nat} {c : UInt8} (hc : s[k]? = some c) (h : nmB c = false) : identX s = false :=
  id_bad hc (by cases hb : smB c with | false => rfl | true => rw [sm_nm hb] at h; cases h) (.inr h)
set_option maxRecDepth 100000 in
set_option maxHeartbeats 2000000 in
theorem ident_any (s : List UInt8) (hs : s.length ≤ 100000) (w : World) : Calls Tryd.prog 12 #[.string (txt s)] w (IdentP s w) := by
  cases s with
  | nil =>
    have e0 : txt [] = (⟨#[]⟩ : ByteArray) := rfl
    rw [e0]
    go_enter Tryd.func12, Tryd.ntmps12
    go_wp2
    go_ret
    exact ⟨rfl, rfl⟩
  | cons c r =>
  have hsz := txt_size (c :: r)
  have ts : (txt (c :: r)).toList = c :: r := txt_toList _
  have hE : (c :: r).isEmpty = false := rfl
  have hN : ((c :: r) == []) = false := rfl
  by_cases h12 : (c :: r).length ≤ 12
  · have i12 : ¬ ((12 : Int) < ((c :: r).length : Int)) := by omega
    have hin : 0 < (txt (c :: r)).size := by rw [hsz]; simp
    have hix : (((txt (c :: r))[0]'hin).toNat : Int) = (c.toNat : Int) := by rw [txt_get (c :: r) 0 (by simp) hin]; rfl
    have HL := Lib.hid (letter_any c w)
    cases hb : smB c with
    | false =>
      have HV : Hid (identX (c :: r) = false) := Lib.hid (ident_no hb r)
      have HS := Lib.hid hb
      clear hb
      generalize c :: r = s at *
      go_enter Tryd.func12, Tryd.ntmps12
      go_wp2_with fail
      refine HL.out.mono ?_
      rintro e w1 ⟨rfl, rfl⟩
      rw [HS.out]
      clear HL
      go_wp2
      go_ret
      exact ⟨by rw [HV.out]; rfl, rfl⟩
    | true =>
      have HV : Hid (nmL (c :: r) (c :: r).length → identX (c :: r) = true) := Lib.hid (fun h => nmL_all hb h12 h)
      have HS := Lib.hid hb
      clear hb
      have hpos : 0 < (c :: r).length := by simp
      generalize c :: r = s at *
      go_enter Tryd.func12, Tryd.ntmps12
      go_wp2_with fail
      refine HL.out.mono ?_
      rintro e w1 ⟨rfl, rfl⟩
      rw [HS.out]
      clear HL hix
      go_wp2
      go_loop [3, 19] (fun v i => ∃ k : Nat, k ≤ s.length ∧ i = .int .i64 (k : Int) ∧ Hid (nmL s k)) (fun _ i => s.length - (intOf i).toNat)
      case atStart => exact ⟨0, by omega, rfl, Lib.hid (fun j c h => by omega)⟩
      case round =>
        obtain ⟨k, hk, rfl, HK⟩ := hrel
        by_cases h1 : k < s.length
        · have d1 : (k : Int) < (s.length : Int) := by omega
          obtain ⟨d, hd⟩ : ∃ d, s[k]? = some d := ⟨_, List.getElem?_eq_getElem h1⟩
          have hink : k < (txt s).size := by rw [hsz]; exact h1
          have hixk : (((txt s)[k]'hink).toNat : Int) = (d.toNat : Int) := by rw [txt_get s k h1 hink]; rw [List.getElem?_eq_getElem h1] at hd; injection hd with hd; rw [hd]
          have HN := Lib.hid (inName_any d w)
          cases hn : nmB d with
          | true =>
            have HK2 := Lib.hid (nmL_step hd HK.out hn)
            have HN2 := Lib.hid hn
            clear hd hn HK
            go_wp2_with fail
            refine HN.out.mono ?_
            rintro e w1 ⟨rfl, rfl⟩
            rw [HN2.out]
            clear HN
            go_wp2
            go_round
            case rel => exact ⟨k + 1, by omega, by go_num, HK2⟩
            case measure => simp [intOf]; omega
          | false =>
            have HF : Hid (identX s = false) := Lib.hid (ident_bad hd hn)
            have HN2 := Lib.hid hn
            clear hd hn HK
            go_wp2_with fail
            refine HN.out.mono ?_
            rintro e w1 ⟨rfl, rfl⟩
            rw [HN2.out]
            clear HN
            go_wp2
            go_ret
            exact ⟨by rw [HF.out]; rfl, rfl⟩
        · obtain rfl : k = s.length := by omega
          have HF : Hid (identX s = true) := Lib.hid (HV.out HK.out)
          clear HK h1
          go_wp2
          go_ret
          exact ⟨by rw [HF.out]; rfl, rfl⟩
  · have i12 : (12 : Int) < ((c :: r).length : Int) := by omega
    have HV : Hid (identX (c :: r) = false) := Lib.hid (by
      cases h : identX (c :: r) with
      | false => rfl
      | true => exact absurd (ident_len h).2 h12)
    clear h12
    generalize c :: r = s at *
    go_enter Tryd.func12, Tryd.ntmps12
    go_wp2
    go_ret
    exact ⟨by rw [HV.out]; rfl, rfl⟩
end Go.Proofs.YtpaapjafnjipfaaDoor
