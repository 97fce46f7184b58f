/-
  What the document's ShowRate and Ident (package tollbarref06) answer. No condition but those of each theorem.
-/
import Derived.Test.YtpaapjafnjipfaaDoorSclRefB
namespace Go.Proofs.YtpaapjafnjipfaaDoor
open Go.RowKit
set_option linter.unusedSimpArgs false

def RShRateP (x : Nat) (w : World) (r : Ending) (w' : World) : Prop := r = .returned (.string (txt (showRateX x))) ∧ Below w.heap.size w w'
set_option maxRecDepth 100000 in
set_option maxHeartbeats 1000000 in
theorem rshrate_any (x : Nat) (hx : x < 18446744073709551616) (w : World) : Calls Tryd.prog 17 #[.int .u64 (x : Int)] w (RShRateP x w) := by
  obtain ⟨p, hp⟩ : ∃ p, p = x / 1000000 := ⟨_, rfl⟩
  obtain ⟨q, hq⟩ : ∃ q, q = x / 1000 := ⟨_, rfl⟩
  obtain ⟨p', hp'⟩ : ∃ p', p' = x % 1000000 := ⟨_, rfl⟩
  obtain ⟨q', hq'⟩ : ∃ q', q' = x % 1000 := ⟨_, rfl⟩
  have a1 : (x : Int) / 1000000 = (p : Int) := by omega
  have a2 : (x : Int) / 1000 = (q : Int) := by omega
  have a3 : (x : Int).tdiv 1000000 = (p : Int) := by rw [Int.tdiv_eq_ediv_of_nonneg (by omega)]; omega
  have a4 : (x : Int).tdiv 1000 = (q : Int) := by rw [Int.tdiv_eq_ediv_of_nonneg (by omega)]; omega
  have b1 : (x : Int) % 1000000 = (p' : Int) := by omega
  have b2 : (x : Int) % 1000 = (q' : Int) := by omega
  have b3 : (x : Int).tmod 1000000 = (p' : Int) := by rw [Int.tmod_eq_emod_of_nonneg (by omega)]; omega
  have b4 : (x : Int).tmod 1000 = (q' : Int) := by rw [Int.tmod_eq_emod_of_nonneg (by omega)]; omega
  have SP : ∀ W, Hid (Calls Tryd.prog 16 #[.int .u64 (p : Int)] W (RShowP p W)) := fun W => Lib.hid (rshow_any p (by omega) W)
  have SQ : ∀ W, Hid (Calls Tryd.prog 16 #[.int .u64 (q : Int)] W (RShowP q W)) := fun W => Lib.hid (rshow_any q (by omega) W)
  have SX : ∀ W, Hid (Calls Tryd.prog 16 #[.int .u64 (x : Int)] W (RShowP x W)) := fun W => Lib.hid (rshow_any x hx W)
  have zp : (txt (dec p)).size ≤ 20 := by rw [txt_size]; exact dec_len20 (by omega)
  have zq : (txt (dec q)).size ≤ 20 := by rw [txt_size]; exact dec_len20 (by omega)
  have cp : txt (dec p) ++ (ByteArray.mk #[109]) = txt (dec p ++ [109]) := txt_catS _ [109]
  have cq : txt (dec q) ++ (ByteArray.mk #[107]) = txt (dec q ++ [107]) := txt_catS _ [107]
  by_cases h1 : 0 < x ∧ x % 1000000 = 0
  · have HV : Hid (showRateX x = dec p ++ [109]) := Lib.hid (by unfold showRateX; rw [if_pos h1, hp])
    have g1 : (0 : Int) < (x : Int) := by omega
    obtain rfl : p' = 0 := by omega
    clear hp hq hp' hq' a2 a4 b2 b4 h1
    go_enter Tryd.func17, Tryd.ntmps17
    go_wp2_with fail
    refine (SP _).out.mono ?_
    rintro r w2 ⟨rfl, hB⟩
    go_wp2
    go_ret
    exact ⟨by rw [HV.out]; rfl, hB⟩
  by_cases h2 : 0 < x ∧ x % 1000 = 0
  · have HV : Hid (showRateX x = dec q ++ [107]) := Lib.hid (by unfold showRateX; rw [if_neg h1, if_pos h2, hq])
    have g1 : (0 : Int) < (x : Int) := by omega
    have n1 : ((p' : Int) == 0) = false := beq_eq_false_iff_ne.2 (by omega)
    obtain rfl : q' = 0 := by omega
    clear hp hq hp' hq' a1 a3 h1 h2
    go_enter Tryd.func17, Tryd.ntmps17
    go_wp2_with fail
    refine (SQ _).out.mono ?_
    rintro r w2 ⟨rfl, hB⟩
    go_wp2
    go_ret
    exact ⟨by rw [HV.out]; rfl, hB⟩
  have HV : Hid (showRateX x = dec x) := Lib.hid (by unfold showRateX; rw [if_neg h1, if_neg h2])
  have hw : ¬ (0 : Int) < (x : Int) ∨ ((0 : Int) < (x : Int) ∧ ((p' : Int) == 0) = false ∧ ((q' : Int) == 0) = false) := by
    by_cases h : 0 < x
    · exact .inr ⟨by omega, beq_eq_false_iff_ne.2 (by omega), beq_eq_false_iff_ne.2 (by omega)⟩
    · exact .inl (by omega)
  clear hp hq hp' hq' h1 h2
  rcases hw with g1 | ⟨g1, g2, g3⟩
  all_goals
    go_enter Tryd.func17, Tryd.ntmps17
    go_wp2_with fail
    refine (SX _).out.mono ?_
    rintro r w2 ⟨rfl, hB⟩
    go_wp2
    go_ret
    exact ⟨by rw [HV.out]; rfl, hB⟩

def RIdentP (s : List UInt8) (w : World) (r : Ending) (w' : World) : Prop := r = .returned (.bool (identX s)) ∧ w = w'
/-- As far as it was looked at. -/
def idL (s : List UInt8) (k : Nat) : Prop := (∀ c, 0 < k → s[0]? = some c → smB c = true) ∧ ∀ j c, j < k → s[j]? = some c → nmB c = true
theorem idL_all {s : List UInt8} (h : idL s s.length) : identX s = (!s.isEmpty && decide (s.length ≤ 12)) := by
  cases s with
  | nil => rfl
  | cons c r =>
    have h1 := h.1 c (by simp) rfl
    have h2 : r.all nmB = true := List.all_eq_true.2 (fun d hd => by
      obtain ⟨j, hj, rfl⟩ := List.getElem_of_mem hd
      exact h.2 (j + 1) _ (by simp; omega) (by rw [List.getElem?_cons_succ]; exact List.getElem?_eq_getElem hj))
    simp [identX, h1, h2]
theorem id_bad {s : List UInt8} {k : Nat} {c : UInt8} (hc : s[k]? = some c) (h : smB c = false) (h2 : k = 0 ∨ nmB c = false) : identX s = false := by
  cases s with
  | nil => rfl
  | cons d r =>
    cases k with
    | zero =>
      simp at hc
      subst hc
      simp [identX, h]
    | succ k =>
      have h3 : nmB c = false := by rcases h2 with h2 | h2; cases h2; exact h2
      have h4 : r.all nmB = false := List.all_eq_false.2 ⟨c, List.mem_of_getElem? (by simpa using hc), by rw [h3]; decide⟩
      simp [identX, h4]
theorem idL_step {s : List UInt8} {k : Nat} {c : UInt8} (hc : s[k]? = some c) (h : idL s k) (h1 : smB c = true ∨ (k ≠ 0 ∧ nmB c = true)) : idL s (k + 1) := by
  have hn : nmB c = true := by rcases h1 with h1 | h1; exact sm_nm h1; exact h1.2
  refine ⟨fun d _ hd => ?_, fun j d hj hd => ?_⟩
  · by_cases e : k = 0
    · subst e
      rw [hc] at hd
      injection hd with hd
      rcases h1 with h1 | h1
      · rw [← hd]; exact h1
      · exact absurd rfl h1.1
    · exact h.1 d (by omega) hd
  · by_cases e : j = k
    · subst e
      rw [hc] at hd
      injection hd with hd
      rw [← hd]; exact hn
    · exact h.2 j d (by omega) hd
theorem sm_cases (c : UInt8) : (smB c = true ∧ 97 ≤ (c.toNat : Int) ∧ (c.toNat : Int) ≤ 122) ∨ (smB c = false ∧ (¬ 97 ≤ (c.toNat : Int) ∨ (97 ≤ (c.toNat : Int) ∧ ¬ (c.toNat : Int) ≤ 122))) := by
  unfold smB
  by_cases h1 : 97 ≤ c.toNat
  · by_cases h2 : c.toNat ≤ 122
    · exact .inl ⟨by simp [h1, h2], by omega, by omega⟩
    · exact .inr ⟨by simp [h2], .inr ⟨by omega, by omega⟩⟩
  · exact .inr ⟨by simp [h1], .inl (by omega)⟩
theorem nm_cases {c : UInt8} (h : smB c = false) : (nmB c = true ∧ (((c.toNat : Int) == 45) = true ∨ (((c.toNat : Int) == 45) = false ∧ ¬ (c.toNat : Int) < 48 ∧ ¬ 57 < (c.toNat : Int)))) ∨
    (nmB c = false ∧ ((c.toNat : Int) == 45) = false ∧ ((c.toNat : Int) < 48 ∨ (¬ (c.toNat : Int) < 48 ∧ 57 < (c.toNat : Int)))) := by
  have e45 : c = 45 ↔ c.toNat = 45 := by
    rw [← UInt8.toNat_inj]
    rfl
  unfold nmB
  rw [h]
  by_cases h0 : c = 45
  · have h45 := e45.1 h0
    exact .inl ⟨by simp [h0], .inl (by simp; omega)⟩
  · have hn : (c == 45) = false := beq_eq_false_iff_ne.2 h0
    have hm : ((c.toNat : Int) == 45) = false := beq_eq_false_iff_ne.2 (fun e => h0 (e45.2 (by omega)))
    by_cases h1 : 48 ≤ c.toNat
    · by_cases h2 : c.toNat ≤ 57
      · exact .inl ⟨by simp [h1, h2], .inr ⟨hm, by omega, by omega⟩⟩
      · exact .inr ⟨by simp [h2, hn], hm, .inr ⟨by omega, by omega⟩⟩
    · exact .inr ⟨by simp [h1, hn], hm, .inl (by omega)⟩
set_option maxRecDepth 100000 in
set_option maxHeartbeats 1000000 in
theorem rident_any (s : List UInt8) (hs : s.length ≤ 100000) (w : World) : Calls Tryd.prog 13 #[.string (txt s)] w (RIdentP s w) := by
  have hsz := txt_size s
  have ts : (txt s).toList = s := txt_toList s
  go_enter Tryd.func13, Tryd.ntmps13
  go_wp2
  go_loop [3] (fun i => ∃ k : Nat, k ≤ s.length ∧ i = .int .i64 (k : Int) ∧ Hid (idL s k)) (fun i => s.length - (intOf i).toNat)
  case atStart => exact ⟨0, by omega, rfl, Lib.hid ⟨fun c h => by omega, fun j c h => by omega⟩⟩
  case round =>
    obtain ⟨k, hk, rfl, HK⟩ := hrel
    by_cases h1 : k < s.length
    · have d1 : (k : Int) < (s.length : Int) := by omega
      obtain ⟨c, hc⟩ : ∃ c, s[k]? = some c := ⟨_, List.getElem?_eq_getElem h1⟩
      have hin : k < (txt s).size := by rw [hsz]; exact h1
      have hix : (((txt s)[k]'hin).toNat : Int) = (c.toNat : Int) := by rw [txt_get s k h1 hin]; rw [List.getElem?_eq_getElem h1] at hc; injection hc with hc; rw [hc]
      have HC := Lib.hid hc
      rcases sm_cases c with ⟨hb, g1, g2⟩ | ⟨hb, g⟩
      · have HS := Lib.hid (idL_step hc HK.out (.inl hb))
        clear hc hb HK
        generalize c.toNat = m at hix g1 g2
        go_wp2
        go_round
        case rel => exact ⟨k + 1, by omega, by go_num, HS⟩
        case measure => simp [intOf]; omega
      · have hk0 : (k = 0 ∧ Hid (identX s = false)) ∨ (((k : Int) == 0) = false ∧ Hid (k ≠ 0)) := by
          by_cases e : k = 0
          · exact .inl ⟨e, Lib.hid (id_bad hc hb (.inl e))⟩
          · exact .inr ⟨beq_eq_false_iff_ne.2 (by omega), Lib.hid e⟩
        rcases hk0 with ⟨rfl, HF⟩ | ⟨n0, HN0⟩
        · clear hc hb HK
          generalize c.toNat = m at hix g
          rcases g with g | ⟨g, g'⟩
          all_goals
            go_wp2
            go_ret
            exact ⟨by rw [HF.out]; rfl, rfl⟩
        rcases nm_cases hb with ⟨hn, q⟩ | ⟨hn, q1, q⟩
        · have HS := Lib.hid (idL_step hc HK.out (.inr ⟨HN0.out, hn⟩))
          clear hc hb HK hn
          generalize c.toNat = m at hix g q
          have qq : (((m : Int) == 45) = true ∧ ((m : Int) != 45) = false) ∨ ((((m : Int) == 45) = false ∧ ((m : Int) != 45) = true) ∧ ¬ (m : Int) < 48 ∧ ¬ 57 < (m : Int)) := by
            rcases q with q | ⟨q, q'⟩
            · exact .inl ⟨q, by unfold bne; rw [q]; rfl⟩
            · exact .inr ⟨⟨q, by unfold bne; rw [q]; rfl⟩, q'⟩
          clear q
          rcases g with g | ⟨g, g'⟩ <;> rcases qq with ⟨q0, q⟩ | ⟨⟨q0, q⟩, q', q''⟩
          all_goals
            go_wp2
            go_round
            case rel => exact ⟨k + 1, by omega, by go_num, HS⟩
            case measure => simp [intOf]; omega
        · have HF : Hid (identX s = false) := Lib.hid (id_bad hc hb (.inr hn))
          clear hc hb HK hn
          generalize c.toNat = m at hix g q q1
          have q2 : ((m : Int) != 45) = true := by unfold bne; rw [q1]; rfl
          rcases g with g | ⟨g, g'⟩ <;> rcases q with q | ⟨q, q'⟩
          all_goals
            go_wp2
            go_ret
            exact ⟨by rw [HF.out]; rfl, rfl⟩
    · obtain rfl : k = s.length := by omega
      have HV := Lib.hid (idL_all HK.out)
      have hw : (s = []) ∨ (s.isEmpty = false ∧ ¬ (s.length : Int) ≤ 12) ∨ (s.isEmpty = false ∧ (s.length : Int) ≤ 12) := by
        cases s with
        | nil => exact .inl rfl
        | cons a r =>
          by_cases h : (a :: r).length ≤ 12
          · exact .inr (.inr ⟨rfl, by omega⟩)
          · exact .inr (.inl ⟨rfl, by omega⟩)
      clear HK h1
      rcases hw with rfl | ⟨hE, d⟩ | ⟨hE, d⟩
      · go_wp2
        go_ret
        exact ⟨by rw [HV.out]; rfl, rfl⟩
      · have HV2 : Hid (identX s = false) := Lib.hid (by rw [HV.out, hE, Bool.not_false, Bool.true_and]; exact decide_eq_false (by omega))
        clear HV
        go_wp2
        go_ret
        exact ⟨by rw [HV2.out]; rfl, rfl⟩
      · have HV2 : Hid (identX s = true) := Lib.hid (by rw [HV.out, hE, Bool.not_false, Bool.true_and]; exact decide_eq_true (by omega))
        clear HV
        go_wp2
        go_ret
        exact ⟨by rw [HV2.out]; rfl, rfl⟩

end Go.Proofs.YtpaapjafnjipfaaDoor
