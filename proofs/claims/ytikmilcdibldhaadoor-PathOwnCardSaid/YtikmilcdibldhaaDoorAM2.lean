/- SclRefC StvIdt ForestB TreMem Drawn -/
import Derived.Test.YtikmilcdibldhaaDoorAM1
import Derived.Test.YtikmilcdibldhaaDoorAM0
import Derived.ArgAppend
import Derived.Test.YtikmilcdibldhaaDoorRows
import Derived.Deep.RegionHeld3
set_option linter.unusedSimpArgs false
set_option linter.unusedVariables false
namespace Go.Proofs.YtikmilcdibldhaaDoor
open Go.RowKit
def RIdentP (s : List UInt8) (w : World) (r : Ending) (w' : World) : Prop := r = .returned (.bool (identX s)) ∧ w = w'
def idL (s : List UInt8) (k : Nat) : Prop := (∀ c, 0 < k → s[0]? = some c → smB c = true) ∧ ∀ j c, j < k → s[j]? = some c → nmB c = true
theorem idL_all {s : List UInt8} (h : idL s s.length) : identX s = (!s.isEmpty && decide (s.length ≤ 12)) := by
 cases s with
 | nil => rfl
 | cons c r =>
  have h1 := h.1 c (by simp) rfl
  have h2 : r.all nmB = true := List.all_eq_true.2 (fun d hd => by
   obtain ⟨j, hj, rfl⟩ := List.getElem_of_mem hd
   exact h.2 (j + 1) _ (by simp; omega) (by rw [List.getElem?_cons_succ]; exact List.getElem?_eq_getElem hj))
  simp [identX, h1, h2]
theorem id_bad {s : List UInt8} {k : Nat} {c : UInt8} (hc : s[k]? = some c) (h : smB c = false) (h2 : k = 0 ∨ nmB c = false) : identX s = false := by
 cases s with
 | nil => rfl
 | cons d r =>
  cases k with
  | zero =>
   simp at hc
   subst hc
   simp [identX, h]
  | succ k =>
   have h3 : nmB c = false := by rcases h2 with h2 | h2; cases h2; exact h2
   have h4 : r.all nmB = false := List.all_eq_false.2 ⟨c, List.mem_of_getElem? (by simpa using hc), by rw [h3]; decide⟩
   simp [identX, h4]
theorem idL_step {s : List UInt8} {k : Nat} {c : UInt8} (hc : s[k]? = some c) (h : idL s k) (h1 : smB c = true ∨ (k ≠ 0 ∧ nmB c = true)) : idL s (k + 1) := by
 have hn : nmB c = true := by rcases h1 with h1 | h1; exact sm_nm h1; exact h1.2
 refine ⟨fun d _ hd => ?_, fun j d hj hd => ?_⟩
 ·by_cases e : k = 0
  ·subst e
   rw [hc] at hd
   injection hd with hd
   rcases h1 with h1 | h1
   ·rw [← hd]; exact h1
   ·exact absurd rfl h1.1
  ·exact h.1 d (by omega) hd
 ·by_cases e : j = k
  ·subst e
   rw [hc] at hd
   injection hd with hd
   rw [← hd]; exact hn
  ·exact h.2 j d (by omega) hd
theorem sm_cases (c : UInt8) : (smB c = true ∧ 97 ≤ (c.toNat : Int) ∧ (c.toNat : Int) ≤ 122) ∨ (smB c = false ∧ (¬ 97 ≤ (c.toNat : Int) ∨ (97 ≤ (c.toNat : Int) ∧ ¬ (c.toNat : Int) ≤ 122))) := by
 unfold smB
 by_cases h1 : 97 ≤ c.toNat
 ·by_cases h2 : c.toNat ≤ 122
  ·exact .inl ⟨by simp [h1, h2], by omega, by omega⟩
  ·exact .inr ⟨by simp [h2], .inr ⟨by omega, by omega⟩⟩
 ·exact .inr ⟨by simp [h1], .inl (by omega)⟩
theorem nm_cases {c : UInt8} (h : smB c = false) : (nmB c = true ∧ (((c.toNat : Int) == 45) = true ∨ (((c.toNat : Int) == 45) = false ∧ ¬ (c.toNat : Int) < 48 ∧ ¬ 57 < (c.toNat : Int)))) ∨
  (nmB c = false ∧ ((c.toNat : Int) == 45) = false ∧ ((c.toNat : Int) < 48 ∨ (¬ (c.toNat : Int) < 48 ∧ 57 < (c.toNat : Int)))) := by
 have e45 : c = 45 ↔ c.toNat = 45 := by
  rw [← UInt8.toNat_inj]
  rfl
 unfold nmB
 rw [h]
 by_cases h0 : c = 45
 ·have h45 := e45.1 h0
  exact .inl ⟨by simp [h0], .inl (by simp; omega)⟩
 ·have hn : (c == 45) = false := beq_eq_false_iff_ne.2 h0
  have hm : ((c.toNat : Int) == 45) = false := beq_eq_false_iff_ne.2 (fun e => h0 (e45.2 (by omega)))
  by_cases h1 : 48 ≤ c.toNat
  ·by_cases h2 : c.toNat ≤ 57
   ·exact .inl ⟨by simp [h1, h2], .inr ⟨hm, by omega, by omega⟩⟩
   ·exact .inr ⟨by simp [h2, hn], hm, .inr ⟨by omega, by omega⟩⟩
  ·exact .inr ⟨by simp [h1, hn], hm, .inl (by omega)⟩
set_option maxRecDepth 100000 in
set_option maxHeartbeats 1000000 in
theorem rident_any (s : List UInt8) (hs : s.length ≤ 9223372036854775807) (w : World) : Calls Tryd.prog 22 #[.string (txt s)] w (RIdentP s w) := by
 have hsz := txt_size s
 have ts : (txt s).toList = s := txt_toList s
 go_enter Tryd.func22, Tryd.ntmps22
 go_wp2
 go_loop [3] (fun i => ∃ k : Nat, k ≤ s.length ∧ i = .int .i64 (k : Int) ∧ Hid (idL s k)) (fun i => s.length - (intOf i).toNat)
 case atStart => exact ⟨0, by omega, rfl, Lib.hid ⟨fun c h => by omega, fun j c h => by omega⟩⟩
 case round =>
  obtain ⟨k, hk, rfl, HK⟩ := hrel
  by_cases h1 : k < s.length
  ·have d1 : (k : Int) < (s.length : Int) := by omega
   obtain ⟨c, hc⟩ : ∃ c, s[k]? = some c := ⟨_, List.getElem?_eq_getElem h1⟩
   have hin : k < (txt s).size := by rw [hsz]; exact h1
   have hix : (((txt s)[k]'hin).toNat : Int) = (c.toNat : Int) := by rw [txt_get s k h1 hin]; rw [List.getElem?_eq_getElem h1] at hc; injection hc with hc; rw [hc]
   have HC := Lib.hid hc
   rcases sm_cases c with ⟨hb, g1, g2⟩ | ⟨hb, g⟩
   ·have HS := Lib.hid (idL_step hc HK.out (.inl hb))
    clear hc hb HK
    generalize c.toNat = m at hix g1 g2
    go_wp2
    go_round
    case rel => exact ⟨k + 1, by omega, by go_num, HS⟩
    case measure => simp [intOf]; omega
   ·have hk0 : (k = 0 ∧ Hid (identX s = false)) ∨ (((k : Int) == 0) = false ∧ Hid (k ≠ 0)) := by
     by_cases e : k = 0
     ·exact .inl ⟨e, Lib.hid (id_bad hc hb (.inl e))⟩
     ·exact .inr ⟨beq_eq_false_iff_ne.2 (by omega), Lib.hid e⟩
    rcases hk0 with ⟨rfl, HF⟩ | ⟨n0, HN0⟩
    ·clear hc hb HK
     generalize c.toNat = m at hix g
     rcases g with g | ⟨g, g'⟩
     all_goals
      go_wp2
      go_ret
      exact ⟨by rw [HF.out]; rfl, rfl⟩
    rcases nm_cases hb with ⟨hn, q⟩ | ⟨hn, q1, q⟩
    ·have HS := Lib.hid (idL_step hc HK.out (.inr ⟨HN0.out, hn⟩))
     clear hc hb HK hn
     generalize c.toNat = m at hix g q
     have qq : (((m : Int) == 45) = true ∧ ((m : Int) != 45) = false) ∨ ((((m : Int) == 45) = false ∧ ((m : Int) != 45) = true) ∧ ¬ (m : Int) < 48 ∧ ¬ 57 < (m : Int)) := by
      rcases q with q | ⟨q, q'⟩
      ·exact .inl ⟨q, by unfold bne; rw [q]; rfl⟩
      ·exact .inr ⟨⟨q, by unfold bne; rw [q]; rfl⟩, q'⟩
     clear q
     rcases g with g | ⟨g, g'⟩ <;> rcases qq with ⟨q0, q⟩ | ⟨⟨q0, q⟩, q', q''⟩
     all_goals
      go_wp2
      go_round
      case rel => exact ⟨k + 1, by omega, by go_num, HS⟩
      case measure => simp [intOf]; omega
    ·have HF : Hid (identX s = false) := Lib.hid (id_bad hc hb (.inr hn))
     clear hc hb HK hn
     generalize c.toNat = m at hix g q q1
     have q2 : ((m : Int) != 45) = true := by unfold bne; rw [q1]; rfl
     rcases g with g | ⟨g, g'⟩ <;> rcases q with q | ⟨q, q'⟩
     all_goals
      go_wp2
      go_ret
      exact ⟨by rw [HF.out]; rfl, rfl⟩
  ·obtain rfl : k = s.length := by omega
   have HV := Lib.hid (idL_all HK.out)
   have hw : (s = []) ∨ (s.isEmpty = false ∧ ¬ (s.length : Int) ≤ 12) ∨ (s.isEmpty = false ∧ (s.length : Int) ≤ 12) := by
    cases s with
    | nil => exact .inl rfl
    | cons a r =>
     by_cases h : (a :: r).length ≤ 12
     ·exact .inr (.inr ⟨rfl, by omega⟩)
     ·exact .inr (.inl ⟨rfl, by omega⟩)
   clear HK h1
   rcases hw with rfl | ⟨hE, d⟩ | ⟨hE, d⟩
   ·go_wp2
    go_ret
    exact ⟨by rw [HV.out]; rfl, rfl⟩
   ·have HV2 : Hid (identX s = false) := Lib.hid (by rw [HV.out, hE, Bool.not_false, Bool.true_and]; exact decide_eq_false (by omega))
    clear HV
    go_wp2
    go_ret
    exact ⟨by rw [HV2.out]; rfl, rfl⟩
   ·have HV2 : Hid (identX s = true) := Lib.hid (by rw [HV.out, hE, Bool.not_false, Bool.true_and]; exact decide_eq_true (by omega))
    clear HV
    go_wp2
    go_ret
    exact ⟨by rw [HV2.out]; rfl, rfl⟩
end Go.Proofs.YtikmilcdibldhaaDoor
namespace Go.Proofs.YtikmilcdibldhaaDoor
open Go.RowKit
def SmP (c : UInt8) (w : World) (r : Ending) (w' : World) : Prop := r = .returned (.bool (smB c)) ∧ w = w'
theorem letter_any (c : UInt8) (w : World) : Calls Tryd.prog 35 #[.int .u8 (c.toNat : Int)] w (SmP c w) := by
 rcases sm_cases c with ⟨hb, g1, g2⟩ | ⟨hb, g⟩
 ·have HB := Lib.hid hb
  clear hb
  obtain ⟨m, hm⟩ : ∃ m, m = c.toNat := ⟨_, rfl⟩
  rw [← hm] at g1 g2 ⊢
  clear hm
  go_enter Tryd.func35, Tryd.ntmps35
  go_wp2
  go_ret
  exact ⟨by rw [HB.out]; rfl, rfl⟩
 ·have HB := Lib.hid hb
  clear hb
  obtain ⟨m, hm⟩ : ∃ m, m = c.toNat := ⟨_, rfl⟩
  rw [← hm] at g ⊢
  clear hm
  rcases g with g | ⟨g1, g2⟩
  all_goals
   go_enter Tryd.func35, Tryd.ntmps35
   go_wp2
   go_ret
   exact ⟨by rw [HB.out]; rfl, rfl⟩
theorem nm_ways (c : UInt8) (h : smB c = false) : (nmB c = true ∧ ((48 ≤ (c.toNat : Int) ∧ (c.toNat : Int) ≤ 57) ∨ (¬ 48 ≤ (c.toNat : Int) ∧ ((c.toNat : Int) == 45) = true))) ∨
  (nmB c = false ∧ ((c.toNat : Int) == 45) = false ∧ (¬ 48 ≤ (c.toNat : Int) ∨ (48 ≤ (c.toNat : Int) ∧ ¬ (c.toNat : Int) ≤ 57))) := by
 rcases nm_cases h with ⟨h1, h2⟩ | ⟨h1, h2, h3⟩
 ·refine .inl ⟨h1, ?_⟩
  rcases h2 with h2 | ⟨h2, h3, h4⟩
  ·have : (c.toNat : Int) = 45 := beq_iff_eq.1 h2
   exact .inr ⟨by omega, h2⟩
  ·exact .inl ⟨by omega, by omega⟩
 ·refine .inr ⟨h1, h2, ?_⟩
  rcases h3 with h3 | ⟨h3, h4⟩
  ·exact .inl (by omega)
  ·exact .inr ⟨by omega, by omega⟩
def NmP (c : UInt8) (w : World) (r : Ending) (w' : World) : Prop := r = .returned (.bool (nmB c)) ∧ w = w'
set_option maxHeartbeats 1000000 in
theorem inName_any (c : UInt8) (w : World) : Calls Tryd.prog 36 #[.int .u8 (c.toNat : Int)] w (NmP c w) := by
 have HL := Lib.hid (letter_any c w)
 cases hb : smB c with
 | true =>
  have HN := Lib.hid (sm_nm hb)
  have HS := Lib.hid hb
  clear hb
  go_enter Tryd.func36, Tryd.ntmps36
  go_wp2_with fail
  refine HL.out.mono ?_
  rintro r w1 ⟨rfl, rfl⟩
  rw [HS.out]
  clear HL
  go_wp2
  go_ret
  exact ⟨by rw [HN.out]; rfl, rfl⟩
 | false =>
  have HS := Lib.hid hb
  have g := nm_ways c hb
  clear hb
  have HL : Hid (Calls Tryd.prog 35 #[.int .u8 (c.toNat : Int)] w fun r w' => r = .returned (.bool false) ∧ w = w') := Lib.hid (HL.out.mono fun r w' h => ⟨by rw [h.1, HS.out], h.2⟩)
  have HQ : Hid (∀ b, nmB c = b → NmP c w (.returned (.bool b)) w) := Lib.hid (fun b e => ⟨by rw [e], rfl⟩)
  rcases g with ⟨h1, g⟩ | ⟨h1, g0, g⟩
  ·have HN := Lib.hid h1
   clear h1 HS
   generalize c.toNat = m at g HL
   rcases g with ⟨g1, g2⟩ | ⟨g1, g2⟩
   all_goals
    go_enter Tryd.func36, Tryd.ntmps36
    go_wp2_with fail
    refine HL.out.mono ?_
    rintro r w1 ⟨rfl, rfl⟩
    clear HL
    go_wp2
    go_ret
    exact HQ.out _ HN.out
  ·have HN := Lib.hid h1
   clear h1 HS
   generalize c.toNat = m at g g0 HL
   rcases g with g1 | ⟨g1, g2⟩
   ·go_enter Tryd.func36, Tryd.ntmps36
    go_wp2_with fail
    refine HL.out.mono ?_
    rintro r w1 ⟨rfl, rfl⟩
    clear HL
    go_wp2
    go_ret
    exact HQ.out _ HN.out
   ·go_enter Tryd.func36, Tryd.ntmps36
    go_wp2_with fail
    refine HL.out.mono ?_
    rintro r w1 ⟨rfl, rfl⟩
    clear HL
    go_wp2
    go_ret
    exact HQ.out _ (HN.out.trans (decide_eq_false (by omega)).symm)
def IdentP (s : List UInt8) (w : World) (r : Ending) (w' : World) : Prop := r = .returned (.bool (identX s)) ∧ w = w'
def nmL (s : List UInt8) (k : Nat) : Prop := ∀ j c, j < k → s[j]? = some c → nmB c = true
theorem nmL_step {s : List UInt8} {k : Nat} {c : UInt8} (hc : s[k]? = some c) (h : nmL s k) (h1 : nmB c = true) : nmL s (k + 1) := by
 intro j d hj hd
 by_cases e : j = k
 ·subst e
  rw [hc] at hd
  injection hd with hd
  rw [← hd]; exact h1
 ·exact h j d (by omega) hd
theorem nmL_all {c : UInt8} {r : List UInt8} (h1 : smB c = true) (h2 : (c :: r).length ≤ 12) (h : nmL (c :: r) (c :: r).length) : identX (c :: r) = true := by
 rw [idL_all ⟨fun d _ hd => by simp at hd; rw [← hd]; exact h1, h⟩]
 simp
 simpa using h2
theorem ident_bad {s : List UInt8} {k : Nat} {c : UInt8} (hc : s[k]? = some c) (h : nmB c = false) : identX s = false :=
 id_bad hc (by cases hb : smB c with | false => rfl | true => rw [sm_nm hb] at h; cases h) (.inr h)
set_option maxRecDepth 100000 in
set_option maxHeartbeats 2000000 in
theorem ident_any (s : List UInt8) (hs : s.length ≤ 9223372036854775807) (w : World) : Calls Tryd.prog 23 #[.string (txt s)] w (IdentP s w) := by
 cases s with
 | nil =>
  have e0 : txt [] = (⟨#[]⟩ : ByteArray) := rfl
  rw [e0]
  go_enter Tryd.func23, Tryd.ntmps23
  go_wp2
  go_ret
  exact ⟨rfl, rfl⟩
 | cons c r =>
 have hsz := txt_size (c :: r)
 have ts : (txt (c :: r)).toList = c :: r := txt_toList _
 have hE : (c :: r).isEmpty = false := rfl
 have hN : ((c :: r) == []) = false := rfl
 by_cases h12 : (c :: r).length ≤ 12
 ·have i12 : ¬ ((12 : Int) < ((c :: r).length : Int)) := by omega
  have hin : 0 < (txt (c :: r)).size := by rw [hsz]; simp
  have hix : (((txt (c :: r))[0]'hin).toNat : Int) = (c.toNat : Int) := by rw [txt_get (c :: r) 0 (by simp) hin]; rfl
  have HL := Lib.hid (letter_any c w)
  cases hb : smB c with
  | false =>
   have HV : Hid (identX (c :: r) = false) := Lib.hid (ident_no hb r)
   have HS := Lib.hid hb
   clear hb
   generalize c :: r = s at *
   go_enter Tryd.func23, Tryd.ntmps23
   go_wp2_with fail
   refine HL.out.mono ?_
   rintro e w1 ⟨rfl, rfl⟩
   rw [HS.out]
   clear HL
   go_wp2
   go_ret
   exact ⟨by rw [HV.out]; rfl, rfl⟩
  | true =>
   have HV : Hid (nmL (c :: r) (c :: r).length → identX (c :: r) = true) := Lib.hid (fun h => nmL_all hb h12 h)
   have HS := Lib.hid hb
   clear hb
   have hpos : 0 < (c :: r).length := by simp
   generalize c :: r = s at *
   go_enter Tryd.func23, Tryd.ntmps23
   go_wp2_with fail
   refine HL.out.mono ?_
   rintro e w1 ⟨rfl, rfl⟩
   rw [HS.out]
   clear HL hix
   go_wp2
   go_loop [3, 19] (fun v i => ∃ k : Nat, k ≤ s.length ∧ i = .int .i64 (k : Int) ∧ Hid (nmL s k)) (fun _ i => s.length - (intOf i).toNat)
   case atStart => exact ⟨0, by omega, rfl, Lib.hid (fun j c h => by omega)⟩
   case round =>
    obtain ⟨k, hk, rfl, HK⟩ := hrel
    by_cases h1 : k < s.length
    ·have d1 : (k : Int) < (s.length : Int) := by omega
     obtain ⟨d, hd⟩ : ∃ d, s[k]? = some d := ⟨_, List.getElem?_eq_getElem h1⟩
     have hink : k < (txt s).size := by rw [hsz]; exact h1
     have hixk : (((txt s)[k]'hink).toNat : Int) = (d.toNat : Int) := by rw [txt_get s k h1 hink]; rw [List.getElem?_eq_getElem h1] at hd; injection hd with hd; rw [hd]
     have HN := Lib.hid (inName_any d w)
     cases hn : nmB d with
     | true =>
      have HK2 := Lib.hid (nmL_step hd HK.out hn)
      have HN2 := Lib.hid hn
      clear hd hn HK
      go_wp2_with fail
      refine HN.out.mono ?_
      rintro e w1 ⟨rfl, rfl⟩
      rw [HN2.out]
      clear HN
      go_wp2
      go_round
      case rel => exact ⟨k + 1, by omega, by go_num, HK2⟩
      case measure => simp [intOf]; omega
     | false =>
      have HF : Hid (identX s = false) := Lib.hid (ident_bad hd hn)
      have HN2 := Lib.hid hn
      clear hd hn HK
      go_wp2_with fail
      refine HN.out.mono ?_
      rintro e w1 ⟨rfl, rfl⟩
      rw [HN2.out]
      clear HN
      go_wp2
      go_ret
      exact ⟨by rw [HF.out]; rfl, rfl⟩
    ·obtain rfl : k = s.length := by omega
     have HF : Hid (identX s = true) := Lib.hid (HV.out HK.out)
     clear HK h1
     go_wp2
     go_ret
     exact ⟨by rw [HF.out]; rfl, rfl⟩
 ·have i12 : (12 : Int) < ((c :: r).length : Int) := by omega
  have HV : Hid (identX (c :: r) = false) := Lib.hid (by
   cases h : identX (c :: r) with
   | false => rfl
   | true => exact absurd (ident_len h).2 h12)
  clear h12
  generalize c :: r = s at *
  go_enter Tryd.func23, Tryd.ntmps23
  go_wp2
  go_ret
  exact ⟨by rw [HV.out]; rfl, rfl⟩
end Go.Proofs.YtikmilcdibldhaaDoor
namespace Go.Proofs.YtikmilcdibldhaaDoor
open Go.RowKit
section
variable {α : Type} {D : RdOf α} {e : TypeId} {K p : Nat} {w w' : World} {base : Nat} {S S' N N' : Nat → Prop} {v : Value} {f : Fr α}
theorem FrV.lit {g c : Nat} {xs : List Value} (hS : S g) (hb : Blk w g e xs.toArray) (hr : rowG D K p w S N xs f) (hc : f.len ≤ c) : FrV D K p w S N (.slice (some ⟨g, 0, none⟩) f.len c) f :=
 ⟨_, c, rfl, hc, fun _ => ⟨g, 0, rfl, hS, hr.at (fun j u hj => by
  rw [Nat.zero_add, hb.cell]
  simpa using hj)⟩⟩
theorem OwnK.lit {k n g : Nat} {xs : List Value} (hb : Blk w g e xs.toArray) (hg : base ≤ g) (hl : xs.length = n * k) (hn : n ≤ maxLen) : OwnK e k w base (.slice (some ⟨g, 0, none⟩) n n) n xs :=
 ⟨hl, .inr ⟨g, n, xs.toArray, rfl, hg, hb, Nat.le_refl _, hn, by simpa using hl, by simp [← hl]⟩⟩
theorem OwnG.lit {g : Nat} {xs : List Value} (hb : Blk w g e xs.toArray) (hg : base ≤ g) (hn : f.len ≤ maxLen) (hr : rowG D K p w S N xs f) (hS : ∀ k, S k → k < w.heap.size ∧ k ≠ g) (hN : ∀ k, N k → k < w.heap.size ∧ k ≠ g) : OwnG D e K p w base S N (.slice (some ⟨g, 0, none⟩) f.len f.len) f :=
 ⟨fun k hk => ⟨(hS k hk).1, by intro h; injection h with h; exact (hS k hk).2 h⟩, fun k hk => ⟨(hN k hk).1, by intro h; injection h with h; exact (hN k hk).2 h⟩, xs, OwnK.lit hb hg hr.len hn, hr⟩
theorem OwnG.grown (hD : StayD D) {row : Option Nat} (h : OwnG D e K p w base S N v f) (hg : w.grownBy w' row) (hne : v.ownBlock = none ∨ v.ownBlock ≠ row) (hS : ∀ g, S g → some g ≠ row) (hN : ∀ g, N g → some g ≠ row) : OwnG D e K p w' base S N v f := by
 obtain ⟨h1, h2, xs, h3, h4⟩ := h
 exact ⟨fun g hg' => ⟨Nat.lt_of_lt_of_le (h1 g hg').1 hg.size, (h1 g hg').2⟩, fun g hg' => ⟨Nat.lt_of_lt_of_le (h2 g hg').1 hg.size, (h2 g hg').2⟩, xs, h3.grown hg hne,
  h4.kept hD (fun g hg' => hg.block g (h1 g hg').1 (hS g hg')) (fun _ h => h) (fun g hg' => hg.block g (h2 g hg').1 (hN g hg')) (fun _ h => h)⟩
def AppG (D : RdOf α) (e : TypeId) (K p : Nat) (base : Nat) (S N : Nat → Prop) (w : World) (v : Value) (f : Fr α) (v' : Value) (w' : World) : Prop :=
 OwnG D e K p w' base S N v' f ∧ w.grownBy w' v.ownBlock ∧ (v'.ownBlock = v.ownBlock ∨ v'.ownBlock = some w.heap.size) ∧ ∃ g c, v' = .slice (some ⟨g, 0, none⟩) f.len c
theorem AppG.below {v' : Value} {g : Fr α} (h : AppG D e K p base S N w v g v' w') (hown : OwnG D e K p w base S N v f) (hb : base ≤ w.heap.size) : Below base w w' :=
 (Below.refl _ _).grown h.2.1 hb fun b e => (hown.lt b e).1
theorem wpList_append_g {P : Program} (hD : StayD D) (hO : OneD D) {ts : TypeId} {z : Value} {bytes : Nat} (hu : P.underlying ts = some (.slice e))
  (hinfo : (P.info? e).map (fun i => (i.zero, i.size, i.bytes)) = some (some z, K, bytes)) (hz : z.cells.size = K) (hk : 0 < K) {ops : Array Oper} {rest : List Oper} {o : Oper} {a : Act} {Q : Exit → Act → World → Prop} (hgd : o.guard = none) (s x : Operand)
  (ho : o.op = .call { callee := .builtin .append, args := #[s, x], argTypes := #[ts, ts] }) (hty : o.type = ts)
  (hs : a.eval s = v) (hown : OwnG D e K p w base S N v f) {g : Nat} (hx : a.eval x = .slice (some ⟨g, 0, none⟩) 1 1)
  {ys : List Value} {d : α} {q : Fr α} (hblk : Blk w g e ys.toArray) (hy : FrN D K p w S N ys d q)
  (hb : (f.len + 1) * bytes ≤ 140737488355328) (hlen : f.len + 1 ≤ 140737488355328) (hbase : base ≤ w.heap.size)
  (hK : ∀ v' w', AppG D e K p base S N w v (f.app (.cons d q .nil)) v' w' → wpList P ops Q rest (a.put o.dst v') w') : wpList P ops Q (o :: rest) a w := by
 obtain ⟨hS, hN, xs, h1, h2⟩ := hown
 have hown : OwnG D e K p w base S N v f := ⟨hS, hN, xs, h1, h2⟩
 refine wpList_append_k hu hinfo hz hk hgd s x ho hty base v f.len xs hs h1 g hx ys hblk hy.1 (hO _ _ _ _ hy.2.1) hb hlen hbase fun v' w' hap => hK v' w' ?_
 obtain ⟨k1, k2, k3, gg, c, k4⟩ := hap
 have hl : (f.app (.cons d q .nil)).len = f.len + 1 := by rw [Fr.len_app]; rfl
 exact ⟨hown.app hD h2 (by rw [hl]; exact k1) k2 k3 (rowG.one hy), k2, k3, gg, c, by rw [hl]; exact k4⟩
theorem wp_append_g {P : Program} (hD : StayD D) (hO : OneD D) {ts : TypeId} {z : Value} {bytes : Nat} (hu : P.underlying ts = some (.slice e))
  (hinfo : (P.info? e).map (fun i => (i.zero, i.size, i.bytes)) = some (some z, K, bytes)) (hz : z.cells.size = K) (hk : 0 < K) {o : Oper} {a : Act} {K' : Act → World → Prop} {Q : Exit → Act → World → Prop} (s x : Operand)
  (ho : o.op = .call { callee := .builtin .append, args := #[s, x], argTypes := #[ts, ts] }) (hty : o.type = ts)
  (hs : a.eval s = v) (hown : OwnG D e K p w base S N v f) {g : Nat} (hx : a.eval x = .slice (some ⟨g, 0, none⟩) 1 1)
  {ys : List Value} {d : α} {q : Fr α} (hblk : Blk w g e ys.toArray) (hy : FrN D K p w S N ys d q)
  (hb : (f.len + 1) * bytes ≤ 140737488355328) (hlen : f.len + 1 ≤ 140737488355328) (hbase : base ≤ w.heap.size)
  (hK : ∀ v' w', AppG D e K p base S N w v (f.app (.cons d q .nil)) v' w' → K' (a.put o.dst v') w') : o.wp P a w K' Q := by
 obtain ⟨hS, hN, xs, h1, h2⟩ := hown
 have hown : OwnG D e K p w base S N v f := ⟨hS, hN, xs, h1, h2⟩
 refine wp_append_k hu hinfo hz hk s x ho hty base v f.len xs hs h1 g hx ys hblk hy.1 (hO _ _ _ _ hy.2.1) hb hlen hbase fun v' w' hap => hK v' w' ?_
 obtain ⟨k1, k2, k3, gg, c, k4⟩ := hap
 have hl : (f.app (.cons d q .nil)).len = f.len + 1 := by rw [Fr.len_app]; rfl
 exact ⟨hown.app hD h2 (by rw [hl]; exact k1) k2 k3 (rowG.one hy), k2, k3, gg, c, by rw [hl]; exact k4⟩
end
end Go.Proofs.YtikmilcdibldhaaDoor
namespace Go.Proofs.YtikmilcdibldhaaDoor
open Go.RowKit
abbrev ndC (a : NdD) (kv : Value) : List Value := [.string (txt a.name), .string (txt a.key), .int .i64 a.kind, .int .u64 (a.num : Int), .string (txt a.text), kv]
def NdT : RdOf NdD := fun _ _ cs a => ∃ kv, cs = ndC a kv ∧ kv.oneCell' = true
def NdA : RdOf NdD := fun w N cs a => NdT w N cs a ∧ ∀ b o n c, cs[5]? = some (.slice (some ⟨b, o, none⟩) n c) → o % 6 = 0
def noB : Nat → Prop := fun _ => False
theorem stay_nd : StayD NdT := fun _ _ _ _ _ _ _ _ h => h
def LieB (b : Nat) (w : World) (cs : List Value) (x : Nd) : Prop := FrN NdT 6 5 w (fun g => g < b) noB cs x.1 x.2
def RowT (b : Nat) (w : World) (v : Value) (f : NdF) : Prop := FrV NdT 6 5 w (fun g => g < b) noB v f
abbrev LieN (w : World) (cs : List Value) (x : Nd) : Prop := LieB w.heap.size w cs x
theorem LieB.shape {b : Nat} {w : World} {cs : List Value} {x : Nd} (h : LieB b w cs x) : ∃ A c, cs = ndC x.1 (.slice A x.2.len c) ∧ RowT b w (.slice A x.2.len c) x.2 := by
 obtain ⟨_, ⟨kv, rfl, _⟩, v, h5, h6⟩ := h
 obtain ⟨A, c, rfl⟩ := h6.shape
 simp at h5
 subst h5
 exact ⟨A, c, rfl, h6⟩
theorem LieB.make {b : Nat} {w : World} {a : NdD} {f : NdF} {v : Value} (h : RowT b w v f) : LieB b w (ndC a v) (a, f) := by
 refine ⟨rfl, ⟨v, rfl, ?_⟩, v, rfl, h⟩
 obtain ⟨A, c, rfl⟩ := h.shape
 rfl
theorem LieB.keep {b b' : Nat} {w w' : World} {cs : List Value} {x : Nd} (h : LieB b w cs x) (hk : ∀ g, g < b → w'.heap[g]? = w.heap[g]?) (hb : b ≤ b') : LieB b' w' cs x :=
 FrN.kept stay_nd h hk (fun g hg => Nat.lt_of_lt_of_le hg hb) (fun _ h => h.elim) (fun _ h => h)
theorem RowT.keep {b b' : Nat} {w w' : World} {v : Value} {f : NdF} (h : RowT b w v f) (hk : ∀ g, g < b → w'.heap[g]? = w.heap[g]?) (hb : b ≤ b') : RowT b' w' v f :=
 FrV.kept stay_nd h hk (fun g hg => Nat.lt_of_lt_of_le hg hb) (fun _ h => h.elim) (fun _ h => h)
theorem LieB.under {b b' B : Nat} {w w' : World} {cs : List Value} {x : Nd} (h : LieB b w cs x) (hB : Below B w w') (hb : b ≤ B) (hb' : b ≤ b') : LieB b' w' cs x := h.keep (fun g hg => hB.block g (Nat.lt_of_lt_of_le hg hb)) hb'
theorem RowT.under {b b' B : Nat} {w w' : World} {v : Value} {f : NdF} (h : RowT b w v f) (hB : Below B w w') (hb : b ≤ B) (hb' : b ≤ b') : RowT b' w' v f := h.keep (fun g hg => hB.block g (Nat.lt_of_lt_of_le hg hb)) hb'
theorem LieB.below {w w' : World} {cs : List Value} {x : Nd} (h : LieN w cs x) (hb : Below w.heap.size w w') : LieN w' cs x := h.under hb (Nat.le_refl _) hb.size
theorem RowT.below {w w' : World} {v : Value} {f : NdF} (h : RowT w.heap.size w v f) (hb : Below w.heap.size w w') : RowT w'.heap.size w' v f := h.under hb (Nat.le_refl _) hb.size
theorem LieB.zero (b : Nat) (w : World) : LieB b w (ndC zeroT (.slice none 0 0)) noN := LieB.make (FrV.empty _ _ _)
theorem RowT.at {b : Nat} {w : World} {A : Option Addr} {n c : Nat} {f : NdF} (h : RowT b w (.slice A n c) f) {i : Nat} {y : Nd} (hy : f.get? i = some y) :
  ∃ g o A' c', A = some ⟨g, o, none⟩ ∧ n = f.len ∧ n ≤ c ∧ g < b ∧ RowT b w (.slice A' y.2.len c') y.2 ∧ ∀ j u, (ndC y.1 (.slice A' y.2.len c'))[j]? = some u → w.cell? ⟨g, o + i * 6 + j, none⟩ = some u := by
 obtain ⟨a, k⟩ := y
 obtain ⟨g, o, c1, cs, e, h1, h2, h3, h4⟩ := FrV.at h hy
 injection e with e1 e2 e3
 subst e1 e2 e3
 obtain ⟨A', c', rfl, h6⟩ := LieB.shape (x := (a, k)) h3
 exact ⟨g, o, A', c', rfl, rfl, h1, h2, h6, h4⟩
theorem RowT.len {b : Nat} {w : World} {A : Option Addr} {n c : Nat} {f : NdF} (h : RowT b w (.slice A n c) f) : n = f.len ∧ n ≤ c := by
 obtain ⟨A', c', e, h1, _⟩ := h
 injection e with e1 e2 e3
 subst e2 e3
 exact ⟨rfl, h1⟩
def WayV (b : Nat) (w : World) (v : Value) (l : List Stp) : Prop := ∃ A c, v = .slice A l.length c ∧ l.length ≤ c ∧ (0 < l.length → ∃ g o, A = some ⟨g, o, none⟩ ∧ g < b ∧
 ∀ j s, l[j]? = some s → w.cell? ⟨g, o + j * 2, none⟩ = some (.string (txt s.1)) ∧ w.cell? ⟨g, o + j * 2 + 1, none⟩ = some (.string (txt s.2)))
theorem WayV.keep {b b' : Nat} {w w' : World} {v : Value} {l : List Stp} (h : WayV b w v l) (hk : ∀ g, g < b → w'.heap[g]? = w.heap[g]?) (hb : b ≤ b') : WayV b' w' v l := by
 obtain ⟨A, c, rfl, h1, h2⟩ := h
 refine ⟨A, c, rfl, h1, fun h0 => ?_⟩
 obtain ⟨g, o, rfl, h3, h4⟩ := h2 h0
 refine ⟨g, o, rfl, Nat.lt_of_lt_of_le h3 hb, fun j s hs => ?_⟩
 obtain ⟨h5, h6⟩ := h4 j s hs
 exact ⟨(World.cell?_of_block (w := w) (hk g h3)).trans h5, (World.cell?_of_block (w := w) (hk g h3)).trans h6⟩
theorem WayV.under {b b' B : Nat} {w w' : World} {v : Value} {l : List Stp} (h : WayV b w v l) (hB : Below B w w') (hb : b ≤ B) (hb' : b ≤ b') : WayV b' w' v l := h.keep (fun g hg => hB.block g (Nat.lt_of_lt_of_le hg hb)) hb'
theorem WayV.below {w w' : World} {v : Value} {l : List Stp} (h : WayV w.heap.size w v l) (hb : Below w.heap.size w w') : WayV w'.heap.size w' v l := h.under hb (Nat.le_refl _) hb.size
theorem WayV.shape {b : Nat} {w : World} {v : Value} {l : List Stp} (h : WayV b w v l) : ∃ A c, v = .slice A l.length c := by
 obtain ⟨A, c, h, _⟩ := h; exact ⟨A, c, h⟩
theorem WayV.at {b : Nat} {w : World} {A : Option Addr} {n c : Nat} {l : List Stp} (h : WayV b w (.slice A n c) l) {j : Nat} {s : Stp} (hs : l[j]? = some s) :
  ∃ g o, A = some ⟨g, o, none⟩ ∧ n = l.length ∧ n ≤ c ∧ g < b ∧ w.cell? ⟨g, o + j * 2, none⟩ = some (.string (txt s.1)) ∧ w.cell? ⟨g, o + j * 2 + 1, none⟩ = some (.string (txt s.2)) := by
 have hlt := (List.getElem?_eq_some_iff.1 hs).1
 obtain ⟨A', c', e, h1, h2⟩ := h
 injection e with e1 e2 e3
 subst e1 e2 e3
 obtain ⟨g, o, rfl, h3, h4⟩ := h2 (by omega)
 obtain ⟨h5, h6⟩ := h4 j s hs
 exact ⟨g, o, rfl, rfl, h1, h3, h5, h6⟩
theorem WayV.nil (b : Nat) (w : World) (A : Option Addr) (c : Nat) : WayV b w (.slice A 0 c) [] := ⟨A, c, rfl, Nat.zero_le _, fun h => absurd h (by simp)⟩
theorem WayV.tail {b : Nat} {w : World} {g o n c : Nat} {s : Stp} {l : List Stp} (h : WayV b w (.slice (some ⟨g, o, none⟩) n c) (s :: l)) : WayV b w (.slice (some ⟨g, o + 2, none⟩) l.length (c - 1)) l := by
 obtain ⟨A', c', e, h1, h2⟩ := h
 injection e with e1 e2 e3
 subst e2 e3
 obtain ⟨g', o', e4, h3, h4⟩ := h2 (by simp)
 rw [← e1] at e4
 injection e4 with e4
 injection e4 with e5 e6 e7
 subst e5 e6
 simp only [List.length_cons] at h1
 refine ⟨_, _, rfl, by omega, fun _ => ⟨g, o + 2, rfl, h3, fun j u hu => ?_⟩⟩
 have h5 := h4 (j + 1) u (by simpa using hu)
 rw [show o + (j + 1) * 2 = o + 2 + j * 2 by omega] at h5
 exact h5
theorem WayV.front {b : Nat} {w : World} {A : Option Addr} {n c : Nat} {l : List Stp} (m : Nat) (hm : m ≤ l.length) (h : WayV b w (.slice A n c) l) : WayV b w (.slice A m c) (l.take m) := by
 obtain ⟨A', c', e, h1, h2⟩ := h
 injection e with e1 e2 e3
 subst e1 e2 e3
 have hl : (l.take m).length = m := by rw [List.length_take]; omega
 refine ⟨A, c, by rw [hl], by omega, fun h0 => ?_⟩
 obtain ⟨g, o, rfl, h3, h4⟩ := h2 (by omega)
 refine ⟨g, o, rfl, h3, fun j s hs => h4 j s ?_⟩
 rw [List.getElem?_take] at hs
 split at hs
 ·exact hs
 ·cases hs
def Fresh9 (base : Nat) (w : World) (g : Nat) : Prop := base ≤ g ∧ ∃ cs t, w.heap[g]? = some (.cells cs t (0, 0))
theorem Fresh9.lt {base : Nat} {w : World} {g : Nat} (h : Fresh9 base w g) : g < w.heap.size := by
 obtain ⟨_, cs, t, h⟩ := h
 exact (Array.getElem?_eq_some_iff.1 h).1
def NewT (base : Nat) (w : World) (cs : List Value) (x : Nd) : Prop := ∃ S, (∀ g, S g → Fresh9 base w g) ∧ FrN NdA 6 5 w S noB cs x.1 x.2
theorem FrAt.plain {w : World} {S N : Nat → Prop} : ∀ {f : NdF} {b o : Nat}, FrAt NdA 6 5 w S N f b o → FrAt NdT 6 5 w S N f b o := by
 intro f
 induction f with
 | nil => intro b o _; trivial
 | cons a k r ihk ihr =>
  intro b o ⟨⟨cs, h1, h2, h3, A, c, h4, h5, h6⟩, h7⟩
  refine ⟨⟨cs, h1, h2, h3.1, A, c, h4, h5, fun h0 => ?_⟩, ihr h7⟩
  obtain ⟨b', o', h8, h9, h10⟩ := h6 h0
  exact ⟨b', o', h8, h9, ihk h10⟩
theorem FrV.plain {w : World} {S N : Nat → Prop} {v : Value} {f : NdF} (h : FrV NdA 6 5 w S N v f) : FrV NdT 6 5 w S N v f := by
 obtain ⟨A, c, rfl, h1, h2⟩ := h
 refine ⟨A, c, rfl, h1, fun h0 => ?_⟩
 obtain ⟨b, o, h3, h4, h5⟩ := h2 h0
 exact ⟨b, o, h3, h4, h5.plain⟩
theorem NewT.lies {base : Nat} {w : World} {cs : List Value} {x : Nd} (h : NewT base w cs x) : LieN w cs x := by
 obtain ⟨S, h1, h2, h3, v, h4, h5⟩ := h
 exact FrN.mono stay_nd ⟨h2, h3.1, v, h4, h5.plain⟩ (fun g hg => (h1 g hg).lt) (fun _ h => h)
def TreP (x : Nd) (u : Value) (w : World) (r : Ending) (w' : World) : Prop := ∃ cs, r = .returned (.tuple #[.agg cs.toArray, u]) ∧ NewT w.heap.size w' cs x ∧ Below w.heap.size w w'
def TreP1 (x : Nd) (w : World) (r : Ending) (w' : World) : Prop := ∃ cs, r = .returned (.agg cs.toArray) ∧ NewT w.heap.size w' cs x ∧ Below w.heap.size w w'
def RTreP (x : Nd) (u : Value) (w : World) (r : Ending) (w' : World) : Prop := ∃ cs, r = .returned (.tuple #[.agg cs.toArray, u]) ∧ LieN w' cs x ∧ Below w.heap.size w w'
def RTreP1 (x : Nd) (w : World) (r : Ending) (w' : World) : Prop := ∃ cs, r = .returned (.agg cs.toArray) ∧ LieN w' cs x ∧ Below w.heap.size w w'
def LieP (b B : Nat) (w : World) (cs : List Value) (x : Nd) : Prop := FrN NdT 6 5 w (fun g => g < b ∨ (B ≤ g ∧ g < w.heap.size)) noB cs x.1 x.2
def RowP (b B : Nat) (w : World) (v : Value) (f : NdF) : Prop := FrV NdT 6 5 w (fun g => g < b ∨ (B ≤ g ∧ g < w.heap.size)) noB v f
theorem LieP.shape {b B : Nat} {w : World} {cs : List Value} {x : Nd} (h : LieP b B w cs x) : ∃ A c, cs = ndC x.1 (.slice A x.2.len c) ∧ RowP b B w (.slice A x.2.len c) x.2 := by
 obtain ⟨_, ⟨kv, rfl, _⟩, v, h5, h6⟩ := h
 obtain ⟨A, c, rfl⟩ := h6.shape
 simp at h5
 subst h5
 exact ⟨A, c, rfl, h6⟩
theorem LieP.make {b B : Nat} {w : World} {a : NdD} {f : NdF} {v : Value} (h : RowP b B w v f) : LieP b B w (ndC a v) (a, f) := by
 refine ⟨rfl, ⟨v, rfl, ?_⟩, v, rfl, h⟩
 obtain ⟨A, c, rfl⟩ := h.shape
 rfl
theorem LieP.keep {b B b' B' : Nat} {w w' : World} {cs : List Value} {x : Nd} (h : LieP b B w cs x) (hk : ∀ g, g < b ∨ (B ≤ g ∧ g < w.heap.size) → w'.heap[g]? = w.heap[g]?) (hS : ∀ g, g < b ∨ (B ≤ g ∧ g < w.heap.size) → g < b' ∨ (B' ≤ g ∧ g < w'.heap.size)) : LieP b' B' w' cs x :=
 FrN.kept stay_nd h hk hS (fun _ h => h.elim) (fun _ h => h)
theorem LieP.lies {b B : Nat} {w : World} {cs : List Value} {x : Nd} (h : LieP b B w cs x) (hb : b ≤ w.heap.size) : LieN w cs x :=
 FrN.mono stay_nd h (fun g hg => by rcases hg with h | h <;> omega) (fun _ h => h)
theorem LieB.p {b : Nat} {w : World} {cs : List Value} {x : Nd} (h : LieB b w cs x) (B : Nat) : LieP b B w cs x := FrN.mono stay_nd h (fun g hg => .inl hg) (fun _ h => h)
theorem RowT.p {b : Nat} {w : World} {v : Value} {f : NdF} (h : RowT b w v f) (B : Nat) : RowP b B w v f := FrV.mono stay_nd h (fun g hg => .inl hg) (fun _ h => h)
def PTreP (b : Nat) (x : Nd) (u : Value) (w : World) (r : Ending) (w' : World) : Prop := ∃ cs, r = .returned (.tuple #[.agg cs.toArray, u]) ∧ LieP b w.heap.size w' cs x ∧ Below w.heap.size w w'
def PTreP1 (b : Nat) (x : Nd) (w : World) (r : Ending) (w' : World) : Prop := ∃ cs, r = .returned (.agg cs.toArray) ∧ LieP b w.heap.size w' cs x ∧ Below w.heap.size w w'
theorem PTreP.r {x : Nd} {u : Value} {w : World} {r : Ending} {w' : World} (h : PTreP w.heap.size x u w r w') : RTreP x u w r w' := by
 obtain ⟨cs, h1, h2, h3⟩ := h; exact ⟨cs, h1, h2.lies h3.size, h3⟩
theorem PTreP1.r {x : Nd} {w : World} {r : Ending} {w' : World} (h : PTreP1 w.heap.size x w r w') : RTreP1 x w r w' := by
 obtain ⟨cs, h1, h2, h3⟩ := h; exact ⟨cs, h1, h2.lies h3.size, h3⟩
def Ans9 (v : Value) (w : World) (r : Ending) (w' : World) : Prop := r = .returned v ∧ Below w.heap.size w w'
theorem TreP.r {x : Nd} {u : Value} {w : World} {r : Ending} {w' : World} (h : TreP x u w r w') : RTreP x u w r w' := by
 obtain ⟨cs, h1, h2, h3⟩ := h; exact ⟨cs, h1, h2.lies, h3⟩
theorem TreP1.r {x : Nd} {w : World} {r : Ending} {w' : World} (h : TreP1 x w r w') : RTreP1 x w r w' := by
 obtain ⟨cs, h1, h2, h3⟩ := h; exact ⟨cs, h1, h2.lies, h3⟩
end Go.Proofs.YtikmilcdibldhaaDoor
namespace Go.Proofs.YtikmilcdibldhaaDoor
theorem held_more {P : Program} {md : Region.Mode} {ops : Array Oper} {Q : Exit → Act → World → Prop} {S S' : World → Prop} (h : ∀ w, S' w → S w) :
  ∀ (fuel : Nat) (listed : Array Bool) (a : Act) (w : World), wpAnyH P md ops Q S' fuel listed a w → wpAnyH P md ops Q S fuel listed a w
 | 0, _, _, _, hw => hw
 | fuel + 1, _, _, _, hw => ⟨hw.1, fun i hi => wpOp_mono (fun _ _ hq => ⟨h _ hq.1, held_more h fuel _ _ _ hq.2⟩) (hw.2 i hi)⟩
end Go.Proofs.YtikmilcdibldhaaDoor
