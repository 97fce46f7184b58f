/-
  The walk of the law FrameBehind: it answers true, for all bytes, and writes nothing that was there, where package frame answers as it is to (FrmC).
-/
import Derived.Test.YtepcaaejadeklaaDoorLaw04A
import Derived.Test.YtepcaaejadeklaaDoorOctI
namespace Go.Proofs.YtepcaaejadeklaaDoor
open Go.RowKit
set_option linter.unusedSimpArgs false

set_option maxRecDepth 100000 in
set_option maxHeartbeats 1000000 in
theorem frameBehind_walk (a0 : Option Addr) (len0 cap0 : Nat) (z0 : List Int) (a1 : Option Addr) (len1 cap1 : Nat) (z1 : List Int) (a2 : Option Addr) (len2 cap2 : Nat) (z2 : List Int) (w : World) (C : FrmC w)
    (w0 : IsRow .u8 w a0 len0 cap0 z0) (w1 : IsRow .u8 w a1 len1 cap1 z1) (w2 : IsRow .u8 w a2 len2 cap2 z2) :
    Calls Tryd.prog 8 #[.slice a0 len0 cap0, .slice a1 len1 cap1, .slice a2 len2 cap2] w fun e w' => e = .returned (.bool true) ∧ Below w.heap.size w w' := by
  have HC := Lib.hid C
  clear C
  by_cases h9 : 300 < len0 ∨ 300 < len1 ∨ 300 < len2
  · by_cases g0 : 300 < len0
    · have d0 : decide ((300 : Int) < (len0 : Int)) = true := decide_eq_true (by omega)
      clear h9 g0
      go_enter Tryd.func8, Tryd.ntmps8
      go_wp2_with fail
      refine (awake4_any HC.out _ (Below.refl _ _)).mono ?_
      rintro r w1 ⟨rfl, hB1⟩
      go_wp2
      go_ret
      exact ⟨rfl, hB1⟩
    · have d0 : decide ((300 : Int) < (len0 : Int)) = false := decide_eq_false (by omega)
      by_cases g1 : 300 < len1
      · have d1 : decide ((300 : Int) < (len1 : Int)) = true := decide_eq_true (by omega)
        clear h9 g0 g1
        go_enter Tryd.func8, Tryd.ntmps8
        go_wp2_with fail
        refine (awake4_any HC.out _ (Below.refl _ _)).mono ?_
        rintro r w1 ⟨rfl, hB1⟩
        go_wp2
        go_ret
        exact ⟨rfl, hB1⟩
      · have d1 : decide ((300 : Int) < (len1 : Int)) = false := decide_eq_false (by omega)
        have d2 : decide ((300 : Int) < (len2 : Int)) = true := decide_eq_true (by omega)
        clear h9 g0 g1
        go_enter Tryd.func8, Tryd.ntmps8
        go_wp2_with fail
        refine (awake4_any HC.out _ (Below.refl _ _)).mono ?_
        rintro r w1 ⟨rfl, hB1⟩
        go_wp2
        go_ret
        exact ⟨rfl, hB1⟩
  · obtain ⟨da, a, rfl, -, hra0⟩ := w0.rd (by omega)
    obtain ⟨db, b, rfl, -, hrb0⟩ := w1.rd (by omega)
    obtain ⟨dc, c, rfl, -, hrc0⟩ := w2.rd (by omega)
    have la : a.length ≤ 300 := by omega
    have lb : b.length ≤ 300 := by omega
    have lc : c.length ≤ 300 := by omega
    have d0 : decide ((300 : Int) < (a.length : Int)) = false := decide_eq_false (by omega)
    have d1 : decide ((300 : Int) < (b.length : Int)) = false := decide_eq_false (by omega)
    have d2 : decide ((300 : Int) < (c.length : Int)) = false := decide_eq_false (by omega)
    clear h9 w0 w1 w2
    obtain ⟨P, hP⟩ : ∃ P, P = frm a := ⟨_, rfl⟩
    obtain ⟨Q, hQ⟩ : ∃ Q, Q = frm b := ⟨_, rfl⟩
    obtain ⟨T, hT⟩ : ∃ T, T = (P ++ Q) ++ c := ⟨_, rfl⟩
    have lP : P.length ≤ 306 := by have := frm_len (l := a) (by omega); rw [hP]; omega
    have lQ : Q.length ≤ 306 := by have := frm_len (l := b) (by omega); rw [hQ]; omega
    have lQ1 : 1 ≤ Q.length := by rw [hQ, frm_length]; omega
    have lT : T.length = P.length + Q.length + c.length := by rw [hT, List.length_append, List.length_append]
    have hTP : T = P ++ (Q ++ c) := by rw [hT, List.append_assoc]
    have gT : getF T = (a, P.length, 0) := by rw [hTP, hP]; exact getF_frm a _ (by omega)
    have hTd : T.drop P.length = Q ++ c := by rw [hTP]; exact List.drop_left' rfl
    have gD : getF (T.drop P.length) = (b, Q.length, 0) := by rw [hTd, hQ]; exact getF_frm b _ (by omega)
    obtain ⟨L, N, G, hR⟩ : ∃ x n e, recs T = (x, n, e) := ⟨_, _, _, rfl⟩
    have hL : 2 ≤ L.length ∧ P.length + Q.length ≤ N := by
      rw [hTP, hP, recs_frm a _ (by omega), hQ, recs_frm b _ (by omega)] at hR
      injection hR with h1 h2
      injection h2 with h2 _
      rw [← h1, ← h2, hP, hQ]
      simp only [List.length_cons]
      omega
    obtain ⟨hL2, hN2⟩ := hL
    have PUTA : ∀ W v, Hid (Below w.heap.size w W → Rd W da v a → Calls Tryd.prog 10 #[v] W (fun r w' => ∃ v', r = .returned (.tuple #[v', .int .i64 0]) ∧ Own w' W.heap.size v' P ∧ Below W.heap.size W w')) := fun W v => Lib.hid fun hB h => by
      have h1 := HC.out.put a W da v hB h
      unfold PutFP at h1
      rw [(putF_small (l := a) (by omega)).1, (putF_small (l := a) (by omega)).2, ← hP] at h1
      exact h1
    have PUTB : ∀ W v, Hid (Below w.heap.size w W → Rd W db v b → Calls Tryd.prog 10 #[v] W (fun r w' => ∃ v', r = .returned (.tuple #[v', .int .i64 0]) ∧ Own w' W.heap.size v' Q ∧ Below W.heap.size W w')) := fun W v => Lib.hid fun hB h => by
      have h1 := HC.out.put b W db v hB h
      unfold PutFP at h1
      rw [(putF_small (l := b) (by omega)).1, (putF_small (l := b) (by omega)).2, ← hQ] at h1
      exact h1
    have GETT : ∀ W d v, Hid (Below w.heap.size w W → Rd W d v T → Calls Tryd.prog 12 #[v] W (fun r w' => ∃ v' d', r = .returned (.tuple #[v', .int .i64 (P.length : Int), .int .i64 0]) ∧ Rd w' d' v' a ∧ Below W.heap.size W w')) := fun W d v => Lib.hid fun hB h => by
      have h1 := HC.out.get T W d v hB h (by omega)
      unfold GetFP at h1
      rw [gT] at h1
      exact h1
    have GETD : ∀ W d v, Hid (Below w.heap.size w W → Rd W d v (T.drop P.length) → Calls Tryd.prog 12 #[v] W (fun r w' => ∃ v' d', r = .returned (.tuple #[v', .int .i64 (Q.length : Int), .int .i64 0]) ∧ Rd w' d' v' b ∧ Below W.heap.size W w')) := fun W d v => Lib.hid fun hB h => by
      have h1 := HC.out.get (T.drop P.length) W d v hB h (by rw [List.length_drop]; omega)
      unfold GetFP at h1
      rw [gD] at h1
      exact h1
    have ALL : ∀ W d v, Hid (Below w.heap.size w W → Rd W d v T → Calls Tryd.prog 16 #[v] W (fun r w' => ∃ v' d', r = .returned (.tuple #[v', .int .i64 (N : Int), .int .i64 G]) ∧ RowB w' d' v' L ∧ Below W.heap.size W w')) := fun W d v => Lib.hid fun hB h => by
      have h1 := HC.out.all T W d v hB h (by omega)
      unfold AllFP at h1
      rw [hR] at h1
      exact h1
    have QA := Lib.hid PUTA
    have QB := Lib.hid PUTB
    have QT := Lib.hid GETT
    have QD := Lib.hid GETD
    have QL := Lib.hid ALL
    have HT := Lib.hid hT
    have hPT1 : P.length < T.length := by omega
    have hPT : P.length ≤ T.length := by omega
    have lT9 : T.length ≤ 1000 := by omega
    clear PUTA PUTB GETT GETD ALL hP hQ hTP gT hTd gD hR hT lT
    go_enter Tryd.func8, Tryd.ntmps8
    go_wp2_with fail
    refine (awake4_any HC.out _ (Below.refl _ _)).mono ?_
    rintro r w1 ⟨rfl, hB1⟩
    have hra1 := hra0.below' hB1
    have hrb1 := hrb0.below' hB1
    have hrc1 := hrc0.below' hB1
    clear hra0 hrb0 hrc0
    go_wp2_with fail
    refine ((QA.out _ _).out hB1 hra1).mono ?_
    rintro r w2 ⟨v2, rfl, hown2, hb2⟩
    obtain ⟨dp, -, -, hrp2⟩ := hown2.rd (by omega)
    obtain ⟨Ap, cp, rfl⟩ := hrp2.shape4
    have hra2 := hra1.below' hb2
    have hrb2 := hrb1.below' hb2
    have hrc2 := hrc1.below' hb2
    have hB2 := hB1.trans (hb2.mono hB1.size)
    clear hra1 hrb1 hrc1 hB1 hb2 hown2
    go_wp2_with fail
    refine ((QB.out _ _).out hB2 hrb2).mono ?_
    rintro r w3 ⟨v3, rfl, hown3, hb3⟩
    obtain ⟨dq, -, -, hrq3⟩ := hown3.rd (by omega)
    obtain ⟨Aq, cq, rfl⟩ := hrq3.shape4
    have hra3 := hra2.below' hb3
    have hrb3 := hrb2.below' hb3
    have hrc3 := hrc2.below' hb3
    have hrp3 := hrp2.below' hb3
    have hB3 := hB2.trans (hb3.mono hB2.size)
    clear hra2 hrb2 hrc2 hrp2 hB2 hb3 hown3
    go_wp2_with (at_builtin; refine wpList_append_rd rfl (.tmp 48) (.tmp 49) rfl rfl w3.heap.size _ [] rfl (Own.nil _ _) _ _ P rfl hrp3 ?h1 ?h2 ?_)
    case h1 => simp; omega
    case h2 => exact Nat.le_refl _
    intro v4 w4 hap
    have hb4 := hap.below (Own.nil _ _) (Nat.le_refl _)
    have hown4 : Own w4 w3.heap.size v4 P := hap.1
    have hrq4 := hrq3.below' hb4
    have hA4 := hb4
    have hS4 := hA4.size
    clear hap hb4 hrq3 hrp3
    go_wp2_with (at_builtin; refine wpList_append_rd rfl (.tmp 51) (.tmp 52) rfl rfl w3.heap.size _ P rfl hown4 _ _ Q rfl hrq4 ?h1 ?h2 ?_)
    case h1 => omega
    case h2 => exact hS4
    intro v5 w5 hap
    have hb5 := hap.below hown4 hS4
    have hown5 : Own w5 w3.heap.size v5 (P ++ Q) := hap.1
    have hlen5 : (P ++ Q).length = P.length + Q.length := List.length_append
    have hA5 := hA4.trans hb5
    have hS5 := hA5.size
    have hrc5 := hrc3.below' hA5
    clear hap hb5 hA4 hS4 hown4 hrq4
    go_wp2_with (at_builtin; refine wpList_append_rd rfl (.tmp 54) (.tmp 55) rfl rfl w3.heap.size _ (P ++ Q) rfl hown5 _ _ c rfl hrc5 ?h1 ?h2 ?_)
    case h1 => omega
    case h2 => exact hS5
    intro v6 w6 hap
    have hb6 := hap.below hown5 hS5
    have hown6 : Own w6 w3.heap.size v6 T := by rw [HT.out, List.append_assoc]; exact hap.1
    have hA6 := hA5.trans hb6
    obtain ⟨dt, -, hrt6⟩ := hown6.rd' (by omega)
    obtain ⟨At, ct, rfl⟩ := hrt6.shape4
    have hra6 := hra3.below' hA6
    have hrb6 := hrb3.below' hA6
    have hB6 := hB3.trans (hA6.mono hB3.size)
    clear hap hb6 hA5 hS5 hown5 hrc5 hown6 hA6 hra3 hrb3 hrc3 hB3 hlen5
    go_wp2_with fail
    refine ((QT.out _ _ _).out hB6 hrt6).mono ?_
    rintro r w7 ⟨v7, d7, rfl, hrx7, hb7⟩
    obtain ⟨Ax, cx, rfl⟩ := hrx7.shape4
    have hra7 := hra6.below' hb7
    have hrb7 := hrb6.below' hb7
    have hrt7 := hrt6.below' hb7
    have hB7 := hB6.trans (hb7.mono hB6.size)
    have hst1 : (convert 22 9 (.slice Ax a.length cx)).run Tryd.prog w7 = .ok (.string (txt a)) w7 := str_of hrx7
    have hst2 : (convert 22 9 (.slice a0 a.length cap0)).run Tryd.prog w7 = .ok (.string (txt a)) w7 := str_of hra7
    have hct : ¬ ct = P.length := by
      obtain ⟨A', c', he, hle, -⟩ := hrt7
      injection he with _ _ e3
      omega
    have hrd7 := hrt7.drop hPT hct
    clear hra6 hrb6 hrt6 hb7 hB6 hrx7 hra7
    go_wp2_with fail
    refine ((QD.out _ _ _).out hB7 hrd7).mono ?_
    rintro r w8 ⟨v8, d8, rfl, hry8, hb8⟩
    obtain ⟨Ay, cy, rfl⟩ := hry8.shape4
    have hrb8 := hrb7.below' hb8
    have hrt8 := hrt7.below' hb8
    have hB8 := hB7.trans (hb8.mono hB7.size)
    clear hrb7 hrt7 hrd7 hB7 hb8 hst1 hst2
    go_wp2_with fail
    refine ((QL.out _ _ _).out hB8 hrt8).mono ?_
    rintro r w9 ⟨v9, d9, rfl, hrl9, hb9⟩
    obtain ⟨Al, cl, rfl⟩ := hrl9.shape
    have hB9 := hB8.trans (hb9.mono hB8.size)
    have hst3 : (convert 22 9 (.slice Ay b.length cy)).run Tryd.prog w9 = .ok (.string (txt b)) w9 := str_of (hry8.below' hb9)
    have hst4 : (convert 22 9 (.slice a1 b.length cap1)).run Tryd.prog w9 = .ok (.string (txt b)) w9 := str_of (hrb8.below' hb9)
    have e1 : decide ((2 : Int) ≤ (L.length : Int)) = true := decide_eq_true (by omega)
    have e2 : decide ((P.length : Int) + (Q.length : Int) ≤ (N : Int)) = true := decide_eq_true (by omega)
    clear hrb8 hrt8 hB8 hb9 hry8 hrl9 hct
    go_wp2
    go_ret
    exact ⟨rfl, hB9⟩

end Go.Proofs.YtepcaaejadeklaaDoor
