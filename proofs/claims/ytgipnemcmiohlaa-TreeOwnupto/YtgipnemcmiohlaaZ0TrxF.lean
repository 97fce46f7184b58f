/- What the laws of package tree want of TrxF. -/
import Derived.Test.YtgipnemcmiohlaaZ0TrxE
import Derived.Deep.DeepCutAuto
namespace Go.Proofs.Ytgipnemcmiohlaa
open Go.RowKit
set_option linter.unusedSimpArgs false
set_option linter.unusedVariables false
open Go.Sort (PermIn SortedIn SWO swp permIn_refl permIn_trans permIn_mono permIn_all swp_permIn size_swp swp_left swp_right swp_other)
def SymC (n : Nat) : Prop := ∀ (blk cap a m b : Nat) (d0 d : Array Kd) (w0 w : World), RwK w0 blk d0 → d.size = d0.size → SwK w0 blk d w → SymI ltK Kd.p a m b d → a < m → m < b → d.size ≤ 1000000 → b - a ≤ n →
    Calls Try.prog 57 #[.slice (some ⟨blk, 0, none⟩) d.size cap, .int .i64 (a : Int), .int .i64 (m : Int), .int .i64 (b : Int), (.func (.func 33) #[] #[])] w fun e w' => e = .returned (.tuple #[]) ∧ ∃ d', SymP ltK a b d d' ∧ SwK w0 blk d' w'
theorem sym_gen_rot {a m b s e : Nat} {d d' : Array Kd} (I : SymI ltK Kd.p a m b d) (h1 : a ≤ s) (h2 : s ≤ m) (h3 : m ≤ e) (h4 : e ≤ b) (hi : s = a ∨ e = b ∨ ltK d[e]! d[s - 1]! = false) (hj : s = m ∨ e = m ∨ ltK d[e - 1]! d[s]! = true) (hr : Rot s m e d d') : RotI ltK Kd.p a s (s + (e - m)) e b d' :=
  rot_merge I hr h1 h2 h3 h4 (fun x y g1 g2 g3 g4 => by
    rcases hi with hi | hi | hi
    · omega
    · omega
    · have k1 : ltK d[y]! d[s - 1]! = false := by
        by_cases e1 : y = e
        · subst e1; exact hi
        · exact ltK_swo.ntrans _ _ _ (I.s2 e y h3 (by omega) g4) hi
      by_cases e2 : x = s - 1
      · subst e2; exact k1
      · exact ltK_swo.ntrans _ _ _ k1 (I.s1 x (s - 1) g1 (by omega) (by omega))) (fun x y g1 g2 g3 g4 => by
    rcases hj with hj | hj | hj
    · omega
    · omega
    · have k1 : ltK d[s]! d[x]! = false := by
        by_cases e1 : x = e - 1
        · subst e1; exact swo_neg ltK_swo hj
        · exact ltK_swo.ntrans _ _ _ (swo_neg ltK_swo hj) (I.s2 x (e - 1) g1 (by omega) (by omega))
      by_cases e2 : y = s
      · subst e2; exact k1
      · exact ltK_swo.ntrans _ _ _ (I.s1 s y h1 (by omega) g4) k1)
/-- Behind the exchange. -/
def GenP (a s c e b : Nat) (d : Array Kd) (w0 : World) (blk : Nat) (wx : World) : Prop := ∃ d1, RotI ltK Kd.p a s c e b d1 ∧ PermIn a b d d1 ∧ SwK w0 blk d1 wx
/-- Behind the first half's merge. -/
def GenQ (a s c e b : Nat) (d : Array Kd) (w0 : World) (blk : Nat) (wx : World) : Prop := ∃ d1 d2, RotI ltK Kd.p a s c e b d1 ∧ PermIn a b d d1 ∧ SymP ltK a c d1 d2 ∧ SwK w0 blk d2 wx
def GenR (a b : Nat) (d : Array Kd) (w0 : World) (blk : Nat) (wx : World) : Prop := ∃ d', SymP ltK a b d d' ∧ SwK w0 blk d' wx
theorem genR_of {a s c e b : Nat} {d d1 d2 d3 : Array Kd} {w0 wx : World} {blk : Nat} (hb : b ≤ d.size) (R : RotI ltK Kd.p a s c e b d1) (hp : PermIn a b d d1) (h2 : SymP ltK a c d1 d2) (h3 : SymP ltK c b d2 d3) (S : SwK w0 blk d3 wx) : GenR a b d w0 blk wx := by
  have h := rot_done R (by rw [hp.1]; exact hb) h2 h3
  exact ⟨d3, ⟨permIn_trans _ _ _ _ _ hp h.1, h.2⟩, S⟩
theorem gen_i1 {a s c e b : Nat} {d d1 : Array Kd} (hb : b ≤ d.size) (R : RotI ltK Kd.p a s c e b d1) (hp : PermIn a b d d1) : SymI ltK Kd.p a s c d1 := ⟨R.al, R.sc, by have := R.ce; have := R.eb; rw [hp.1]; omega, R.k1, R.k2, R.l1⟩
theorem gen_i2 {a s c e b : Nat} {d d1 d2 : Array Kd} (hb : b ≤ d.size) (R : RotI ltK Kd.p a s c e b d1) (hp : PermIn a b d d1) (h2 : SymP ltK a c d1 d2) : SymI ltK Kd.p c e b d2 :=
  ⟨R.ce, R.eb, by rw [h2.1.1, hp.1]; exact hb, srt_same R.k3 (fun x hx _ => h2.1.2.1 x (Or.inr hx)), srt_same R.k4 (fun x hx _ => h2.1.2.1 x (Or.inr (Nat.le_trans R.ce hx))), fun x y g1 g2 g3 g4 => by
    rw [h2.1.2.1 x (Or.inr g1), h2.1.2.1 y (Or.inr (by have := R.ce; omega))]
    exact R.l2 x y g1 g2 g3 g4⟩
def leftReg : Code → Option Nat
  | .region n _ _ => some n
  | .seq a _ => leftReg a
  | _ => none
/-- The statements from a region on. -/
def tailAt (n : Nat) : Code → Option Code
  | .seq a b => if leftReg (.seq a b) = some n then some (.seq a b) else match tailAt n b with
    | some c => some c
    | none => tailAt n a
  | .block _ c => tailAt n c
  | .scope c => tailAt n c
  | .cond _ a b => match tailAt n a with
    | some c => some c
    | none => tailAt n b
  | .loop c => tailAt n c
  | _ => none
noncomputable def symTail (n : Nat) : Code := (Try.f57.body.bind (tailAt n)).getD .skip
set_option maxRecDepth 100000 in
set_option maxHeartbeats 8000000 in
theorem sym_t43 {u5 u6 u7 u8 u9 u10 u11 u12 u13 u14 u15 u16 u17 u23 u25 u26 u27 u28 u29 u30 u31 u32 u33 u34 u35 u36 u37 u38 u39 u40 u41 u42 u43 u44 u45 u46 u47 u48 u49 u50 u51 u52 u53 u54 u55 u56 u57 u58 u59 u60 u61 u62 u63 u64 u65 u66 u67 u68 u69 u70 u71 u72 u73 u74 u75 u76 u77 u78 u79 u80 u81 u82 u83 u84 u85 u86 u87 u88 u89 u90 u91 u92 u93 u94 u95 u96 u97 u98 u99 u100 u101 u102 u103 u104 u105 u106 u107 u108 u109 u110 u111 u112 u113 u114 u115 u116 u117 u118 u119 u120 u121 u122 u123 u124 u125 u126 u127 u128 u129 u130 u131 u132 u133 u134 u135 u136 u137 u138 u139 u140 u141 u142 u143 u144 u145 u146 u147 u148 u149 u150 u151 u152 u153 u154 u155 u156 u157 u158 u159 u160 u161 u162 u163 u164 u165 u166 u167 u168 u169 u170 u171 u172 u173 u174 u175 u176 u177 u178 u179 u180 u181 u182 u183 u184 u185 u186 u187 u188 u189 u190 u191 u192 u193 u194 u195 u196 u197 u198 u199 u200 u201 u202 u203 u204 u205 u206 u207 u208 u209 u210 u211 u212 u213 u214 u215 u216 u217 u218 u219 : Value} (N blk cap a m b c e i t p : Nat) (d0 d : Array Kd) (w0 w : World) (IH : SymC N) (R : RwK w0 blk d0) (hs : d.size = d0.size) (hbs : b ≤ d.size) (hsz : d.size ≤ 1000000) (r4 : e ≤ b) (r6 : c ≤ e) (hN : b - c ≤ N) (S : GenQ a i c e b d w0 blk w) :
    Code.wp Try.prog (symTail 43) (bodyPost Try.prog Try.f57 fun r w' => r = .returned (.tuple #[]) ∧ ∃ d', SymP ltK a b d d' ∧ SwK w0 blk d' w') ⟨List.toArray [.slice (some ⟨blk, 0, none⟩) d.size cap, .int .i64 (a : Int), .int .i64 (m : Int), .int .i64 (b : Int), (.func (.func 33) #[] #[]), u5, u6, u7, u8, u9, u10, u11, u12, u13, u14, u15, u16, u17, .int .i64 (c : Int), .int .i64 (t : Int), .int .i64 (i : Int), .int .i64 (i : Int), .int .i64 (p : Int), u23, .int .i64 (e : Int), u25, u26, u27, u28, u29, u30, u31, u32, u33, u34, u35, u36, u37, u38, u39, u40, u41, u42, u43, u44, u45, u46, u47, u48, u49, u50, u51, u52, u53, u54, u55, u56, u57, u58, u59, u60, u61, u62, u63, u64, u65, u66, u67, u68, u69, u70, u71, u72, u73, u74, u75, u76, u77, u78, u79, u80, u81, u82, u83, u84, u85, u86, u87, u88, u89, u90, u91, u92, u93, u94, u95, u96, u97, u98, u99, u100, u101, u102, u103, u104, u105, u106, u107, u108, u109, u110, u111, u112, u113, u114, u115, u116, u117, u118, u119, u120, u121, u122, u123, u124, u125, u126, u127, u128, u129, u130, u131, u132, u133, u134, u135, u136, u137, u138, u139, u140, u141, u142, u143, u144, u145, u146, u147, u148, u149, u150, u151, u152, u153, u154, u155, u156, u157, u158, u159, u160, u161, u162, u163, u164, u165, u166, u167, u168, u169, u170, u171, u172, u173, u174, u175, u176, u177, u178, u179, u180, u181, u182, u183, u184, u185, u186, u187, u188, u189, u190, u191, u192, u193, u194, u195, u196, u197, u198, u199, u200, u201, u202, u203, u204, u205, u206, u207, u208, u209, u210, u211, u212, u213, u214, u215, u216, u217, u218, u219], []⟩ w := by
  have R : Hid (RwK w0 blk d0) := Lib.hid R
  have HZ := Lib.hid hs
  have HI := Lib.hid IH
  have HN := Lib.hid hN
  have HV := Lib.hid S
  clear hs IH hN S
  have i3 : (d.size : Int) ≤ 1000000 := by omega
  dsimp only
  conv => arg 2; whnf
  go_upto_region 43 with (fail)
  go_cut [213] (fun s wx => ∃ bb : Bool, s = .bool bb ∧ Hid (bb = true ↔ (c < e ∧ e < b)) ∧ Hid ((fun wx => GenQ a i c e b d w0 blk wx) wx))
  case first =>
    by_cases q1 : c < e
    · have q1i : ((c : Int) < (e : Int)) := by omega
      by_cases q2 : e < b
      · have q2i : ((e : Int) < (b : Int)) := by omega
        have qd : Hid (true = true ↔ (c < e ∧ e < b)) := Lib.hid ⟨fun _ => ⟨q1, q2⟩, fun _ => rfl⟩
        go_wp2_with fail
        go_meet
        exact ⟨true, rfl, qd, HV⟩
      · have q2i : ¬ ((e : Int) < (b : Int)) := by omega
        have qd : Hid (false = true ↔ (c < e ∧ e < b)) := Lib.hid ⟨fun h => (by cases h), fun h => absurd h.2 q2⟩
        go_wp2_with fail
        go_meet
        exact ⟨false, rfl, qd, HV⟩
    · have q1i : ¬ ((c : Int) < (e : Int)) := by omega
      have qd : Hid (false = true ↔ (c < e ∧ e < b)) := Lib.hid ⟨fun h => (by cases h), fun h => absurd h.1 q1⟩
      go_wp2_with fail
      go_meet
      exact ⟨false, rfl, qd, HV⟩
  case rest =>
    clear HV
    obtain ⟨bb, rfl, HBB, HS⟩ := hcut
    cases bb with
    | true =>
      have hq := HBB.out.1 rfl
      have HC : Hid (Calls Try.prog 57 #[.slice (some ⟨blk, 0, none⟩) d.size cap, .int .i64 (c : Int), .int .i64 (e : Int), .int .i64 (b : Int), (.func (.func 33) #[] #[])] wc fun r w' => r = .returned (.tuple #[]) ∧ GenR a b d w0 blk w') := Lib.hid (by
        obtain ⟨d1, d2, g1, g2, g3, g4⟩ := HS.out
        have hz : d2.size = d.size := by rw [g3.1.1, g2.1]
        have h := HI.out blk cap c e b d0 d2 w0 wc R.out (by rw [hz]; exact HZ.out) g4 (gen_i2 hbs g1 g2 g3) hq.1 hq.2 (by rw [hz]; exact hsz) HN.out
        rw [hz] at h
        refine h.mono ?_
        rintro r w' ⟨h1, d3, h2, h3⟩
        exact ⟨h1, genR_of hbs g1 g2 g3 h2 h3⟩)
      clear hq
      go_wp2_with fail
      refine HC.out.mono ?_
      rintro r w' ⟨rfl, hr⟩
      have HR := Lib.hid hr
      clear hr
      go_wp2_with fail
      go_end0
      exact ⟨rfl, HR.out⟩
    | false =>
      have hq : ¬ (c < e ∧ e < b) := fun h => by have h' := HBB.out.2 h; cases h'
      have HP : Hid (GenR a b d w0 blk wc) := Lib.hid (by
        obtain ⟨d1, d2, g1, g2, g3, g4⟩ := HS.out
        refine genR_of hbs g1 g2 g3 (half_idle (srt_same g1.k3 (fun x hx _ => g3.1.2.1 x (Or.inr hx))) (srt_same g1.k4 (fun x hx _ => g3.1.2.1 x (Or.inr (Nat.le_trans g1.ce hx)))) (by omega)) g4)
      clear hq
      go_wp2_with fail
      go_end0
      exact ⟨rfl, HP.out⟩
set_option maxRecDepth 100000 in
set_option maxHeartbeats 8000000 in
theorem sym_t41 {u5 u6 u7 u8 u9 u10 u11 u12 u13 u14 u15 u16 u17 u23 u25 u26 u27 u28 u29 u30 u31 u32 u33 u34 u35 u36 u37 u38 u39 u40 u41 u42 u43 u44 u45 u46 u47 u48 u49 u50 u51 u52 u53 u54 u55 u56 u57 u58 u59 u60 u61 u62 u63 u64 u65 u66 u67 u68 u69 u70 u71 u72 u73 u74 u75 u76 u77 u78 u79 u80 u81 u82 u83 u84 u85 u86 u87 u88 u89 u90 u91 u92 u93 u94 u95 u96 u97 u98 u99 u100 u101 u102 u103 u104 u105 u106 u107 u108 u109 u110 u111 u112 u113 u114 u115 u116 u117 u118 u119 u120 u121 u122 u123 u124 u125 u126 u127 u128 u129 u130 u131 u132 u133 u134 u135 u136 u137 u138 u139 u140 u141 u142 u143 u144 u145 u146 u147 u148 u149 u150 u151 u152 u153 u154 u155 u156 u157 u158 u159 u160 u161 u162 u163 u164 u165 u166 u167 u168 u169 u170 u171 u172 u173 u174 u175 u176 u177 u178 u179 u180 u181 u182 u183 u184 u185 u186 u187 u188 u189 u190 u191 u192 u193 u194 u195 u196 u197 u198 u199 u200 u201 u202 u203 u204 u205 u206 u207 u208 u209 u210 u211 u212 u213 u214 u215 u216 u217 u218 u219 : Value} (N blk cap a m b c e i t p : Nat) (d0 d : Array Kd) (w0 w : World) (IH : SymC N) (R : RwK w0 blk d0) (hs : d.size = d0.size) (hbs : b ≤ d.size) (hsz : d.size ≤ 1000000) (r4 : e ≤ b) (r6 : c ≤ e) (r1 : a ≤ i) (r5 : i ≤ c) (hN : b - c ≤ N ∧ c - a ≤ N) (S : GenP a i c e b d w0 blk w) :
    Code.wp Try.prog (symTail 41) (bodyPost Try.prog Try.f57 fun r w' => r = .returned (.tuple #[]) ∧ ∃ d', SymP ltK a b d d' ∧ SwK w0 blk d' w') ⟨List.toArray [.slice (some ⟨blk, 0, none⟩) d.size cap, .int .i64 (a : Int), .int .i64 (m : Int), .int .i64 (b : Int), (.func (.func 33) #[] #[]), u5, u6, u7, u8, u9, u10, u11, u12, u13, u14, u15, u16, u17, .int .i64 (c : Int), .int .i64 (t : Int), .int .i64 (i : Int), .int .i64 (i : Int), .int .i64 (p : Int), u23, .int .i64 (e : Int), u25, u26, u27, u28, u29, u30, u31, u32, u33, u34, u35, u36, u37, u38, u39, u40, u41, u42, u43, u44, u45, u46, u47, u48, u49, u50, u51, u52, u53, u54, u55, u56, u57, u58, u59, u60, u61, u62, u63, u64, u65, u66, u67, u68, u69, u70, u71, u72, u73, u74, u75, u76, u77, u78, u79, u80, u81, u82, u83, u84, u85, u86, u87, u88, u89, u90, u91, u92, u93, u94, u95, u96, u97, u98, u99, u100, u101, u102, u103, u104, u105, u106, u107, u108, u109, u110, u111, u112, u113, u114, u115, u116, u117, u118, u119, u120, u121, u122, u123, u124, u125, u126, u127, u128, u129, u130, u131, u132, u133, u134, u135, u136, u137, u138, u139, u140, u141, u142, u143, u144, u145, u146, u147, u148, u149, u150, u151, u152, u153, u154, u155, u156, u157, u158, u159, u160, u161, u162, u163, u164, u165, u166, u167, u168, u169, u170, u171, u172, u173, u174, u175, u176, u177, u178, u179, u180, u181, u182, u183, u184, u185, u186, u187, u188, u189, u190, u191, u192, u193, u194, u195, u196, u197, u198, u199, u200, u201, u202, u203, u204, u205, u206, u207, u208, u209, u210, u211, u212, u213, u214, u215, u216, u217, u218, u219], []⟩ w := by
  have R : Hid (RwK w0 blk d0) := Lib.hid R
  have HZ := Lib.hid hs
  have HI := Lib.hid IH
  have HN := Lib.hid hN
  have HV := Lib.hid S
  clear hs IH hN S
  have i3 : (d.size : Int) ≤ 1000000 := by omega
  dsimp only
  conv => arg 2; whnf
  go_upto_region 41 with (fail)
  go_cut [199] (fun s wx => ∃ bb : Bool, s = .bool bb ∧ Hid (bb = true ↔ (a < i ∧ i < c)) ∧ Hid ((fun wx => GenP a i c e b d w0 blk wx) wx))
  case first =>
    by_cases q1 : a < i
    · have q1i : ((a : Int) < (i : Int)) := by omega
      by_cases q2 : i < c
      · have q2i : ((i : Int) < (c : Int)) := by omega
        have qd : Hid (true = true ↔ (a < i ∧ i < c)) := Lib.hid ⟨fun _ => ⟨q1, q2⟩, fun _ => rfl⟩
        go_wp2_with fail
        go_meet
        exact ⟨true, rfl, qd, HV⟩
      · have q2i : ¬ ((i : Int) < (c : Int)) := by omega
        have qd : Hid (false = true ↔ (a < i ∧ i < c)) := Lib.hid ⟨fun h => (by cases h), fun h => absurd h.2 q2⟩
        go_wp2_with fail
        go_meet
        exact ⟨false, rfl, qd, HV⟩
    · have q1i : ¬ ((a : Int) < (i : Int)) := by omega
      have qd : Hid (false = true ↔ (a < i ∧ i < c)) := Lib.hid ⟨fun h => (by cases h), fun h => absurd h.1 q1⟩
      go_wp2_with fail
      go_meet
      exact ⟨false, rfl, qd, HV⟩
  case rest =>
    clear HV
    obtain ⟨bb, rfl, HBB, HS⟩ := hcut
    go_upto_if 199 with (fail)
    go_cut [] (fun wx => Hid (GenQ a i c e b d w0 blk wx))
    case first =>
      cases bb with
      | true =>
        have hq := HBB.out.1 rfl
        have HC : Hid (Calls Try.prog 57 #[.slice (some ⟨blk, 0, none⟩) d.size cap, .int .i64 (a : Int), .int .i64 (i : Int), .int .i64 (c : Int), (.func (.func 33) #[] #[])] wc fun r w' => r = .returned (.tuple #[]) ∧ GenQ a i c e b d w0 blk w') := Lib.hid (by
          obtain ⟨d1, g1, g2, g3⟩ := HS.out
          have h := HI.out blk cap a i c d0 d1 w0 wc R.out (by rw [g2.1]; exact HZ.out) g3 (gen_i1 hbs g1 g2) hq.1 hq.2 (by rw [g2.1]; exact hsz) HN.out.2
          rw [g2.1] at h
          refine h.mono ?_
          rintro r w' ⟨h1, d2, h2, h3⟩
          exact ⟨h1, d1, d2, g1, g2, h2, h3⟩)
        clear hq
        go_wp2_with fail
        refine HC.out.mono ?_
        rintro r w' ⟨rfl, hr⟩
        have HR := Lib.hid hr
        clear hr
        go_wp2_with fail
        go_meet
        exact HR
      | false =>
        have hq : ¬ (a < i ∧ i < c) := fun h => by have h' := HBB.out.2 h; cases h'
        have HP : Hid (GenQ a i c e b d w0 blk wc) := Lib.hid (by
          obtain ⟨d1, g1, g2, g3⟩ := HS.out
          exact ⟨d1, d1, g1, g2, half_idle g1.k1 g1.k2 (by omega), g3⟩)
        clear hq
        go_wp2_with fail
        go_meet
        exact HP
    case rest =>
      apply_assumption
      exact sym_t43 N blk cap a m b c e i t p d0 d w0 wc HI.out R.out HZ.out hbs hsz r4 r6 HN.out.1 hcut.out
set_option maxRecDepth 100000 in
set_option maxHeartbeats 8000000 in
theorem sym_t38 {u5 u6 u7 u8 u9 u10 u11 u12 u13 u14 u15 u16 u17 u23 u24 u25 u26 u27 u28 u29 u30 u31 u32 u33 u34 u35 u36 u37 u38 u39 u40 u41 u42 u43 u44 u45 u46 u47 u48 u49 u50 u51 u52 u53 u54 u55 u56 u57 u58 u59 u60 u61 u62 u63 u64 u65 u66 u67 u68 u69 u70 u71 u72 u73 u74 u75 u76 u77 u78 u79 u80 u81 u82 u83 u84 u85 u86 u87 u88 u89 u90 u91 u92 u93 u94 u95 u96 u97 u98 u99 u100 u101 u102 u103 u104 u105 u106 u107 u108 u109 u110 u111 u112 u113 u114 u115 u116 u117 u118 u119 u120 u121 u122 u123 u124 u125 u126 u127 u128 u129 u130 u131 u132 u133 u134 u135 u136 u137 u138 u139 u140 u141 u142 u143 u144 u145 u146 u147 u148 u149 u150 u151 u152 u153 u154 u155 u156 u157 u158 u159 u160 u161 u162 u163 u164 u165 u166 u167 u168 u169 u170 u171 u172 u173 u174 u175 u176 u177 u178 u179 u180 u181 u182 u183 u184 u185 u186 u187 u188 u189 u190 u191 u192 u193 u194 u195 u196 u197 u198 u199 u200 u201 u202 u203 u204 u205 u206 u207 u208 u209 u210 u211 u212 u213 u214 u215 u216 u217 u218 u219 : Value} (N blk cap a m b c i t p : Nat) (d0 d : Array Kd) (w0 w : World) (IH : SymC N) (R : RwK w0 blk d0) (hs : d.size = d0.size) (hbs : b ≤ d.size) (hsz : d.size ≤ 1000000) (b3 : t ≤ c + m) (b4 : c + m ≤ t) (b1 : 2 * c ≤ a + b) (hmb : m < b) (b5 : p + 1 = t) (r1 : a ≤ i) (r2 : i ≤ m) (r5 : i ≤ c) (r4' : t ≤ i + b) (hN : b - c ≤ N ∧ c - a ≤ N) (I : SymI ltK Kd.p a m b d)
    (HB : (i = a ∨ t = i + b ∨ ltK d[p - (i - 1)]! d[i - 1]! = false) ∧ (i = m ∨ i = c ∨ ltK d[p - i]! d[i]! = true)) (S : SwK w0 blk d w) :
    Code.wp Try.prog (symTail 38) (bodyPost Try.prog Try.f57 fun r w' => r = .returned (.tuple #[]) ∧ ∃ d', SymP ltK a b d d' ∧ SwK w0 blk d' w') ⟨List.toArray [.slice (some ⟨blk, 0, none⟩) d.size cap, .int .i64 (a : Int), .int .i64 (m : Int), .int .i64 (b : Int), (.func (.func 33) #[] #[]), u5, u6, u7, u8, u9, u10, u11, u12, u13, u14, u15, u16, u17, .int .i64 (c : Int), .int .i64 (t : Int), .int .i64 (i : Int), .int .i64 (i : Int), .int .i64 (p : Int), u23, u24, u25, u26, u27, u28, u29, u30, u31, u32, u33, u34, u35, u36, u37, u38, u39, u40, u41, u42, u43, u44, u45, u46, u47, u48, u49, u50, u51, u52, u53, u54, u55, u56, u57, u58, u59, u60, u61, u62, u63, u64, u65, u66, u67, u68, u69, u70, u71, u72, u73, u74, u75, u76, u77, u78, u79, u80, u81, u82, u83, u84, u85, u86, u87, u88, u89, u90, u91, u92, u93, u94, u95, u96, u97, u98, u99, u100, u101, u102, u103, u104, u105, u106, u107, u108, u109, u110, u111, u112, u113, u114, u115, u116, u117, u118, u119, u120, u121, u122, u123, u124, u125, u126, u127, u128, u129, u130, u131, u132, u133, u134, u135, u136, u137, u138, u139, u140, u141, u142, u143, u144, u145, u146, u147, u148, u149, u150, u151, u152, u153, u154, u155, u156, u157, u158, u159, u160, u161, u162, u163, u164, u165, u166, u167, u168, u169, u170, u171, u172, u173, u174, u175, u176, u177, u178, u179, u180, u181, u182, u183, u184, u185, u186, u187, u188, u189, u190, u191, u192, u193, u194, u195, u196, u197, u198, u199, u200, u201, u202, u203, u204, u205, u206, u207, u208, u209, u210, u211, u212, u213, u214, u215, u216, u217, u218, u219], []⟩ w := by
  have KI := Lib.hid I
  obtain ⟨e, he⟩ : ∃ e, e = t - i := ⟨_, rfl⟩
  have ee : (t : Int) - (i : Int) = (e : Int) := by omega
  have r3 : m ≤ e := by omega
  have r4 : e ≤ b := by omega
  have r6 : c ≤ e := by omega
  have RC : Hid (i + (e - m) = c) := Lib.hid (by omega)
  have R1 : Hid (i = a ∨ e = b ∨ ltK d[e]! d[i - 1]! = false) := Lib.hid (by
    by_cases h0 : i = a
    · exact .inl h0
    · rcases HB.1 with h | h | h
      · exact absurd h h0
      · exact .inr (.inl (by omega))
      · exact .inr (.inr (by rw [show e = p - (i - 1) by omega]; exact h)))
  have R2 : Hid (i = m ∨ e = m ∨ ltK d[e - 1]! d[i]! = true) := Lib.hid (by
    rcases HB.2 with h | h | h
    · exact .inl h
    · exact .inr (.inl (by omega))
    · exact .inr (.inr (by rw [show e - 1 = p - i by omega]; exact h)))
  clear he HB I b5
  have R : Hid (RwK w0 blk d0) := Lib.hid R
  have HZ := Lib.hid hs
  have HI := Lib.hid IH
  have HN := Lib.hid hN
  have HV := Lib.hid S
  clear hs IH hN S
  have i3 : (d.size : Int) ≤ 1000000 := by omega
  dsimp only
  conv => arg 2; whnf
  go_upto_region 39 with (fail)
  go_cut [185] (fun s wx => ∃ bb : Bool, s = .bool bb ∧ Hid (bb = true ↔ (i < m ∧ m < e)) ∧ Hid ((fun wx => SwK w0 blk d wx) wx))
  case first =>
    by_cases q1 : i < m
    · have q1i : ((i : Int) < (m : Int)) := by omega
      by_cases q2 : m < e
      · have q2i : ((m : Int) < (e : Int)) := by omega
        have qd : Hid (true = true ↔ (i < m ∧ m < e)) := Lib.hid ⟨fun _ => ⟨q1, q2⟩, fun _ => rfl⟩
        go_wp2_with fail
        go_meet
        exact ⟨true, rfl, qd, HV⟩
      · have q2i : ¬ ((m : Int) < (e : Int)) := by omega
        have qd : Hid (false = true ↔ (i < m ∧ m < e)) := Lib.hid ⟨fun h => (by cases h), fun h => absurd h.2 q2⟩
        go_wp2_with fail
        go_meet
        exact ⟨false, rfl, qd, HV⟩
    · have q1i : ¬ ((i : Int) < (m : Int)) := by omega
      have qd : Hid (false = true ↔ (i < m ∧ m < e)) := Lib.hid ⟨fun h => (by cases h), fun h => absurd h.1 q1⟩
      go_wp2_with fail
      go_meet
      exact ⟨false, rfl, qd, HV⟩
  case rest =>
    clear HV
    obtain ⟨bb, rfl, HBB, HS⟩ := hcut
    go_upto_if 185 with (fail)
    go_cut [] (fun wx => Hid (GenP a i c e b d w0 blk wx))
    case first =>
      cases bb with
      | true =>
        have hq := HBB.out.1 rfl
        have HC : Hid (Calls Try.prog 60 #[.slice (some ⟨blk, 0, none⟩) d.size cap, .int .i64 (i : Int), .int .i64 (m : Int), .int .i64 (e : Int), (.func (.func 33) #[] #[])] wc fun r w' => r = .returned (.tuple #[]) ∧ GenP a i c e b d w0 blk w') := Lib.hid (by
          refine (rot_any blk cap i m e d0 d w0 wc R.out HZ.out HS.out hq.1 hq.2 (by omega) hsz).mono ?_
          rintro r w' ⟨h1, d1, h2, h3⟩
          have h4 := sym_gen_rot KI.out r1 r2 r3 r4 R1.out R2.out h2
          rw [RC.out] at h4
          exact ⟨h1, d1, h4, permIn_mono d d1 i e a b r1 r4 hbs h2.1, h3⟩)
        clear hq
        go_wp2_with fail
        refine HC.out.mono ?_
        rintro r w' ⟨rfl, hr⟩
        have HR := Lib.hid hr
        clear hr
        go_wp2_with fail
        go_meet
        exact HR
      | false =>
        have hq : ¬ (i < m ∧ m < e) := fun h => by have h' := HBB.out.2 h; cases h'
        have HP : Hid (GenP a i c e b d w0 blk wc) := Lib.hid (by
          have h0 : Rot i m e d d := by
            by_cases h1 : i = m
            · subst h1; exact Rot.refl_s d
            · have h2 : e = m := by omega
              subst h2; exact Rot.refl_e d
          have h4 := sym_gen_rot KI.out r1 r2 r3 r4 R1.out R2.out h0
          rw [RC.out] at h4
          exact ⟨d, h4, permIn_refl _ _ _, HS.out⟩)
        clear hq
        go_wp2_with fail
        go_meet
        exact HP
    case rest =>
      apply_assumption
      exact sym_t41 N blk cap a m b c e i t p d0 d w0 wc HI.out R.out HZ.out hbs hsz r4 r6 r1 r5 HN.out hcut.out
end Go.Proofs.Ytgipnemcmiohlaa

