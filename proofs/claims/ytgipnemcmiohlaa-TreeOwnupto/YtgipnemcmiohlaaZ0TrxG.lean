/- What the laws of package tree want of TrxG. -/
import Derived.Test.YtgipnemcmiohlaaZ0TrxF
import Derived.Deep.DeepCutAuto
import Derived.Deep.CutBlock
namespace Go.Proofs.Ytgipnemcmiohlaa
open Go.RowKit
set_option linter.unusedSimpArgs false
set_option linter.unusedVariables false
open Go.Sort (PermIn SortedIn SWO swp permIn_refl permIn_trans permIn_mono permIn_all swp_permIn size_swp swp_left swp_right swp_other)
set_option maxRecDepth 100000 in
set_option maxHeartbeats 8000000 in
theorem sym_gen (N blk cap a m b : Nat) (d0 d : Array Kd) (w0 w : World) (IH : SymC N) (R : RwK w0 blk d0) (hs : d.size = d0.size) (S : SwK w0 blk d w) (I : SymI ltK Kd.p a m b d) (ham : a + 1 < m) (hmb : m + 1 < b) (hsz : d.size ≤ 1000000) (hN : b - a ≤ N + 1) :
    Calls Try.prog 57 #[.slice (some ⟨blk, 0, none⟩) d.size cap, .int .i64 (a : Int), .int .i64 (m : Int), .int .i64 (b : Int), (.func (.func 33) #[] #[])] w fun e w' =>
      e = .returned (.tuple #[]) ∧ ∃ d', SymP ltK a b d d' ∧ SwK w0 blk d' w' := by
  have S0 := Lib.hid S
  have KI := Lib.hid I
  have hbs := I.bs
  have n1 : ((m : Int) - (a : Int) == 1) = false := beq_eq_false_iff_ne.2 (by omega)
  have n2 : ((b : Int) - (m : Int) == 1) = false := beq_eq_false_iff_ne.2 (by omega)
  have R : Hid (RwK w0 blk d0) := Lib.hid R
  have HZ := Lib.hid hs
  have HI := Lib.hid IH
  have HN := Lib.hid hN
  clear S hs I IH hN
  have i3 : (d.size : Int) ≤ 1000000 := by omega
  have mixed : Try.prog.follows .mixedOrders = true := by kernel_rfl
  obtain ⟨c, hc⟩ : ∃ c, c = (a + b) / 2 := ⟨_, rfl⟩
  have ec : ((a : Int) + (b : Int)) / 2 = (c : Int) := by omega
  obtain ⟨t, ht⟩ : ∃ t, t = c + m := ⟨_, rfl⟩
  have et : (c : Int) + (m : Int) = (t : Int) := by omega
  obtain ⟨p, hp⟩ : ∃ p, p = t - 1 := ⟨_, rfl⟩
  have ep : (t : Int) - 1 = (p : Int) := by omega
  have b1 : 2 * c ≤ a + b := by omega
  have b2 : a + b ≤ 2 * c + 1 := by omega
  have b3 : t ≤ c + m := by omega
  have b4 : c + m ≤ t := by omega
  have b5 : p + 1 ≤ t := by omega
  have b6 : t ≤ p + 1 := by omega
  clear hc ht hp
  go_enter Try.func57, Try.ntmps57
  go_upto_if 140 with (fail)
  go_cut [20, 21] (fun s20 s21 wx => ∃ lo hi : Nat, s20 = .int .i64 (lo : Int) ∧ s21 = .int .i64 (hi : Int) ∧ a ≤ lo ∧ lo ≤ hi ∧ hi ≤ m ∧ hi ≤ c ∧ t ≤ lo + b ∧ Hid ((lo = a ∨ lo + b = t) ∧ (hi = m ∨ hi = c)) ∧ Hid (SwK w0 blk d wx))
  case first =>
    by_cases hq : c < m
    · have hqi : (c : Int) < (m : Int) := by omega
      obtain ⟨lo, hlo⟩ : ∃ lo, lo = t - b := ⟨_, rfl⟩
      have elo : (t : Int) - (b : Int) = (lo : Int) := by omega
      have k1 : a ≤ lo := by omega
      have k2 : lo ≤ c := by omega
      have k3 : t ≤ lo + b := by omega
      have K4 : Hid (lo + b = t) := Lib.hid (by omega)
      clear hlo
      go_wp2_with fail
      go_meet
      exact ⟨lo, c, rfl, rfl, k1, k2, by omega, Nat.le_refl _, k3, Lib.hid ⟨.inr K4.out, .inr rfl⟩, S0⟩
    · have hqi : ¬ (c : Int) < (m : Int) := by omega
      go_wp2_with fail
      go_meet
      exact ⟨a, m, rfl, rfl, Nat.le_refl _, by omega, Nat.le_refl _, by omega, by omega, Lib.hid ⟨.inl rfl, .inl rfl⟩, S0⟩
  case rest =>
    clear S0
    obtain ⟨lo, hi, rfl, rfl, k1, k2, k3, k4, k5, HL, HS0⟩ := hcut
    go_upto_block 8 with (fail)
    go_cut [20, 21] (fun s20 s21 wx => ∃ i : Nat, s20 = .int .i64 (i : Int) ∧ s21 = .int .i64 (i : Int) ∧ lo ≤ i ∧ i ≤ hi ∧ Hid ((i = lo ∨ ltK d[p - (i - 1)]! d[i - 1]! = false) ∧ (i = hi ∨ ltK d[p - i]! d[i]! = true)) ∧ Hid (SwK w0 blk d wx))
    case first =>
      go_wp2_with fail
      go_loopw [20, 21] (fun s20 s21 wr => ∃ (i j : Nat), s20 = .int .i64 (i : Int) ∧ s21 = .int .i64 (j : Int) ∧ lo ≤ i ∧ i ≤ j ∧ j ≤ hi ∧ Hid ((i = lo ∨ ltK d[p - (i - 1)]! d[i - 1]! = false) ∧ (j = hi ∨ ltK d[p - j]! d[j]! = true)) ∧ Hid (SwK w0 blk d wr)) (fun s20 s21 _ => (intOf s21).toNat - (intOf s20).toNat)
      case atStart => exact ⟨lo, hi, rfl, rfl, Nat.le_refl _, k2, Nat.le_refl _, Lib.hid ⟨.inl rfl, .inl rfl⟩, HS0⟩
      case round =>
        clear HS0
        obtain ⟨i, j, rfl, rfl, hi1, hij, hj1, HB, HS⟩ := hrel
        by_cases hlt : i < j
        · obtain ⟨h, hh⟩ : ∃ h, h = (i + j) / 2 := ⟨_, rfl⟩
          have eh : ((i : Int) + (j : Int)) / 2 = (h : Int) := by omega
          have g1 : i ≤ h := by omega
          have g2 : h < j := by omega
          clear hh
          obtain ⟨x, hx⟩ : ∃ x, x = p - h := ⟨_, rfl⟩
          have HX := Lib.hid hx
          have ex : (p : Int) - (h : Int) = (x : Int) := by omega
          have x1 : m ≤ x := by omega
          have x2 : x < b := by omega
          have x3 : (h : Int) ≤ (p : Int) := by omega
          have x4 : (0 : Int) ≤ (p : Int) - (h : Int) := by omega
          have x5 : (p : Int) - (h : Int) < (d.size : Int) := by omega
          have x6 : ((p : Int) - (h : Int)).toNat = x := by omega
          have x7 : p - h = x := by omega
          have x8 : IntKind.i64.wrap ((p : Int) - (h : Int)) = (x : Int) := by rw [IntKind.wrap_i64]; omega
          have x9 : IntKind.i64.wrap (x : Int) = (x : Int) := by rw [IntKind.wrap_i64]; omega
          clear hx
          have g3 : (h : Int) < (d.size : Int) := by omega
          have g4 : (x : Int) < (d.size : Int) := by omega
          have g5 : (i : Int) < (j : Int) := by omega
          obtain ⟨u, hu⟩ : ∃ u, u = d[x]! := ⟨_, rfl⟩
          obtain ⟨v, hv⟩ : ∃ v, v = d[h]! := ⟨_, rfl⟩
          have hp : cfK u v < 0 ↔ ltK u v = true := ltK_lt (by rw [hu, hv]; exact KI.out.lf h x (by omega) (by omega) x1 x2)
          have HU := Lib.hid (And.intro hu (And.intro hv hp))
          clear hp
          by_cases hd : cfK u v < 0
          · have hd' : decide (cfK u v < 0) = true := decide_eq_true hd
            have gcu := fun n os => sw_at6 ((HS.out).grown n os) R.out HZ.out (i := x) (by omega)
            have gcv := fun n os => sw_at6 ((HS.out).grown n os) R.out HZ.out (i := h) (by omega)
            rw [← hu] at gcu
            rw [← hv] at gcv
            have cu0 : ∀ n os, (Go.Sort.grow (wr.drewN n) os).cell? ⟨blk, x * 6, none⟩ = some (.string (txt u.a.name)) := fun n os => gcu n os 0 _ rfl
            have cu1 : ∀ n os, (Go.Sort.grow (wr.drewN n) os).cell? ⟨blk, x * 6 + 1, none⟩ = some (.string (txt u.a.key)) := fun n os => gcu n os 1 _ rfl
            have cu2 : ∀ n os, (Go.Sort.grow (wr.drewN n) os).cell? ⟨blk, x * 6 + 2, none⟩ = some (.int .i64 u.a.kind) := fun n os => gcu n os 2 _ rfl
            have cu3 : ∀ n os, (Go.Sort.grow (wr.drewN n) os).cell? ⟨blk, x * 6 + 3, none⟩ = some (.int .u64 (u.a.num : Int)) := fun n os => gcu n os 3 _ rfl
            have cu4 : ∀ n os, (Go.Sort.grow (wr.drewN n) os).cell? ⟨blk, x * 6 + 4, none⟩ = some (.string (txt u.a.text)) := fun n os => gcu n os 4 _ rfl
            have cu5 : ∀ n os, (Go.Sort.grow (wr.drewN n) os).cell? ⟨blk, x * 6 + 5, none⟩ = some (.slice u.A u.k.len u.c) := fun n os => gcu n os 5 _ rfl
            have cv0 : ∀ n os, (Go.Sort.grow (wr.drewN n) os).cell? ⟨blk, h * 6, none⟩ = some (.string (txt v.a.name)) := fun n os => gcv n os 0 _ rfl
            have cv1 : ∀ n os, (Go.Sort.grow (wr.drewN n) os).cell? ⟨blk, h * 6 + 1, none⟩ = some (.string (txt v.a.key)) := fun n os => gcv n os 1 _ rfl
            have cv2 : ∀ n os, (Go.Sort.grow (wr.drewN n) os).cell? ⟨blk, h * 6 + 2, none⟩ = some (.int .i64 v.a.kind) := fun n os => gcv n os 2 _ rfl
            have cv3 : ∀ n os, (Go.Sort.grow (wr.drewN n) os).cell? ⟨blk, h * 6 + 3, none⟩ = some (.int .u64 (v.a.num : Int)) := fun n os => gcv n os 3 _ rfl
            have cv4 : ∀ n os, (Go.Sort.grow (wr.drewN n) os).cell? ⟨blk, h * 6 + 4, none⟩ = some (.string (txt v.a.text)) := fun n os => gcv n os 4 _ rfl
            have cv5 : ∀ n os, (Go.Sort.grow (wr.drewN n) os).cell? ⟨blk, h * 6 + 5, none⟩ = some (.slice v.A v.k.len v.c) := fun n os => gcv n os 5 _ rfl
            have hc : ∀ n os, Calls Try.prog 33 #[.agg #[.string (txt u.a.name), .string (txt u.a.key), .int .i64 u.a.kind, .int .u64 (u.a.num : Int), .string (txt u.a.text), .slice u.A u.k.len u.c], .agg #[.string (txt v.a.name), .string (txt v.a.key), .int .i64 v.a.kind, .int .u64 (v.a.num : Int), .string (txt v.a.text), .slice v.A v.k.len v.c]] (Go.Sort.grow (wr.drewN n) os) fun e w' => e = .returned (.int .i64 (cfK u v)) ∧ ∃ q os', w' = Go.Sort.grow ((Go.Sort.grow (wr.drewN n) os).drewN q) os' := fun n os => order_any u.a v.a _ _ _ rfl rfl
            clear gcu gcv hu hv
            go_wp2_with fail
            go_quiet_grown (first | (go_at_call 33; refine Calls.grown_of (hc _ _)))
            have HN2 := Lib.hid ((HS.out).grown nq osq)
            clear cu0 cu1 cu2 cu3 cu4 cu5 cv0 cv1 cv2 cv3 cv4 cv5 hc
            generalize Go.Sort.grow (wr.drewN nq) osq = w2 at HN2 ⊢
            clear nq osq
            go_wp2
            go_roundw
            case rel => exact ⟨i, h, rfl, rfl, hi1, by omega, by omega, Lib.hid ⟨HB.out.1, .inr (by rw [← HX.out, ← HU.out.1, ← HU.out.2.1]; exact HU.out.2.2.1 hd)⟩, HN2⟩
            case measure => simp [intOf]; omega
          · have hd' : decide (cfK u v < 0) = false := decide_eq_false hd
            have gcu := fun n os => sw_at6 ((HS.out).grown n os) R.out HZ.out (i := x) (by omega)
            have gcv := fun n os => sw_at6 ((HS.out).grown n os) R.out HZ.out (i := h) (by omega)
            rw [← hu] at gcu
            rw [← hv] at gcv
            have cu0 : ∀ n os, (Go.Sort.grow (wr.drewN n) os).cell? ⟨blk, x * 6, none⟩ = some (.string (txt u.a.name)) := fun n os => gcu n os 0 _ rfl
            have cu1 : ∀ n os, (Go.Sort.grow (wr.drewN n) os).cell? ⟨blk, x * 6 + 1, none⟩ = some (.string (txt u.a.key)) := fun n os => gcu n os 1 _ rfl
            have cu2 : ∀ n os, (Go.Sort.grow (wr.drewN n) os).cell? ⟨blk, x * 6 + 2, none⟩ = some (.int .i64 u.a.kind) := fun n os => gcu n os 2 _ rfl
            have cu3 : ∀ n os, (Go.Sort.grow (wr.drewN n) os).cell? ⟨blk, x * 6 + 3, none⟩ = some (.int .u64 (u.a.num : Int)) := fun n os => gcu n os 3 _ rfl
            have cu4 : ∀ n os, (Go.Sort.grow (wr.drewN n) os).cell? ⟨blk, x * 6 + 4, none⟩ = some (.string (txt u.a.text)) := fun n os => gcu n os 4 _ rfl
            have cu5 : ∀ n os, (Go.Sort.grow (wr.drewN n) os).cell? ⟨blk, x * 6 + 5, none⟩ = some (.slice u.A u.k.len u.c) := fun n os => gcu n os 5 _ rfl
            have cv0 : ∀ n os, (Go.Sort.grow (wr.drewN n) os).cell? ⟨blk, h * 6, none⟩ = some (.string (txt v.a.name)) := fun n os => gcv n os 0 _ rfl
            have cv1 : ∀ n os, (Go.Sort.grow (wr.drewN n) os).cell? ⟨blk, h * 6 + 1, none⟩ = some (.string (txt v.a.key)) := fun n os => gcv n os 1 _ rfl
            have cv2 : ∀ n os, (Go.Sort.grow (wr.drewN n) os).cell? ⟨blk, h * 6 + 2, none⟩ = some (.int .i64 v.a.kind) := fun n os => gcv n os 2 _ rfl
            have cv3 : ∀ n os, (Go.Sort.grow (wr.drewN n) os).cell? ⟨blk, h * 6 + 3, none⟩ = some (.int .u64 (v.a.num : Int)) := fun n os => gcv n os 3 _ rfl
            have cv4 : ∀ n os, (Go.Sort.grow (wr.drewN n) os).cell? ⟨blk, h * 6 + 4, none⟩ = some (.string (txt v.a.text)) := fun n os => gcv n os 4 _ rfl
            have cv5 : ∀ n os, (Go.Sort.grow (wr.drewN n) os).cell? ⟨blk, h * 6 + 5, none⟩ = some (.slice v.A v.k.len v.c) := fun n os => gcv n os 5 _ rfl
            have hc : ∀ n os, Calls Try.prog 33 #[.agg #[.string (txt u.a.name), .string (txt u.a.key), .int .i64 u.a.kind, .int .u64 (u.a.num : Int), .string (txt u.a.text), .slice u.A u.k.len u.c], .agg #[.string (txt v.a.name), .string (txt v.a.key), .int .i64 v.a.kind, .int .u64 (v.a.num : Int), .string (txt v.a.text), .slice v.A v.k.len v.c]] (Go.Sort.grow (wr.drewN n) os) fun e w' => e = .returned (.int .i64 (cfK u v)) ∧ ∃ q os', w' = Go.Sort.grow ((Go.Sort.grow (wr.drewN n) os).drewN q) os' := fun n os => order_any u.a v.a _ _ _ rfl rfl
            clear gcu gcv hu hv
            go_wp2_with fail
            go_quiet_grown (first | (go_at_call 33; refine Calls.grown_of (hc _ _)))
            have HN2 := Lib.hid ((HS.out).grown nq osq)
            clear cu0 cu1 cu2 cu3 cu4 cu5 cv0 cv1 cv2 cv3 cv4 cv5 hc
            generalize Go.Sort.grow (wr.drewN nq) osq = w2 at HN2 ⊢
            clear nq osq
            go_wp2
            go_roundw
            case rel => exact ⟨h + 1, j, by go_num, rfl, by omega, by omega, hj1, Lib.hid ⟨.inr (by rw [Nat.add_sub_cancel, ← HX.out, ← HU.out.1, ← HU.out.2.1, ← Bool.not_eq_true]; exact fun e => by have := HU.out.2.2.2 e; omega), HB.out.2⟩, HN2⟩
            case measure => simp [intOf]; omega
        · have e : i = j := by omega
          subst e
          have i2 : ¬ (i : Int) < (i : Int) := by omega
          go_wp2_with fail
          go_meet
          exact ⟨i, rfl, rfl, hi1, hj1, HB, HS⟩
    case rest =>
      clear HS0
      obtain ⟨i, rfl, rfl, k6, k7, HB, HS⟩ := hcut
      apply_assumption
      refine sym_t38 N blk cap a m b c i t p d0 d w0 wc HI.out R.out HZ.out hbs hsz b3 b4 b1 (by omega) (by omega) (by omega) (by omega) (by omega) (by omega) ⟨by have := HN.out; omega, by have := HN.out; omega⟩ KI.out ⟨?_, ?_⟩ HS.out
      · rcases HB.out.1 with h | h
        · rcases HL.out.1 with h2 | h2
          · exact .inl (h.trans h2)
          · exact .inr (.inl (by omega))
        · exact .inr (.inr h)
      · rcases HB.out.2 with h | h
        · rcases HL.out.2 with h2 | h2
          · exact .inl (h.trans h2)
          · exact .inr (.inl (h.trans h2))
        · exact .inr (.inr h)
theorem sym_any : ∀ n, SymC n := by
  intro n
  induction n with
  | zero => intro blk cap a m b d0 d w0 w _ _ _ _ h1 h2 _ h3; omega
  | succ n ih =>
    intro blk cap a m b d0 d w0 w R hs S I h1 h2 hsz hn
    by_cases e1 : m = a + 1
    · exact sym_left blk cap a m b d0 d w0 w R hs S I e1 h2 hsz
    · by_cases e2 : b = m + 1
      · exact sym_right blk cap a m b d0 d w0 w R hs S I e2 (by omega) hsz
      · exact sym_gen n blk cap a m b d0 d w0 w ih R hs S I (by omega) (by omega) hsz hn
end Go.Proofs.Ytgipnemcmiohlaa
namespace Go.Proofs.Ytgipnemcmiohlaa
open Go.RowKit
set_option linter.unusedSimpArgs false
set_option linter.unusedVariables false
open Go.Sort (PermIn SortedIn SWO swp permIn_refl permIn_trans permIn_mono permIn_all swp_permIn size_swp swp_left swp_right swp_other)
def renS : Go.Shelf.Ren := ⟨fun | 20 => 56 | n => n, fun | 0 => 0 | 3 => 3 | 4 => 4 | 22 => 25 | 24 => 27 | 25 => 52 | n => n, fun n => n⟩
set_option maxRecDepth 100000 in
set_option maxHeartbeats 4000000 in
theorem slIns : Go.Proofs.SlLaysF0.n20 Try.prog renS := {
  mixed := by kernel_rfl
  f20 := ⟨(Try.f56).name, by kernel_rfl, Try.func56.trans (congrArg some (by kernel_rfl))⟩
  t0 := Try.underlying0
  a0 := Try.isAgg0
  z0 := Try.sizeOf0
  v0 := Try.zeroValue0
  t3 := Try.underlying3
  a3 := Try.isAgg3
  z3 := Try.sizeOf3
  v3 := Try.zeroValue3
  t4 := Try.underlying4
  a4 := Try.isAgg4
  z4 := Try.sizeOf4
  v4 := Try.zeroValue4
  t22 := Try.underlying25
  a22 := Try.isAgg25
  z22 := Try.sizeOf25
  v22 := Try.zeroValue25
  t25 := Try.underlying52
  a25 := Try.isAgg52
  z25 := Try.sizeOf52
  v25 := Try.zeroValue52 }
theorem cmp_lays (blk size : Nat) (w : World) : Go.Proofs.CmpLays Try.prog 33 #[] Kd.enc 6 cfK blk 0 size w := by
  intro m os dk _ x y
  exact order_any x.a y.a _ _ _ rfl rfl
set_option maxRecDepth 100000 in
set_option maxHeartbeats 4000000 in
theorem ins_sorts (blk cap a b : Nat) (d0 d : Array Kd) (w0 w : World) (R : RwK w0 blk d0) (hs : d.size = d0.size) (S : SwK w0 blk d w) (hab : a ≤ b) (hb : b ≤ d.size) (hsz : d.size ≤ 1000000) (hp : ∀ i, a ≤ i → i < b → d[i]!.p = i) :
    Calls Try.prog 56 #[.slice (some ⟨blk, 0, none⟩) d.size cap, .int .i64 (a : Int), .int .i64 (b : Int), (.func (.func 33) #[] #[])] w fun e w' => e = .returned (.tuple #[]) ∧ ∃ d', SymP ltK a b d d' ∧ SwK w0 blk d' w' := by
  have hH := S.holds R.hblk R.hH hs
  have h := AnyQ.insertionSortCmpFunc slIns 6 (fun w => Try.isAgg27 w) (fun w => Try.sizeOf27 w) Kd.enc encK_len encK_one cfK 33 #[] blk 0 cap a b d w (fun args w => by rfl) (cmp_lays blk d.size w) hH (S.lt R.hblk) hab hb (by omega)
  refine h.mono ?_
  rintro e w' ⟨h1, n, os, h2⟩
  have hk := ins_sym (p := Kd.p) ltK_swo (l1 := ltOf cfK) (fun x y hxy => ltK_cf hxy) hab hb (d := d) (fun k l g1 g2 g3 => by rw [hp k g1 (by omega), hp l (by omega) g3]; exact g2)
  exact ⟨h1, _, hk, by rw [h2]; exact SWK.on S R.hblk n _ os hk.1.1⟩
end Go.Proofs.Ytgipnemcmiohlaa
namespace Go.Proofs.Ytgipnemcmiohlaa
open Go.RowKit
set_option linter.unusedSimpArgs false
set_option linter.unusedVariables false
open Go.Sort (PermIn SortedIn SWO swp permIn_refl permIn_trans permIn_mono permIn_all swp_permIn size_swp swp_left swp_right swp_other)
theorem ins_at (blk cap a b n : Nat) (d0 dk : Array Kd) (w0 w : World) (R : RwK w0 blk d0) (hs : d0.size = n) (hk : dk.size = n) (S : SwK w0 blk dk w) (hab : a ≤ b) (hb : b ≤ n) (hsz : n ≤ 1000000) (hp : ∀ i, a ≤ i → i < b → dk[i]!.p = i) :
    Calls Try.prog 56 #[.slice (some ⟨blk, 0, none⟩) n cap, .int .i64 (a : Int), .int .i64 (b : Int), (.func (.func 33) #[] #[])] w fun e w' => e = .returned (.tuple #[]) ∧ ∃ d', SymP ltK a b dk d' ∧ SwK w0 blk d' w' := by
  rw [← hk]
  exact ins_sorts blk cap a b d0 dk w0 w R (by omega) S hab (by omega) (by omega) hp
theorem sym_at (blk cap a m b n : Nat) (d0 dk : Array Kd) (w0 w : World) (R : RwK w0 blk d0) (hs : d0.size = n) (hk : dk.size = n) (S : SwK w0 blk dk w) (I : SymI ltK Kd.p a m b dk) (ham : a < m) (hmb : m < b) (hsz : n ≤ 1000000) :
    Calls Try.prog 57 #[.slice (some ⟨blk, 0, none⟩) n cap, .int .i64 (a : Int), .int .i64 (m : Int), .int .i64 (b : Int), (.func (.func 33) #[] #[])] w fun e w' => e = .returned (.tuple #[]) ∧ ∃ d', SymP ltK a b dk d' ∧ SwK w0 blk d' w' := by
  rw [← hk]
  exact sym_any (b - a) blk cap a m b d0 dk w0 w R (by omega) S I ham hmb (by omega) (Nat.le_refl _)
theorem blks_done {B n : Nat} {d0 d : Array Kd} (h : Blks ltK Kd.p B n d) (hp : PermIn 0 n d0 d) (hB : n ≤ B) : SymP ltK 0 n d0 d := by
  refine ⟨hp, ?_⟩
  by_cases h0 : n = 0
  · subst h0
    intro x y h1 h2 h3
    omega
  · have g := (h 0 (Nat.dvd_zero _) (by omega)).1
    rw [Nat.min_eq_right (by omega)] at g
    exact g
def Srt9 (n : Nat) (d0 : Array Kd) (w0 : World) (blk : Nat) (w' : World) : Prop := ∃ d', SymP ltK 0 n d0 d' ∧ SwK w0 blk d' w'
def Fst9 (a n : Nat) (d0 : Array Kd) (w0 : World) (blk : Nat) (w' : World) : Prop := ∃ d', FstI ltK Kd.p 20 n d0 a d' ∧ SwK w0 blk d' w'
def Blk9 (B n : Nat) (d0 : Array Kd) (w0 : World) (blk : Nat) (w' : World) : Prop := ∃ d', (Blks ltK Kd.p B n d' ∧ PermIn 0 n d0 d') ∧ SwK w0 blk d' w'
def Mrg9 (B a n : Nat) (d0 : Array Kd) (w0 : World) (blk : Nat) (w' : World) : Prop := ∃ d', MrgI ltK Kd.p B n d0 a d' ∧ SwK w0 blk d' w'
set_option maxRecDepth 100000 in
set_option maxHeartbeats 4000000 in
theorem stable_any (blk cap n : Nat) (d0 : Array Kd) (w0 w : World) (R : RwK w0 blk d0) (hn : d0.size = n) (S : SwK w0 blk d0 w) (hsz : n ≤ 1000000) (hp : ∀ i, i < n → d0[i]!.p = i) :
    Calls Try.prog 52 #[.slice (some ⟨blk, 0, none⟩) n cap, .int .i64 (n : Int), (.func (.func 33) #[] #[])] w fun e w' => e = .returned (.tuple #[]) ∧ Srt9 n d0 w0 blk w' := by
  have S0 : Hid (Fst9 0 n d0 w0 blk w) := Lib.hid ⟨d0, ⟨Nat.dvd_zero _, Nat.zero_le _, permIn_refl _ _ _, fun lo _ h => by omega, fun i _ h => hp i h⟩, S⟩
  have R := Lib.hid R
  have HZ := Lib.hid hn
  clear S hn hp
  have i3 : (n : Int) ≤ 1000000 := by omega
  go_enter Try.func52, Try.ntmps52
  go_wp2
  go_loopw [7, 8] (fun s7 s8 wr => ∃ (a b : Nat), s7 = .int .i64 (a : Int) ∧ s8 = .int .i64 (b : Int) ∧ a ≤ n ∧ Hid (b = a + 20) ∧ Hid (Fst9 a n d0 w0 blk wr)) (fun s7 _ _ => n - (intOf s7).toNat)
  case atStart => exact ⟨0, 20, rfl, rfl, Nat.zero_le _, Lib.hid rfl, S0⟩
  case round =>
    clear S0
    obtain ⟨a, b, rfl, rfl, han, HB, HS⟩ := hrel
    have k1 : b ≤ a + 20 := by have := HB.out; omega
    have k2 : a + 20 ≤ b := by have := HB.out; omega
    by_cases hlt : b ≤ n
    · have g1 : (b : Int) ≤ (n : Int) := by omega
      have HC : Hid (Calls Try.prog 56 #[.slice (some ⟨blk, 0, none⟩) n cap, .int .i64 (a : Int), .int .i64 (b : Int), (.func (.func 33) #[] #[])] wr fun e w' => e = .returned (.tuple #[]) ∧ Fst9 b n d0 w0 blk w') := Lib.hid (by
        obtain ⟨dk, h1, h2⟩ := HS.out
        have hk : dk.size = n := by rw [h1.pm.1]; exact HZ.out
        refine (ins_at blk cap a b n d0 dk w0 wr R.out HZ.out hk h2 (by omega) hlt hsz (fun i g1 g2 => h1.rs i g1 (by omega))).mono ?_
        rintro r w' ⟨e, d', k3, k4⟩
        have hb := HB.out
        subst hb
        exact ⟨e, d', h1.step HZ.out hlt (by omega) k3, k4⟩)
      go_wp2_with fail
      refine HC.out.mono ?_
      rintro r w' ⟨rfl, hr⟩
      have HR := Lib.hid hr
      clear hr
      go_wp2
      go_roundw
      case rel => exact ⟨b, b + 20, rfl, by rw [show ((b + 20 : Nat) : Int) = (b : Int) + 20 by omega], hlt, Lib.hid rfl, HR⟩
      case measure => simp [intOf]; omega
    · have g1 : ¬ (b : Int) ≤ (n : Int) := by omega
      have HC : Hid (Calls Try.prog 56 #[.slice (some ⟨blk, 0, none⟩) n cap, .int .i64 (a : Int), .int .i64 (n : Int), (.func (.func 33) #[] #[])] wr fun e w' => e = .returned (.tuple #[]) ∧ Blk9 20 n d0 w0 blk w') := Lib.hid (by
        obtain ⟨dk, h1, h2⟩ := HS.out
        have hk : dk.size = n := by rw [h1.pm.1]; exact HZ.out
        refine (ins_at blk cap a n n d0 dk w0 wr R.out HZ.out hk h2 han (Nat.le_refl _) hsz (fun i g1 g2 => h1.rs i g1 g2)).mono ?_
        rintro r w' ⟨e, d', k3, k4⟩
        exact ⟨e, d', h1.last HZ.out (by omega) k3, k4⟩)
      go_wp2_with fail
      refine HC.out.mono ?_
      rintro r w' ⟨rfl, hr⟩
      have HR := Lib.hid hr
      clear hr
      go_wp2_with fail
      go_loopw [6] (fun s6 wr => ∃ (B : Nat), s6 = .int .i64 (B : Int) ∧ 0 < B ∧ B ≤ 2000020 ∧ Hid (Blk9 B n d0 w0 blk wr)) (fun s6 _ => 2000020 - (intOf s6).toNat)
      case atStart => exact ⟨20, rfl, by omega, by omega, HR⟩
      case round =>
        clear HR
        obtain ⟨B, rfl, hB, hB2, HS⟩ := hrel
        by_cases hlt : B < n
        · have g2 : (B : Int) < (n : Int) := by omega
          obtain ⟨C, hC⟩ : ∃ C, C = 2 * B := ⟨_, rfl⟩
          have HCB := Lib.hid hC
          have c1 : C ≤ 2 * B := by omega
          have c2 : 2 * B ≤ C := by omega
          have e1 : (2 : Int) * (B : Int) = (C : Int) := by omega
          have e2 : (B : Int) * 2 = (C : Int) := by omega
          clear hC
          have S0 : Hid (Mrg9 B 0 n d0 w0 blk wr) := Lib.hid (by
            obtain ⟨dk, h1, h2⟩ := HS.out
            exact ⟨dk, MrgI.start h1.1 h1.2, h2⟩)
          go_wp2_with fail
          go_loopw [7, 8] (fun s7 s8 wr => ∃ (a b : Nat), s7 = .int .i64 (a : Int) ∧ s8 = .int .i64 (b : Int) ∧ a ≤ n ∧ Hid (b = a + C) ∧ Hid (Mrg9 B a n d0 w0 blk wr)) (fun s7 _ _ => n - (intOf s7).toNat)
          case atStart => exact ⟨0, C, rfl, rfl, Nat.zero_le _, Lib.hid (by omega), S0⟩
          case round =>
            clear S0 HS
            obtain ⟨a, b, rfl, rfl, han, HB, HS⟩ := hrel
            obtain ⟨m, hm⟩ : ∃ m, m = a + B := ⟨_, rfl⟩
            have HM := Lib.hid hm
            have e3 : (a : Int) + (B : Int) = (m : Int) := by omega
            have k3 : m ≤ a + B := by omega
            have k4 : a + B ≤ m := by omega
            clear hm
            have k1 : b ≤ a + C := by have := HB.out; omega
            have k2 : a + C ≤ b := by have := HB.out; omega
            by_cases hlt2 : b ≤ n
            · have g1 : (b : Int) ≤ (n : Int) := by omega
              have HC : Hid (Calls Try.prog 57 #[.slice (some ⟨blk, 0, none⟩) n cap, .int .i64 (a : Int), .int .i64 (m : Int), .int .i64 (b : Int), (.func (.func 33) #[] #[])] wr fun e w' => e = .returned (.tuple #[]) ∧ Mrg9 B b n d0 w0 blk w') := Lib.hid (by
                obtain ⟨dk, h1, h2⟩ := HS.out
                have hk : dk.size = n := by rw [h1.pm.1]; exact HZ.out
                have hI := h1.ask HZ.out (by omega) hB
                rw [Nat.min_eq_left (by omega), ← HM.out, show a + 2 * B = b by omega] at hI
                refine (sym_at blk cap a m b n d0 dk w0 wr R.out HZ.out hk h2 hI (by omega) (by omega) hsz).mono ?_
                rintro r w' ⟨e, d', k5, k6⟩
                have e5 : b = a + 2 * B := by omega
                rw [e5] at k5 ⊢
                exact ⟨e, d', h1.step HZ.out (by omega) hB k5, k6⟩)
              go_wp2_with fail
              refine HC.out.mono ?_
              rintro r w' ⟨rfl, hr⟩
              have HR := Lib.hid hr
              clear hr
              go_wp2
              go_roundw
              case rel => exact ⟨b, b + C, rfl, by rw [show ((b + C : Nat) : Int) = (b : Int) + (C : Int) by omega], hlt2, Lib.hid rfl, HR⟩
              case measure => simp [intOf]; omega
            · have g1 : ¬ (b : Int) ≤ (n : Int) := by omega
              by_cases hq : m < n
              · have g3 : (m : Int) < (n : Int) := by omega
                have HC : Hid (Calls Try.prog 57 #[.slice (some ⟨blk, 0, none⟩) n cap, .int .i64 (a : Int), .int .i64 (m : Int), .int .i64 (n : Int), (.func (.func 33) #[] #[])] wr fun e w' => e = .returned (.tuple #[]) ∧ Blk9 C n d0 w0 blk w') := Lib.hid (by
                  obtain ⟨dk, h1, h2⟩ := HS.out
                  have hk : dk.size = n := by rw [h1.pm.1]; exact HZ.out
                  have hI := h1.ask HZ.out (by omega) hB
                  rw [Nat.min_eq_right (by omega), ← HM.out] at hI
                  refine (sym_at blk cap a m n n d0 dk w0 wr R.out HZ.out hk h2 hI (by omega) hq hsz).mono ?_
                  rintro r w' ⟨e, d', k5, k6⟩
                  rw [HCB.out]
                  exact ⟨e, d', h1.last HZ.out (by omega) hB (.inl ⟨by omega, k5⟩), k6⟩)
                go_wp2_with fail
                refine HC.out.mono ?_
                rintro r w' ⟨rfl, hr⟩
                have HR := Lib.hid hr
                clear hr
                go_wp2
                go_roundw
                case rel => exact ⟨C, rfl, by omega, by omega, HR⟩
                case measure => simp [intOf]; omega
              · have g3 : ¬ (m : Int) < (n : Int) := by omega
                have HR : Hid (Blk9 C n d0 w0 blk wr) := Lib.hid (by
                  obtain ⟨dk, h1, h2⟩ := HS.out
                  rw [HCB.out]
                  exact ⟨dk, h1.last HZ.out (by omega) hB (.inr ⟨by omega, rfl⟩), h2⟩)
                go_wp2
                go_roundw
                case rel => exact ⟨C, rfl, by omega, by omega, HR⟩
                case measure => simp [intOf]; omega
        · have g2 : ¬ (B : Int) < (n : Int) := by omega
          have HF : Hid (Srt9 n d0 w0 blk wr) := Lib.hid (by
            obtain ⟨dk, h1, h2⟩ := HS.out
            exact ⟨dk, blks_done h1.1 h1.2 (by omega), h2⟩)
          go_wp2
          go_end0
          exact ⟨rfl, HF.out⟩
set_option maxRecDepth 100000 in
set_option maxHeartbeats 1000000 in
theorem ssf_any (blk cap n : Nat) (d0 : Array Kd) (w0 w : World) (R : RwK w0 blk d0) (hn : d0.size = n) (S : SwK w0 blk d0 w) (hsz : n ≤ 1000000) (hp : ∀ i, i < n → d0[i]!.p = i) :
    Calls Try.prog 43 #[.slice (some ⟨blk, 0, none⟩) n cap, (.func (.func 33) #[] #[])] w fun e w' => e = .returned (.tuple #[]) ∧ Srt9 n d0 w0 blk w' := by
  have HC := Lib.hid (stable_any blk cap n d0 w0 w R hn S hsz hp)
  clear R hn S hp
  go_enter Try.func43, Try.ntmps43
  go_wp2_with fail
  refine HC.out.mono ?_
  rintro r w' ⟨rfl, hr⟩
  have HR := Lib.hid hr
  clear hr
  go_wp2
  go_end0
  exact ⟨rfl, HR.out⟩
end Go.Proofs.Ytgipnemcmiohlaa
namespace Go.Proofs.Ytgipnemcmiohlaa
open Go.RowKit
set_option linter.unusedSimpArgs false
set_option linter.unusedVariables false
open Go.Sort (PermIn SortedIn SWO swp permIn_refl permIn_trans permIn_mono permIn_all swp_permIn size_swp swp_left swp_right swp_other flatK size_flatK get_flatK size_putRowK)
def kidsF : List Kd → NdF
  | [] => .nil
  | x :: r => .cons x.a x.k (kidsF r)
def cellsK : List Kd → List Value
  | [] => []
  | x :: r => x.enc ++ cellsK r
def blocksK : List Kd → List Nat
  | [] => []
  | x :: r => x.F ++ blocksK r
/-- Each one's kids sorted. -/
def srtF : NdF → NdF
  | .nil => .nil
  | .cons a k r => .cons a (sortA .nil k) (srtF r)
theorem kidsF_app (A B : List Kd) : kidsF (A ++ B) = (kidsF A).app (kidsF B) := by
  induction A with
  | nil => rfl
  | cons x A ih => simp only [List.cons_append, kidsF, Fr.app, ih]
theorem cellsK_app (A B : List Kd) : cellsK (A ++ B) = cellsK A ++ cellsK B := by
  induction A with
  | nil => rfl
  | cons x A ih => simp only [List.cons_append, cellsK, ih, List.append_assoc]
theorem blocksK_app (A B : List Kd) : blocksK (A ++ B) = blocksK A ++ blocksK B := by
  induction A with
  | nil => rfl
  | cons x A ih => simp only [List.cons_append, blocksK, ih, List.append_assoc]
theorem srtF_app (f g : NdF) : srtF (f.app g) = (srtF f).app (srtF g) := by
  induction f with
  | nil => rfl
  | cons a k r _ ih => simp only [Fr.app, srtF, ih]
theorem srtF_len (f : NdF) : (srtF f).len = f.len := by
  induction f with
  | nil => rfl
  | cons a k r _ ih => simp only [srtF, Fr.len, ih]
theorem kidsF_len (L : List Kd) : (kidsF L).len = L.length := by
  induction L with
  | nil => rfl
  | cons x L ih => simp only [kidsF, Fr.len, List.length_cons, ih]
theorem cellsK_len (L : List Kd) : (cellsK L).length = L.length * 6 := by
  induction L with
  | nil => rfl
  | cons x L ih => simp only [cellsK, List.length_append, List.length_cons, ih, encK_len]; omega
theorem blocksK_mem {g : Nat} {L : List Kd} : g ∈ blocksK L ↔ ∃ x, x ∈ L ∧ g ∈ x.F := by
  induction L with
  | nil => simp [blocksK]
  | cons x L ih => simp [blocksK, ih]
theorem blocksK_perm {A B : List Kd} (h : A.Perm B) : (blocksK A).Perm (blocksK B) := by
  induction h with
  | nil => exact List.Perm.refl _
  | cons x _ ih => exact ih.append_left _
  | swap x y l =>
    simp only [blocksK]
    rw [← List.append_assoc, ← List.append_assoc]
    exact List.perm_append_comm.append_right _
  | trans _ _ h1 h2 => exact h1.trans h2
theorem fr_take (f g : NdF) : Fr.take f.len (f.app g) = f := by
  induction f with
  | nil => cases g <;> rfl
  | cons a k r _ ih => simp only [Fr.len, Fr.app, Fr.take, ih]
theorem fr_drop (f g : NdF) : Fr.drop f.len (f.app g) = g := by
  induction f with
  | nil => cases g <;> rfl
  | cons a k r _ ih => simp only [Fr.len, Fr.app, Fr.drop, ih]
theorem srt_get : ∀ (L : List Kd) (i : Nat) (h : i < L.length), (srtF (kidsF L)).get? i = some (L[i].a, sortA .nil L[i].k) := by
  intro L
  induction L with
  | nil => intro i h; simp at h
  | cons x L ih =>
    intro i h
    cases i with
    | zero => rfl
    | succ i => exact ih i (by simpa using h)
theorem posD_is {a : NdD} {g : NdF} {q : Nat} : ∀ n, q ≤ n → (∀ i, q ≤ i → i < n → ∃ z, g.get? i = some z ∧ lessX a z.1 = true) → (q = 0 ∨ ∃ z, g.get? (q - 1) = some z ∧ lessX a z.1 = false) → posD a g n = q := by
  intro n
  induction n with
  | zero => intro h _ _; simp only [posD]; omega
  | succ n ih =>
    intro h1 h2 h3
    by_cases e : q = n + 1
    · subst e
      rcases h3 with h3 | ⟨z, h4, h5⟩
      · omega
      · rw [Nat.add_sub_cancel] at h4
        simp only [posD]
        rw [h4]
        simp [h5]
    · obtain ⟨z, h4, h5⟩ := h2 n (by omega) (by omega)
      simp only [posD]
      rw [h4]
      simp only [h5, if_true]
      exact ih (by omega) (fun i g1 g2 => h2 i g1 (by omega)) h3
/-- One more sorted in. -/
theorem ins_srt (A B : List Kd) (x : Kd) (h1 : ∀ y, y ∈ A → lessS x.s y.s = false) (h2 : ∀ y, y ∈ B → lessS x.s y.s = true) : insB (x.a, sortA .nil x.k) (srtF (kidsF (A ++ B))) = srtF (kidsF (A ++ x :: B)) := by
  have hl : (srtF (kidsF A)).len = A.length := by rw [srtF_len, kidsF_len]
  have hp : posD x.a (srtF (kidsF (A ++ B))) (srtF (kidsF (A ++ B))).len = A.length := by
    refine posD_is _ (by rw [srtF_len, kidsF_len]; simp) (fun i g1 g2 => ?_) ?_
    · rw [srtF_len, kidsF_len] at g2
      refine ⟨_, srt_get (A ++ B) i g2, h2 _ ?_⟩
      rw [List.getElem_append_right g1]
      exact List.getElem_mem _
    · by_cases h0 : A.length = 0
      · exact .inl h0
      · refine .inr ⟨_, srt_get (A ++ B) (A.length - 1) (by simp; omega), h1 _ ?_⟩
        rw [List.getElem_append_left (by omega)]
        exact List.getElem_mem _
  unfold insB
  simp only
  rw [hp]
  unfold withF
  rw [Nat.add_zero, kidsF_app, srtF_app]
  conv => lhs; rw [← hl, fr_take, fr_drop]
  rw [kidsF_app, srtF_app]
  rfl
/-- THE ENTRIES SORTED: what the document's sorting makes of their row. -/
theorem sorted_is : ∀ (n : Nat) (L M : List Kd), L.length = n → L.Pairwise (fun x y => x.p < y.p) → M.Perm L → M.Pairwise (fun x y => ltK y x = false) → sortA .nil (kidsF L) = srtF (kidsF M) := by
  intro n
  induction n with
  | zero =>
    intro L M h1 _ h3 _
    obtain rfl := List.length_eq_zero_iff.1 h1
    rw [List.perm_nil.1 h3]
    rfl
  | succ n ih =>
    intro L M h1 h2 h3 h4
    obtain ⟨L0, x, rfl⟩ : ∃ L0 x, L = L0 ++ [x] := ⟨L.dropLast, L.getLast (by intro e; simp [e] at h1), (List.dropLast_concat_getLast _).symm⟩
    obtain ⟨A, B, rfl⟩ := List.append_of_mem (h3.mem_iff.2 (by simp : x ∈ L0 ++ [x]))
    have hp : (A ++ B).Perm L0 := by
      have k1 : (x :: (A ++ B)).Perm (x :: L0) := (List.perm_middle.symm.trans h3).trans (List.perm_append_comm (l₁ := L0) (l₂ := [x]))
      exact k1.cons_inv
    have hpw := List.pairwise_append.1 h2
    have hlt : ∀ y, y ∈ A ++ B → y.p < x.p := fun y hy => hpw.2.2 y (hp.mem_iff.1 hy) x (by simp)
    have h5 := List.pairwise_append.1 h4
    have h6 := List.pairwise_cons.1 h5.2.1
    have h7 : (A ++ B).Pairwise (fun x y => ltK y x = false) := List.pairwise_append.2 ⟨h5.1, h6.2, fun a ha b hb => h5.2.2 a ha b (List.mem_cons_of_mem _ hb)⟩
    rw [kidsF_app]
    show sortA .nil ((kidsF L0).app (.cons x.a x.k .nil)) = _
    rw [sortA_app, ih L0 (A ++ B) (by simpa using h1) hpw.1 hp h7]
    refine ins_srt A B x (fun y hy => ?_) (fun y hy => ?_)
    · have h8 := h5.2.2 y hy x (by simp)
      rcases (ltK_not x y).1 h8 with h9 | ⟨h9, _⟩
      · exact lessS_asymm h9
      · rw [h9]; exact lessS_irrefl _
    · have h8 := h6.1 y hy
      rcases (ltK_not y x).1 h8 with h9 | ⟨_, h9⟩
      · exact h9
      · have := hlt y (by simp [hy])
        omega
theorem sym_list {d0 d : Array Kd} {n : Nat} (hn : d0.size = n) (h : SymP ltK 0 n d0 d) : d.toList.Perm d0.toList ∧ d.toList.Pairwise (fun x y => ltK y x = false) := by
  have hd : d.size = n := by rw [h.1.1, hn]
  constructor
  · have h1 := h.1.2.2
    rw [← hn] at h1
    have e1 : d.extract 0 d0.size = d := by rw [show d0.size = d.size by omega]; exact Array.extract_size
    have e2 : d0.extract 0 d0.size = d0 := Array.extract_size
    rw [e1, e2] at h1
    exact h1
  · rw [List.pairwise_iff_getElem]
    intro i j hi hj hij
    have h1 := h.2 i j (Nat.zero_le _) hij (by rw [← hd]; simpa using hj)
    rw [getElem!_pos d j (by simpa using hj), getElem!_pos d i (by simpa using hi)] at h1
    simpa using h1
theorem own_list {w : World} {base : Nat} : ∀ {f : NdF} {xs : List Value} {F : List Nat} (q : Nat), OwnT w base f xs F → ∃ L : List Kd, f = kidsF L ∧ xs = cellsK L ∧ F = blocksK L ∧ (∀ x, x ∈ L → OwnU w base x.v x.k x.F) ∧ (∀ i (h : i < L.length), L[i].p = q + i) := by
  intro f
  induction f with
  | nil =>
    intro xs F q ⟨h1, h2⟩
    exact ⟨[], rfl, h1, h2, fun x hx => (by cases hx), fun i h => by simp at h⟩
  | cons a k r _ ih =>
    intro xs F q h
    obtain ⟨v, ys, F1, F2, h1, h2, h3, h4⟩ := OwnT.cons_iff.1 h
    obtain ⟨A, c, rfl⟩ := h3.shape
    obtain ⟨L, k1, k2, k3, k4, k5⟩ := ih (q + 1) h4
    refine ⟨⟨a, A, c, k, F1, q⟩ :: L, by rw [k1]; rfl, by rw [h1, k2]; rfl, by rw [h2, k3]; rfl, fun x hx => ?_, fun i hi => ?_⟩
    · rcases List.mem_cons.1 hx with rfl | hx
      · exact h3
      · exact k4 x hx
    · cases i with
      | zero => rfl
      | succ i =>
        have := k5 i (by simpa using hi)
        simp only [List.getElem_cons_succ]
        omega
theorem list_pw {L : List Kd} (h : ∀ i (h : i < L.length), L[i].p = 0 + i) : L.Pairwise (fun x y => x.p < y.p) := by
  rw [List.pairwise_iff_getElem]
  intro i j hi hj hij
  rw [h i hi, h j hj]
  omega
theorem cells_get : ∀ (L : List Kd) (t : Nat) (h : t / 6 < L.length), (cellsK L)[t]? = some ((Kd.enc L[t / 6])[t % 6]!) := by
  intro L
  induction L with
  | nil => intro t h; simp at h
  | cons x L ih =>
    intro t h
    by_cases h6 : t < 6
    · have e0 : t / 6 = 0 := by omega
      have e1 : t % 6 = t := by omega
      simp only [cellsK]
      rw [List.getElem?_append_left (by rw [encK_len]; exact h6), e1]
      have e2 : (x :: L)[t / 6] = x := by simp [e0]
      rw [e2, getElem!_pos _ t (by rw [encK_len]; exact h6), List.getElem?_eq_getElem]
    · have e0 : t / 6 = (t - 6) / 6 + 1 := by omega
      have e1 : t % 6 = (t - 6) % 6 := by omega
      simp only [cellsK]
      rw [List.getElem?_append_right (by rw [encK_len]; omega), encK_len, ih (t - 6) (by simp only [List.length_cons] at h; omega), e1]
      have e2 : (x :: L)[t / 6] = L[(t - 6) / 6]'(by simp only [List.length_cons] at h; omega) := by simp [e0]
      rw [e2]
theorem flat_cells (d : Array Kd) : (flatK Kd.enc 6 d).toList = cellsK d.toList := by
  apply List.ext_getElem?
  intro t
  by_cases h : t < d.size * 6
  · have h1 : t / 6 < d.toList.length := by rw [Array.length_toList]; omega
    rw [cells_get _ _ h1, List.getElem?_eq_getElem (by rw [Array.length_toList, size_flatK]; exact h)]
    have h2 := get_flatK Kd.enc 6 d t h
    rw [getElem!_pos _ t (by rw [size_flatK]; exact h), getElem!_pos d (t / 6) (by omega)] at h2
    rw [Array.getElem_toList, h2, Array.getElem_toList]
  · rw [List.getElem?_eq_none (by rw [Array.length_toList, size_flatK]; omega), List.getElem?_eq_none (by rw [cellsK_len, Array.length_toList]; omega)]
theorem row_k {w : World} {base g n c : Nat} {L : List Kd} (h : OwnK 27 6 w base (.slice (some ⟨g, 0, none⟩) n c) n (cellsK L)) (hn : L.length = n) : RwK w g L.toArray := by
  have hlt := h.lt g rfl
  refine ⟨encK_len, encK_one, ?_, hlt.2⟩
  intro j hj
  rw [size_flatK] at hj
  have hj' : j < n * 6 := by rw [← hn]; simpa using hj
  have h1 := World.ownsRow.cellAt h j hj'
  rw [Nat.zero_add]
  refine ⟨?_, ?_⟩
  · rw [h1, ← (show (flatK Kd.enc 6 L.toArray).toList = cellsK L from flat_cells L.toArray)]
    rw [List.getElem?_eq_getElem (by rw [Array.length_toList, size_flatK]; exact hj), Array.getElem_toList, getElem!_pos _ j (by rw [size_flatK]; exact hj)]
    rfl
  · rcases h.2 with ⟨h', _⟩ | ⟨g', cap, cur, h', _, hg, _⟩
    · cases h'
    · injection h' with h'
      injection h' with h'
      injection h' with h'
      subst h'
      simp [World.frozen?, hg]
theorem put_front (F cur : Array Value) (h : F.size ≤ cur.size) : (Go.Sort.putCells id 0 F cur).size = cur.size ∧ (Go.Sort.putCells id 0 F cur).toList.take F.size = F.toList := by
  have hz : (Go.Sort.putCells id 0 F cur).size = cur.size := by simp [Go.Sort.putCells]
  refine ⟨hz, ?_⟩
  apply List.ext_getElem
  · rw [List.length_take, Array.length_toList, hz, Array.length_toList]
    omega
  · intro i h1 h2
    have hi : i < F.size := by simpa using h2
    rw [List.getElem_take, Array.getElem_toList, Array.getElem_toList]
    simp only [Go.Sort.putCells, Array.getElem_mapIdx]
    rw [if_pos (by omega), Nat.sub_zero, getElem!_pos F i hi]
    rfl
/-- Behind a sort: the row of the call's own holds the entries as they stand; all else is as it was. -/
theorem own_srt {w w' : World} {base g n c : Nat} {L : List Kd} {d : Array Kd} (h : OwnK 27 6 w base (.slice (some ⟨g, 0, none⟩) n c) n (cellsK L)) (hn : L.length = n) (hd : d.size = n) (S : SwK w g d w') :
    OwnK 27 6 w' base (.slice (some ⟨g, 0, none⟩) n c) n (cellsK d.toList) ∧ Keeps base [g] w w' := by
  obtain ⟨m, os, rfl⟩ := S
  have hlt := h.lt g rfl
  have hoth : ∀ k, k < w.heap.size → k ≠ g → (sortWorldK Kd.enc 6 w g 0 m d os).heap[k]? = w.heap[k]? := fun k hk hne => by
    unfold sortWorldK
    rw [Go.Sort.heap_grow_old _ _ (by rw [size_putRowK]; exact hk)]
    show (w.heap.modify g _)[k]? = _
    rw [Array.getElem?_modify, if_neg (by omega)]
  refine ⟨⟨by rw [cellsK_len, Array.length_toList, hd], .inr ?_⟩, ⟨⟨rfl, rfl, rfl, ?_, fun k hk => hoth k (by omega) (by omega)⟩, fun k hk hm => hoth k hk (by simpa using hm)⟩⟩
  · rcases h.2 with ⟨h', _⟩ | ⟨g', cap, cur, h', hb, hg, h3, h4, h5, h6⟩
    · cases h'
    · injection h' with h1 h2 h7
      injection h1 with h1
      injection h1 with h1
      subst h1 h7
      have hf := put_front (flatK Kd.enc 6 d) cur (by rw [size_flatK, hd, h5]; exact Nat.mul_le_mul_right 6 h3)
      refine ⟨g, c, Go.Sort.putCells id 0 (flatK Kd.enc 6 d) cur, rfl, hb, ?_, h3, h4, by rw [hf.1, h5], ?_⟩
      · unfold sortWorldK
        rw [Go.Sort.heap_grow_old _ _ (by rw [size_putRowK]; exact hlt.2)]
        show (w.heap.modify g _)[g]? = _
        rw [Array.getElem?_modify, if_pos rfl, hg]
        rfl
      · rw [← flat_cells, ← hf.2, size_flatK, hd]
  · unfold sortWorldK
    rw [Go.Sort.size_grow, size_putRowK]
    exact Nat.le_add_right _ _
end Go.Proofs.Ytgipnemcmiohlaa
namespace Go.Proofs.Ytgipnemcmiohlaa
open Go.RowKit
set_option linter.unusedSimpArgs false
set_option linter.unusedVariables false
open Go.Sort (PermIn SortedIn SWO swp permIn_refl permIn_trans permIn_mono permIn_all swp_permIn size_swp swp_left swp_right swp_other)
set_option maxRecDepth 100000 in
set_option maxHeartbeats 1000000 in
theorem ins_zero (A : Option Addr) (c : Nat) (w : World) : Calls Try.prog 56 #[.slice A 0 c, .int .i64 0, .int .i64 0, (.func (.func 33) #[] #[])] w fun r w' => r = .returned (.tuple #[]) ∧ w = w' := by
  go_enter Try.func56, Try.ntmps56
  go_wp2
  refine wp_loop_rounds 1 ?_
  rw [rounds_succ]
  go_wp2
  go_end0
  exact ⟨rfl, rfl⟩
set_option maxRecDepth 100000 in
set_option maxHeartbeats 1000000 in
theorem stb_zero (A : Option Addr) (c : Nat) (w : World) : Calls Try.prog 52 #[.slice A 0 c, .int .i64 0, (.func (.func 33) #[] #[])] w fun r w' => r = .returned (.tuple #[]) ∧ w = w' := by
  have HC := Lib.hid (ins_zero A c w)
  go_enter Try.func52, Try.ntmps52
  go_wp2
  refine wp_loop_rounds 1 ?_
  rw [rounds_succ]
  go_wp2_with fail
  refine HC.out.mono ?_
  rintro r w' ⟨rfl, rfl⟩
  go_wp2
  refine wp_loop_rounds 1 ?_
  rw [rounds_succ]
  go_wp2
  go_end0
  exact ⟨rfl, rfl⟩
set_option maxRecDepth 100000 in
set_option maxHeartbeats 1000000 in
theorem ssf_zero (A : Option Addr) (c : Nat) (w : World) : Calls Try.prog 43 #[.slice A 0 c, (.func (.func 33) #[] #[])] w fun r w' => r = .returned (.tuple #[]) ∧ w = w' := by
  have HC := Lib.hid (stb_zero A c w)
  go_enter Try.func43, Try.ntmps43
  go_wp2_with fail
  refine HC.out.mono ?_
  rintro r w' ⟨rfl, rfl⟩
  go_wp2
  go_end0
  exact ⟨rfl, rfl⟩
def KidsR (base : Nat) (v : Value) (f : NdF) (F : List Nat) (w : World) (r : Ending) (w' : World) : Prop := r = .returned (.tuple #[]) ∧ (∃ F', OwnU w' base v (sortA .nil f) F' ∧ F'.Nodup ∧ ∀ g, g ∈ F' → g ∈ F) ∧ Keeps base F w w'
def KidsP (f : NdF) : Prop := ∀ (base : Nat) (v : Value) (F : List Nat) (w : World), OwnU w base v f F → F.Nodup → base ≤ w.heap.size → f.size ≤ 1000000 → Calls Try.prog 29 #[v] w (KidsR base v f F w)
structure KidI (base g n c : Nat) (L : List Kd) (w1 : World) (j : Nat) (wr : World) : Prop where
  row : OwnK 27 6 wr base (.slice (some ⟨g, 0, none⟩) n c) n (cellsK L)
  dn : ∃ G, OwnT wr base (srtF (kidsF (L.take j))) (cellsK (L.take j)) G ∧ G.Nodup ∧ ∀ k, k ∈ G → k ∈ blocksK (L.take j)
  rs : ∀ x, x ∈ L.drop j → OwnU wr base x.v x.k x.F
  kp : Keeps base (blocksK L) w1 wr
theorem take_one {L : List Kd} {j : Nat} (h : j < L.length) : L.take (j + 1) = L.take j ++ [L[j]] := by
  rw [List.take_add_one, List.getElem?_eq_getElem h]
  rfl
theorem kid_step {base g n c j : Nat} {L : List Kd} {w1 wr w2 w3 : World} (h : KidI base g n c L w1 j wr) (hnd : (g :: blocksK L).Nodup) (hj : j < L.length) (hb : Below wr.heap.size wr w2) (hbs : base ≤ w1.heap.size)
    (hU : ∃ F', OwnU w3 base L[j].v (sortA .nil L[j].k) F' ∧ F'.Nodup ∧ ∀ k, k ∈ F' → k ∈ L[j].F) (hk : Keeps base L[j].F w2 w3) : KidI base g n c L w1 (j + 1) w3 := by
  obtain ⟨F', hU, hn', hs'⟩ := hU
  obtain ⟨G, k1, k2, k3⟩ := h.dn
  have hsp : L = L.take j ++ (L[j] :: L.drop (j + 1)) := by
    rw [← List.drop_eq_getElem_cons hj, List.take_append_drop]
  have hbk : blocksK L = blocksK (L.take j) ++ (L[j].F ++ blocksK (L.drop (j + 1))) := by
    conv => lhs; rw [hsp]
    rw [blocksK_app]
    rfl
  have hn1 := List.nodup_cons.1 hnd
  have hn2 := hn1.2
  rw [hbk] at hn2
  have hn3 := List.nodup_append.1 hn2
  have hn4 := List.nodup_append.1 hn3.2.1
  have hkept : ∀ k, k < wr.heap.size → k ∉ L[j].F → w3.heap[k]? = wr.heap[k]? := fun k hk1 hk2 => (hk.2 k (Nat.lt_of_lt_of_le hk1 hb.size) hk2).trans (hb.block k hk1)
  refine ⟨?_, ?_, ?_, ?_⟩
  · refine OwnK.keep h.row (fun q hq => ?_)
    have e : q = g := by injection hq with hq; exact hq.symm
    subst e
    exact hkept q (h.row.lt q rfl).2 (fun hm => hn1.1 (by rw [hbk]; simp [hm]))
  · rw [take_one hj]
    refine ⟨G ++ F', ?_, ?_, ?_⟩
    · rw [kidsF_app, srtF_app, cellsK_app]
      have h1 : OwnT w3 base (srtF (kidsF (L.take j))) (cellsK (L.take j)) G := k1.keep (Nat.le_refl _) (fun k hm => hkept k (k1.fresh k hm).lt (fun hm2 => hn3.2.2 k (k3 k hm) k (by simp [hm2]) rfl))
      have h2 : OwnT w3 base (srtF (kidsF [L[j]])) (cellsK [L[j]]) F' := by
        have h3 := OwnT.one (a := L[j].a) hU
        show OwnT w3 base (.cons L[j].a (sortA .nil L[j].k) .nil) (L[j].enc ++ []) F'
        rw [List.append_nil]
        exact h3
      exact OwnT.app h2 h1
    · exact List.nodup_append.2 ⟨k2, hn', fun a ha b hb2 e => hn3.2.2 a (k3 a ha) b (by simp [hs' b hb2]) e⟩
    · intro k hm
      rw [blocksK_app]
      rcases List.mem_append.1 hm with hm | hm
      · exact List.mem_append.2 (.inl (k3 k hm))
      · exact List.mem_append.2 (.inr (by simp [blocksK, hs' k hm]))
  · intro x hx
    have hx' : x ∈ L.drop j := by rw [List.drop_eq_getElem_cons hj]; exact List.mem_cons_of_mem _ hx
    have hu := h.rs x hx'
    exact hu.keep (fun k hm => hkept k (hu.fresh k hm).lt (fun hm2 => hn4.2.2 k hm2 k (blocksK_mem.2 ⟨x, hx, hm⟩) rfl)) (Nat.le_refl _)
  · refine (h.kp.trans (Keeps.of_below hb (Nat.le_trans hbs h.kp.1.size)) (fun k hm => .inl hm)).trans hk (fun k hm => .inl (by rw [hbk]; simp [hm]))
theorem kid_at {L : List Kd} {w : World} {base g n c j : Nat} (h : OwnK 27 6 w base (.slice (some ⟨g, 0, none⟩) n c) n (cellsK L)) (hn : L.length = n) (hj : j < L.length) :
    ∀ i u, (ndC L[j].a L[j].v)[i]? = some u → w.cell? ⟨g, j * 6 + i, none⟩ = some u := fun i u hu => by
  have hi : i < 6 := (List.getElem?_eq_some_iff.1 hu).1
  have e1 : (j * 6 + i) / 6 = j := by omega
  have e2 : (j * 6 + i) % 6 = i := by omega
  have h1 := World.ownsRow.cellAt h (j * 6 + i) (by omega)
  rw [h1, cells_get L (j * 6 + i) (by omega), e2]
  have e3 : L[(j * 6 + i) / 6]'(by omega) = L[j] := by simp [e1]
  rw [e3, ← hu]
  show some ((ndC L[j].a L[j].v)[i]!) = _
  rw [getElem!_pos _ i (by simpa using hi), List.getElem?_eq_getElem]
theorem kids_get : ∀ (L : List Kd) (i : Nat) (h : i < L.length), (kidsF L).get? i = some (L[i].a, L[i].k) := by
  intro L
  induction L with
  | nil => intro i h; simp at h
  | cons x L ih =>
    intro i h
    cases i with
    | zero => rfl
    | succ i => exact ih i (by simpa using h)
theorem kid_end {base g n c : Nat} {L : List Kd} {w1 wr : World} (h : KidI base g n c L w1 n wr) (hn : L.length = n) (hnd : (g :: blocksK L).Nodup) : ∃ F', OwnU wr base (.slice (some ⟨g, 0, none⟩) n c) (srtF (kidsF L)) F' ∧ F'.Nodup ∧ ∀ k, k ∈ F' → k ∈ g :: blocksK L := by
  obtain ⟨G, k1, k2, k3⟩ := h.dn
  rw [List.take_of_length_le (by omega)] at k1 k3
  have e : (srtF (kidsF L)).len = n := by rw [srtF_len, kidsF_len, hn]
  refine ⟨g :: G, ⟨cellsK L, G, rfl, by rw [e]; exact h.row, k1⟩, List.nodup_cons.2 ⟨fun hm => (List.nodup_cons.1 hnd).1 (k3 g hm), k2⟩, fun k hm => ?_⟩
  rcases List.mem_cons.1 hm with rfl | hm
  · simp
  · exact List.mem_cons_of_mem _ (k3 k hm)
theorem own_some {w : World} {base n : Nat} {v : Value} {xs : List Value} (h : OwnK 27 6 w base v n xs) (h0 : 0 < n) : ∃ g c, v = .slice (some ⟨g, 0, none⟩) n c := by
  rcases h.2 with ⟨_, h'⟩ | ⟨g, c, _, h', _⟩
  · omega
  · exact ⟨g, c, h'⟩
/-- Behind the row's own sort. -/
def MidK (base g n c : Nat) (f : NdF) (F : List Nat) (w w' : World) : Prop := ∃ L : List Kd, L.length = n ∧ (g :: blocksK L).Nodup ∧ base ≤ w'.heap.size ∧ (∀ x, x ∈ L → KidsP x.k ∧ x.k.size ≤ 1000000) ∧ KidI base g n c L w' 0 w' ∧
  ∀ wr, KidI base g n c L w' n wr → KidsR base (.slice (some ⟨g, 0, none⟩) n c) f F w (.returned (.tuple #[])) wr
set_option maxRecDepth 100000 in
set_option maxHeartbeats 4000000 in
theorem kids_loop (base g n c : Nat) (f : NdF) (F : List Nat) (w : World) (hz : n ≤ 1000000) (hS : Calls Try.prog 43 #[.slice (some ⟨g, 0, none⟩) n c, (.func (.func 33) #[] #[])] w fun r w' => r = .returned (.tuple #[]) ∧ MidK base g n c f F w w') :
    Calls Try.prog 29 #[.slice (some ⟨g, 0, none⟩) n c] w (KidsR base (.slice (some ⟨g, 0, none⟩) n c) f F w) := by
  have HS := Lib.hid hS
  have i3 : (n : Int) ≤ 1000000 := by omega
  clear hS
  go_enter Try.func29, Try.ntmps29
  go_wp2_with fail
  refine HS.out.mono ?_
  rintro r w' ⟨rfl, L, hL, hnd, hbs, hK, hI, hend⟩
  have HL := Lib.hid hL
  have HN := Lib.hid hnd
  have HK := Lib.hid hK
  have HI := Lib.hid hI
  have HE := Lib.hid hend
  have HB := Lib.hid hbs
  clear hL hnd hK hI hend hbs
  go_wp2_with fail
  go_loopw [8] (fun i wr => ∃ j : Nat, j ≤ n ∧ i = .int .i64 (j : Int) ∧ Hid (KidI base g n c L w' j wr)) (fun i _ => n - (intOf i).toNat)
  case atStart => exact ⟨0, Nat.zero_le _, rfl, HI⟩
  case round =>
    clear HI
    obtain ⟨j, hj, rfl, HI⟩ := hrel
    by_cases hlt : j < n
    · have hjL : j < L.length := by have := HL.out; omega
      obtain ⟨x, hx⟩ : ∃ x, x = L[j] := ⟨_, rfl⟩
      have hcell := kid_at HI.out.row HL.out hjL
      rw [← hx] at hcell
      have s0 : wr.cell? ⟨g, j * 6, none⟩ = some (.string (txt x.a.name)) := hcell 0 _ rfl
      have s1 : wr.cell? ⟨g, j * 6 + 1, none⟩ = some (.string (txt x.a.key)) := hcell 1 _ rfl
      have s2 : wr.cell? ⟨g, j * 6 + 2, none⟩ = some (.int .i64 x.a.kind) := hcell 2 _ rfl
      have s3 : wr.cell? ⟨g, j * 6 + 3, none⟩ = some (.int .u64 (x.a.num : Int)) := hcell 3 _ rfl
      have s4 : wr.cell? ⟨g, j * 6 + 4, none⟩ = some (.string (txt x.a.text)) := hcell 4 _ rfl
      have s5 : wr.cell? ⟨g, j * 6 + 5, none⟩ = some (.slice x.A x.k.len x.c) := hcell 5 _ rfl
      have i1 : (j : Int) < (n : Int) := by omega
      have HBK : Hid (Below wr.heap.size wr (wr.alloc (.cells #[.string (txt x.a.name), .string (txt x.a.key), .int .i64 x.a.kind, .int .u64 (x.a.num : Int), .string (txt x.a.text), .slice x.A x.k.len x.c] 27))) := Lib.hid ((Below.refl _ _).alloc (Nat.le_refl _) _)
      have HC : Hid (Calls Try.prog 29 #[.slice x.A x.k.len x.c] (wr.alloc (.cells #[.string (txt x.a.name), .string (txt x.a.key), .int .i64 x.a.kind, .int .u64 (x.a.num : Int), .string (txt x.a.text), .slice x.A x.k.len x.c] 27)) (fun r w3 => r = .returned (.tuple #[]) ∧ KidI base g n c L w' (j + 1) w3)) := Lib.hid (by
        subst hx
        have hm : L[j] ∈ L := List.getElem_mem _
        have hu := HI.out.rs L[j] (by rw [List.drop_eq_getElem_cons hjL]; exact List.mem_cons_self)
        have hsp : L = L.take j ++ (L[j] :: L.drop (j + 1)) := by rw [← List.drop_eq_getElem_cons hjL, List.take_append_drop]
        have hnx : (L[j].F).Nodup := by
          have h1 := (List.nodup_cons.1 HN.out).2
          rw [hsp, blocksK_app] at h1
          exact (List.nodup_append.1 (List.nodup_append.1 h1).2.1).1
        have h1 := (HK.out L[j] hm).1 base L[j].v L[j].F _ (hu.below HBK.out) hnx (Nat.le_trans HB.out (Nat.le_trans HI.out.kp.1.size HBK.out.size)) (HK.out L[j] hm).2
        refine Calls.mono h1 ?_
        rintro r w3 ⟨k1, k2, k3⟩
        exact ⟨k1, kid_step HI.out HN.out hjL HBK.out HB.out k2 k3⟩)
      clear hcell hx
      go_wp2_with fail
      refine HC.out.mono ?_
      rintro r w3 ⟨rfl, hr⟩
      have HR := Lib.hid hr
      clear hr s0 s1 s2 s3 s4 s5
      go_wp2
      go_roundw
      case rel => exact ⟨j + 1, by omega, by go_num, HR⟩
      case measure => simp [intOf]; omega
    · have i1 : ¬ (j : Int) < (n : Int) := by omega
      have HF : Hid (KidsR base (.slice (some ⟨g, 0, none⟩) n c) f F w (.returned (.tuple #[])) wr) := Lib.hid (HE.out wr (by
        have h := HI.out
        rw [show j = n by omega] at h
        exact h))
      go_wp2
      go_end0
      exact HF.out
set_option maxRecDepth 100000 in
set_option maxHeartbeats 1000000 in
theorem kids_none (base : Nat) (A : Option Addr) (c : Nat) (F : List Nat) (w : World) (h : KidsR base (.slice A 0 c) .nil F w (.returned (.tuple #[])) w) : Calls Try.prog 29 #[.slice A 0 c] w (KidsR base (.slice A 0 c) .nil F w) := by
  have HS := Lib.hid (ssf_zero A c w)
  have H := Lib.hid h
  clear h
  go_enter Try.func29, Try.ntmps29
  go_wp2_with fail
  refine HS.out.mono ?_
  rintro r w' ⟨rfl, rfl⟩
  go_wp2_with fail
  refine wp_loop_rounds 1 ?_
  rw [rounds_succ]
  go_wp2
  go_end0
  exact H.out
theorem mid_k {base g n c : Nat} {L : List Kd} {w w' : World} (hL : L.length = n) (h1 : OwnK 27 6 w base (.slice (some ⟨g, 0, none⟩) n c) n (cellsK L)) (hu : ∀ x, x ∈ L → OwnU w base x.v x.k x.F) (hp : ∀ i (h : i < L.length), L[i].p = 0 + i) (hnd : (g :: blocksK L).Nodup) (hb : base ≤ w.heap.size)
    (hk : ∀ x, x ∈ L → KidsP x.k ∧ x.k.size ≤ 1000000) (hs : Srt9 n L.toArray w g w') : MidK base g n c (kidsF L) (g :: blocksK L) w w' := by
  obtain ⟨d, h2, h3⟩ := hs
  have hz : (L.toArray).size = n := by simpa using hL
  have hd : d.size = n := by rw [h2.1.1, hz]
  obtain ⟨hpm, hpw⟩ := sym_list hz h2
  have hpm : d.toList.Perm L := hpm
  obtain ⟨k1, k2⟩ := own_srt h1 hL hd h3
  have hbp := blocksK_perm hpm
  have hnd1 : (g :: blocksK d.toList).Nodup := ((hbp.cons g).nodup_iff).2 hnd
  have hn1 := List.nodup_cons.1 hnd
  refine ⟨d.toList, by rw [Array.length_toList, hd], hnd1, Nat.le_trans hb k2.1.size, fun x hx => hk x (hpm.mem_iff.1 hx), ⟨k1, ⟨[], ?_, List.nodup_nil, fun k hm => by cases hm⟩, fun x hx => ?_, Keeps.refl _ _ _⟩, fun wr hI => ?_⟩
  · exact ⟨rfl, rfl⟩
  · have hx' : x ∈ L := hpm.mem_iff.1 (by simpa using hx)
    have hux := hu x hx'
    exact hux.keep (fun k hm => k2.2 k (hux.fresh k hm).lt (fun he => hn1.1 (by
      have e : k = g := by simpa using he
      rw [← e]
      exact blocksK_mem.2 ⟨x, hx', hm⟩))) (Nat.le_refl _)
  · obtain ⟨F', g1, g2, g3⟩ := kid_end hI (by rw [Array.length_toList, hd]) hnd1
    rw [← sorted_is L.length L d.toList rfl (list_pw hp) hpm hpw] at g1
    have hsub : ∀ k, k ∈ g :: blocksK d.toList → k ∈ g :: blocksK L := fun k hm => ((hbp.cons g).mem_iff).1 hm
    exact ⟨rfl, ⟨F', g1, g2, fun k hm => hsub k (g3 k hm)⟩, (k2.sub (fun k hm => by simp at hm; simp [hm])).trans hI.kp (fun k hm => .inl (hsub k (List.mem_cons_of_mem _ hm)))⟩
theorem kids_row (f : NdF) (hkids : ∀ n a k, f.get? n = some (a, k) → KidsP k) : KidsP f := by
  intro base v F w hU hnd hb hz
  have hU0 := hU
  obtain ⟨zs, F0, rfl, h1, h2⟩ := hU
  by_cases h0 : f.len = 0
  · have e : f = .nil := by
      cases f with
      | nil => rfl
      | cons => simp [Fr.len] at h0
    subst e
    obtain ⟨A, c, rfl⟩ := h1.shape
    exact kids_none base A c _ w ⟨rfl, ⟨_, hU0, hnd, fun g hg => hg⟩, Keeps.refl _ _ _⟩
  · obtain ⟨g, c, rfl⟩ := own_some h1 (by omega)
    obtain ⟨L, rfl, rfl, rfl, k4, k5⟩ := own_list 0 h2
    rw [kidsF_len] at h1 ⊢
    have hfz : L.length ≤ 1000000 := by
      have := Fr.len_size (kidsF L)
      rw [kidsF_len] at this
      omega
    refine kids_loop base g L.length c (kidsF L) _ w hfz ?_
    refine (ssf_any g c L.length L.toArray w w (row_k h1 rfl) (by simp) (SWK.start (row_k h1 rfl).hH) hfz (fun i hi => ?_)).mono ?_
    · rw [getElem!_pos L.toArray i (by simpa using hi)]
      have := k5 i hi
      simpa using this
    · rintro r w' ⟨e, hs⟩
      exact ⟨e, mid_k rfl h1 k4 k5 hnd hb (fun x hx => by
        obtain ⟨i, hi, rfl⟩ := List.getElem_of_mem hx
        have hg := kids_get L i hi
        exact ⟨hkids i _ _ hg, by have := Fr.size_get hg; omega⟩) hs⟩
theorem kids_any (f : NdF) : KidsP f := Fr.byKids kids_row f
set_option maxRecDepth 100000 in
set_option maxHeartbeats 2000000 in
theorem sorted_any (a : NdD) (f : NdF) (A : Option Addr) (c : Nat) (w : World) (hk : RowT w.heap.size w (.slice A f.len c) f) (hz : f.size ≤ 1000000) :
    Calls Try.prog 10 #[.agg #[.string (txt a.name), .string (txt a.key), .int .i64 a.kind, .int .u64 (a.num : Int), .string (txt a.text), .slice A f.len c]] w (TreP1 (a, sortA .nil f) w) := by
  obtain ⟨h1, h2, h3, h4⟩ := get_boxes a f A c w (LieB.make hk)
  have hs0 : ((w.alloc (.cells #[.string (txt a.name), .string (txt a.key), .int .i64 a.kind, .int .u64 (a.num : Int), .string (txt a.text), .slice A f.len c] 27)).alloc (.cells #[.string ⟨#[]⟩, .string ⟨#[]⟩, .int .i64 0, .int .u64 0, .string ⟨#[]⟩, .slice none 0 0] 27)).heap.size = w.heap.size + 2 := by simp
  have HQ0 : Hid (Blk ((w.alloc (.cells #[.string (txt a.name), .string (txt a.key), .int .i64 a.kind, .int .u64 (a.num : Int), .string (txt a.text), .slice A f.len c] 27)).alloc (.cells #[.string ⟨#[]⟩, .string ⟨#[]⟩, .int .i64 0, .int .u64 0, .string ⟨#[]⟩, .slice none 0 0] 27)) w.heap.size 27 #[.string (txt a.name), .string (txt a.key), .int .i64 a.kind, .int .u64 (a.num : Int), .string (txt a.text), .slice A f.len c] ∧ Blk ((w.alloc (.cells #[.string (txt a.name), .string (txt a.key), .int .i64 a.kind, .int .u64 (a.num : Int), .string (txt a.text), .slice A f.len c] 27)).alloc (.cells #[.string ⟨#[]⟩, .string ⟨#[]⟩, .int .i64 0, .int .u64 0, .string ⟨#[]⟩, .slice none 0 0] 27)) (w.heap.size + 1) 27 #[.string ⟨#[]⟩, .string ⟨#[]⟩, .int .i64 0, .int .u64 0, .string ⟨#[]⟩, .slice none 0 0] ∧ w.heap.size + 2 ≤ ((w.alloc (.cells #[.string (txt a.name), .string (txt a.key), .int .i64 a.kind, .int .u64 (a.num : Int), .string (txt a.text), .slice A f.len c] 27)).alloc (.cells #[.string ⟨#[]⟩, .string ⟨#[]⟩, .int .i64 0, .int .u64 0, .string ⟨#[]⟩, .slice none 0 0] 27)).heap.size) := Lib.hid ⟨h1, h2, Nat.le_of_eq hs0.symm⟩
  have HB0 : Hid (Below w.heap.size w ((w.alloc (.cells #[.string (txt a.name), .string (txt a.key), .int .i64 a.kind, .int .u64 (a.num : Int), .string (txt a.text), .slice A f.len c] 27)).alloc (.cells #[.string ⟨#[]⟩, .string ⟨#[]⟩, .int .i64 0, .int .u64 0, .string ⟨#[]⟩, .slice none 0 0] 27))) := Lib.hid h3
  have HCN : Hid (Calls Try.prog 28 #[.agg #[.string (txt a.name), .string (txt a.key), .int .i64 a.kind, .int .u64 (a.num : Int), .string (txt a.text), .slice A f.len c]] ((w.alloc (.cells #[.string (txt a.name), .string (txt a.key), .int .i64 a.kind, .int .u64 (a.num : Int), .string (txt a.text), .slice A f.len c] 27)).alloc (.cells #[.string ⟨#[]⟩, .string ⟨#[]⟩, .int .i64 0, .int .u64 0, .string ⟨#[]⟩, .slice none 0 0] 27)) (CopP a f ((w.alloc (.cells #[.string (txt a.name), .string (txt a.key), .int .i64 a.kind, .int .u64 (a.num : Int), .string (txt a.text), .slice A f.len c] 27)).alloc (.cells #[.string ⟨#[]⟩, .string ⟨#[]⟩, .int .i64 0, .int .u64 0, .string ⟨#[]⟩, .slice none 0 0] 27)))) := Lib.hid (copy_any f a A c ((w.alloc (.cells #[.string (txt a.name), .string (txt a.key), .int .i64 a.kind, .int .u64 (a.num : Int), .string (txt a.text), .slice A f.len c] 27)).alloc (.cells #[.string ⟨#[]⟩, .string ⟨#[]⟩, .int .i64 0, .int .u64 0, .string ⟨#[]⟩, .slice none 0 0] 27)) (hk.under h3 (Nat.le_refl _) h3.size) hz)
  have HZ := Lib.hid hz
  have q0 := (h1.cell 0).trans rfl
  have q1 := (h1.cell 1).trans rfl
  have q2 := (h1.cell 2).trans rfl
  have q3 := (h1.cell 3).trans rfl
  have q4 := (h1.cell 4).trans rfl
  have q5 := (h1.cell 5).trans rfl
  clear h1 h2 h3 h4 hs0 hk hz
  go_enter Try.func10, Try.ntmps10
  go_wp2_with fail
  refine HCN.out.mono ?_
  rintro r w3 ⟨v1, F1, rfl, hU, hnd, hb3⟩
  obtain ⟨A1, c1, rfl⟩ := hU.shape
  have HX3 := Lib.hid (HQ0.out.1.below hb3 HQ0.out.1.lt)
  have HQ3 : Hid (Blk (set6 w3 w.heap.size (.string (txt a.name)) (.string (txt a.key)) (.int .i64 a.kind) (.int .u64 (a.num : Int)) (.string (txt a.text)) (.slice A1 f.len c1)) w.heap.size 27 #[.string (txt a.name), .string (txt a.key), .int .i64 a.kind, .int .u64 (a.num : Int), .string (txt a.text), .slice A1 f.len c1] ∧ Blk (set6 w3 w.heap.size (.string (txt a.name)) (.string (txt a.key)) (.int .i64 a.kind) (.int .u64 (a.num : Int)) (.string (txt a.text)) (.slice A1 f.len c1)) (w.heap.size + 1) 27 #[.string ⟨#[]⟩, .string ⟨#[]⟩, .int .i64 0, .int .u64 0, .string ⟨#[]⟩, .slice none 0 0] ∧ w.heap.size + 2 ≤ (set6 w3 w.heap.size (.string (txt a.name)) (.string (txt a.key)) (.int .i64 a.kind) (.int .u64 (a.num : Int)) (.string (txt a.text)) (.slice A1 f.len c1)).heap.size) := Lib.hid ⟨HX3.out.set6 _ _ _ _ _ _,
    (set6_other (by omega)).trans (HQ0.out.2.1.below hb3 HQ0.out.2.1.lt), by rw [set6_size]; exact Nat.le_trans HQ0.out.2.2 hb3.size⟩
  have HB3 : Hid (Below w.heap.size w (set6 w3 w.heap.size (.string (txt a.name)) (.string (txt a.key)) (.int .i64 a.kind) (.int .u64 (a.num : Int)) (.string (txt a.text)) (.slice A1 f.len c1))) := Lib.hid ((HB0.out.trans (hb3.mono HB0.out.size)).trans (set6_below (Nat.le_refl _)))
  have hF1 : ∀ h, h ∈ F1 → ((w.alloc (.cells #[.string (txt a.name), .string (txt a.key), .int .i64 a.kind, .int .u64 (a.num : Int), .string (txt a.text), .slice A f.len c] 27)).alloc (.cells #[.string ⟨#[]⟩, .string ⟨#[]⟩, .int .i64 0, .int .u64 0, .string ⟨#[]⟩, .slice none 0 0] 27)).heap.size ≤ h := fun h hh => (hU.fresh h hh).1
  have HU3 : Hid (OwnU (set6 w3 w.heap.size (.string (txt a.name)) (.string (txt a.key)) (.int .i64 a.kind) (.int .u64 (a.num : Int)) (.string (txt a.text)) (.slice A1 f.len c1)) ((w.alloc (.cells #[.string (txt a.name), .string (txt a.key), .int .i64 a.kind, .int .u64 (a.num : Int), .string (txt a.text), .slice A f.len c] 27)).alloc (.cells #[.string ⟨#[]⟩, .string ⟨#[]⟩, .int .i64 0, .int .u64 0, .string ⟨#[]⟩, .slice none 0 0] 27)).heap.size (.slice A1 f.len c1) f F1) := Lib.hid (hU.keep (fun h hh => set6_other (by have := hF1 h hh; have := HQ0.out.2.2; omega)) (Nat.le_refl _))
  have HF1 := Lib.hid hF1
  have HKD : Hid (Calls Try.prog 29 #[.slice A1 f.len c1] (set6 w3 w.heap.size (.string (txt a.name)) (.string (txt a.key)) (.int .i64 a.kind) (.int .u64 (a.num : Int)) (.string (txt a.text)) (.slice A1 f.len c1)) (KidsR ((w.alloc (.cells #[.string (txt a.name), .string (txt a.key), .int .i64 a.kind, .int .u64 (a.num : Int), .string (txt a.text), .slice A f.len c] 27)).alloc (.cells #[.string ⟨#[]⟩, .string ⟨#[]⟩, .int .i64 0, .int .u64 0, .string ⟨#[]⟩, .slice none 0 0] 27)).heap.size (.slice A1 f.len c1) f F1 (set6 w3 w.heap.size (.string (txt a.name)) (.string (txt a.key)) (.int .i64 a.kind) (.int .u64 (a.num : Int)) (.string (txt a.text)) (.slice A1 f.len c1)))) := Lib.hid (kids_any f _ _ _ _ HU3.out hnd (by rw [set6_size]; exact hb3.size) HZ.out)
  have p0 := (HQ3.out.1.cell 0).trans rfl
  have p1 := (HQ3.out.1.cell 1).trans rfl
  have p2 := (HQ3.out.1.cell 2).trans rfl
  have p3 := (HQ3.out.1.cell 3).trans rfl
  have p4 := (HQ3.out.1.cell 4).trans rfl
  have p5 := (HQ3.out.1.cell 5).trans rfl
  have fz0 : (w3).frozen? ⟨w.heap.size, 0, none⟩ = false := HX3.out.frozen 0
  have fq0 := (HX3.out.cell 0).trans rfl
  have fz1 : (w3).frozen? ⟨w.heap.size, 1, none⟩ = false := HX3.out.frozen 1
  have fq1 := (HX3.out.cell 1).trans rfl
  have fz2 : (w3).frozen? ⟨w.heap.size, 2, none⟩ = false := HX3.out.frozen 2
  have fq2 := (HX3.out.cell 2).trans rfl
  have fz3 : (w3).frozen? ⟨w.heap.size, 3, none⟩ = false := HX3.out.frozen 3
  have fq3 := (HX3.out.cell 3).trans rfl
  have fz4 : (w3).frozen? ⟨w.heap.size, 4, none⟩ = false := HX3.out.frozen 4
  have fq4 := (HX3.out.cell 4).trans rfl
  have fz5 : (w3).frozen? ⟨w.heap.size, 5, none⟩ = false := HX3.out.frozen 5
  have fq5 := (HX3.out.cell 5).trans rfl
  clear hU hnd hb3 hF1 q0 q1 q2 q3 q4 q5
  go_wp2_with fail
  refine HKD.out.mono ?_
  rintro r w4 ⟨rfl, ⟨F2, hU2, hnd2, hs2⟩, hkp⟩
  have HX4 : Hid (Blk w4 w.heap.size 27 #[.string (txt a.name), .string (txt a.key), .int .i64 a.kind, .int .u64 (a.num : Int), .string (txt a.text), .slice A1 f.len c1]) := Lib.hid ((hkp.2 _ HQ3.out.1.lt (fun hm => by have := HF1.out _ hm; have := HQ0.out.2.2; omega)).trans HQ3.out.1)
  have HZ4 : Hid (Blk w4 (w.heap.size + 1) 27 #[.string ⟨#[]⟩, .string ⟨#[]⟩, .int .i64 0, .int .u64 0, .string ⟨#[]⟩, .slice none 0 0]) := Lib.hid ((hkp.2 _ HQ3.out.2.1.lt (fun hm => by have := HF1.out _ hm; have := HQ0.out.2.2; omega)).trans HQ3.out.2.1)
  have HB4 : Hid (Below w.heap.size w w4) := Lib.hid (HB3.out.trans (hkp.1.mono (by have := HQ0.out.2.2; omega)))
  have HU4 := Lib.hid hU2
  have HS2 := Lib.hid hs2
  clear hU2 hnd2 hs2 hkp p0 p1 p2 p3 p4 p5 fz0 fz1 fz2 fz3 fz4 fz5 fq0 fq1 fq2 fq3 fq4 fq5
  have p0 := (HX4.out.cell 0).trans rfl
  have p1 := (HX4.out.cell 1).trans rfl
  have p2 := (HX4.out.cell 2).trans rfl
  have p3 := (HX4.out.cell 3).trans rfl
  have p4 := (HX4.out.cell 4).trans rfl
  have p5 := (HX4.out.cell 5).trans rfl
  have fz0 : (w4).frozen? ⟨w.heap.size + 1, 0, none⟩ = false := HZ4.out.frozen 0
  have fq0 := (HZ4.out.cell 0).trans rfl
  have fz1 : (w4).frozen? ⟨w.heap.size + 1, 1, none⟩ = false := HZ4.out.frozen 1
  have fq1 := (HZ4.out.cell 1).trans rfl
  have fz2 : (w4).frozen? ⟨w.heap.size + 1, 2, none⟩ = false := HZ4.out.frozen 2
  have fq2 := (HZ4.out.cell 2).trans rfl
  have fz3 : (w4).frozen? ⟨w.heap.size + 1, 3, none⟩ = false := HZ4.out.frozen 3
  have fq3 := (HZ4.out.cell 3).trans rfl
  have fz4 : (w4).frozen? ⟨w.heap.size + 1, 4, none⟩ = false := HZ4.out.frozen 4
  have fq4 := (HZ4.out.cell 4).trans rfl
  have fz5 : (w4).frozen? ⟨w.heap.size + 1, 5, none⟩ = false := HZ4.out.frozen 5
  have fq5 := (HZ4.out.cell 5).trans rfl
  go_wp2
  have HP : Hid (TreP1 (a, sortA .nil f) w (.returned (.agg #[.string (txt a.name), .string (txt a.key), .int .i64 a.kind, .int .u64 (a.num : Int), .string (txt a.text), .slice A1 f.len c1])) (set6 w4 (w.heap.size + 1) (.string (txt a.name)) (.string (txt a.key)) (.int .i64 a.kind) (.int .u64 (a.num : Int)) (.string (txt a.text)) (.slice A1 f.len c1))) := Lib.hid
    ⟨_, rfl, ((HU4.out.keep (fun g hg => set6_other (by have := HF1.out g (HS2.out g hg); have := HQ0.out.2.2; omega)) (by have := HQ0.out.2.2; omega)).new), HB4.out.trans (set6_below (by omega))⟩
  refine bodyPost_ret (results_cell_row rfl _ _ (w.heap.size + 1) 27 _ (0, 0) _ rfl (HZ4.out.set6 _ _ _ _ _ _) Try.underlying27 rfl (by kernel_rfl)) rfl ?_
  exact HP.out
theorem sortT (W0 : World) : SortTC W0 := by
  intro x cs w hx hf _
  obtain ⟨A, c, rfl, hk⟩ := hx.shape
  exact sorted_any x.1 x.2 A c w hk hf
end Go.Proofs.Ytgipnemcmiohlaa
namespace Go.Proofs.Ytgipnemcmiohlaa
open Go.RowKit
set_option linter.unusedSimpArgs false
set_option linter.unusedVariables false
theorem treC (W0 : World) : TreC W0 := ⟨lessT W0, rightT W0, sameT W0, sizeT W0, getT W0, setT W0, cutT W0, sortT W0⟩
end Go.Proofs.Ytgipnemcmiohlaa

