/-
  What the document's Find, Tag and Kid of the schema answer. No condition but those of each theorem.
-/
import Derived.Test.YtkpbjgjflabloaaSpcMem
import Derived.Test.YtkpbjgjflabloaaOctRefB
namespace Go.Proofs.Ytkpbjgjflabloaa
open Go.RowKit
set_option linter.unusedSimpArgs false

set_option maxRecDepth 100000 in
set_option maxHeartbeats 1000000 in
theorem rfind_any (n : List UInt8) (S N : Nat → Prop) (cs : List Value) (x : Sp) (w : World) (hx : SpN w S N cs x) (hS : ∀ g, S g → g < w.heap.size) (hl : x.2.len ≤ 1000000) :
    Calls Try.prog 15 #[.agg cs.toArray, .string (txt n)] w (AnsP (.int .i64 (findI n x.2)) w) := by
  obtain ⟨B, m, A, c, d, rfl, -, -, hk⟩ := hx.shape
  have hB : Below w.heap.size w (w.alloc (.cells #[.string (txt x.1.name), .int .i64 (x.1.kind : Int), .int .i64 (x.1.typ : Int), .int .u64 (x.1.low : Int), .int .u64 (x.1.high : Int), .slice B x.1.names.length m, .bool x.1.must, .int .i64 (x.1.most : Int), .slice A x.2.len c] 33)) := (Below.refl _ _).alloc (Nat.le_refl _) _
  have HB := Lib.hid hB
  have tn : (txt n).toList = n := txt_toList n
  have HK := Lib.hid hk
  clear hk hx hB
  go_enter Try.func15, Try.ntmps15
  go_wp2
  go_loop [5] (fun i => ∃ k : Nat, k ≤ x.2.len ∧ i = .int .i64 (k : Int) ∧ Hid (∀ j y, j < k → x.2.get? j = some y → y.1.name ≠ n)) (fun i => x.2.len - (intOf i).toNat)
  case atStart => exact ⟨0, Nat.zero_le _, rfl, Lib.hid (fun j y h => by omega)⟩
  case round =>
    obtain ⟨k, hk, rfl, HL⟩ := hrel
    by_cases hlt : k < x.2.len
    · obtain ⟨a, q, hg⟩ := Fr.get_some hlt
      obtain ⟨b, o, c', cs', e, -, hSb, hN, hcl⟩ := HK.out.at hg
      injection e with e1 e2 e3
      subst e1 e3
      obtain ⟨B', m', A', c'', d', rfl, -, -, -⟩ := SpN.shape (x := (a, q)) hN
      have i1 : (0 : Int) ≤ (k : Int) := by omega
      have i2 : (k : Int) < (x.2.len : Int) := by omega
      have q0 : (w.alloc (.cells #[.string (txt x.1.name), .int .i64 (x.1.kind : Int), .int .i64 (x.1.typ : Int), .int .u64 (x.1.low : Int), .int .u64 (x.1.high : Int), .slice B x.1.names.length m, .bool x.1.must, .int .i64 (x.1.most : Int), .slice (some ⟨b, o, none⟩) x.2.len c] 33)).cell? ⟨b, o + k * 9, none⟩ = some (.string (txt a.name)) := (HB.out.cell (p := ⟨b, o + k * 9, none⟩) (hS b hSb)).trans (hcl 0 _ rfl)
      have ta : (txt a.name).toList = a.name := txt_toList _
      have HG := Lib.hid hg
      clear hcl hN hg e2 hSb
      by_cases hn : a.name = n
      · have h1 : (a.name == n) = true := beq_iff_eq.2 hn
        have HF : Hid (findI n x.2 = (k : Int)) := Lib.hid (by unfold findI; rw [find_is HG.out hn HL.out])
        clear hn
        go_wp2
        go_ret
        exact ⟨by rw [HF.out]; rfl, HB.out⟩
      · have h1 : (a.name == n) = false := beq_eq_false_iff_ne.2 hn
        have HL2 : Hid (∀ j y, j < k + 1 → x.2.get? j = some y → y.1.name ≠ n) := Lib.hid (fun j y hj hy => by
          by_cases e : j = k
          · subst e; rw [HG.out] at hy; injection hy with hy; subst hy; exact hn
          · exact HL.out j y (by omega) hy)
        clear hn
        go_wp2
        go_round
        case rel => exact ⟨k + 1, by omega, by go_num, HL2⟩
        case measure => simp [intOf]; omega
    · have HF : Hid (findI n x.2 = -1) := Lib.hid (by unfold findI; rw [find_no (fun j y hy => HL.out j y (by have := Fr.get_lt hy; omega) hy)])
      have i2 : ¬ (k : Int) < (x.2.len : Int) := by omega
      go_wp2
      go_ret
      exact ⟨by rw [HF.out]; rfl, HB.out⟩

set_option maxRecDepth 100000 in
set_option maxHeartbeats 1000000 in
theorem rtag_any (i : Int) (S N : Nat → Prop) (cs : List Value) (x : Sp) (w : World) (h0 : -9223372036854775808 ≤ i) (h1 : i ≤ 9223372036854775807) (hx : SpN w S N cs x) (hS : ∀ g, S g → g < w.heap.size) (hl : x.2.len ≤ 1000000) :
    Calls Try.prog 19 #[.agg cs.toArray, .int .i64 i] w (AnsP (.int .u64 (tagX x.2 i : Int)) w) := by
  obtain ⟨B, m, A, c, d, rfl, -, -, hk⟩ := hx.shape
  have hB : Below w.heap.size w (w.alloc (.cells #[.string (txt x.1.name), .int .i64 (x.1.kind : Int), .int .i64 (x.1.typ : Int), .int .u64 (x.1.low : Int), .int .u64 (x.1.high : Int), .slice B x.1.names.length m, .bool x.1.must, .int .i64 (x.1.most : Int), .slice A x.2.len c] 33)) := (Below.refl _ _).alloc (Nat.le_refl _) _
  have HB := Lib.hid hB
  have HK := Lib.hid hk
  clear hk hx hB
  by_cases hneg : i < 0
  · have HV : Hid (((tagX x.2 i : Nat) : Int) = 0) := Lib.hid (by rw [tag_low _ hneg]; rfl)
    go_enter Try.func19, Try.ntmps19
    go_wp2
    go_ret
    exact ⟨by rw [HV.out]; rfl, HB.out⟩
  obtain ⟨k, rfl⟩ : ∃ k : Nat, i = (k : Int) := ⟨i.toNat, by omega⟩
  by_cases hlt : k < x.2.len
  · obtain ⟨a, q, hg⟩ := Fr.get_some hlt
    obtain ⟨b, o, c', cs', e, -, hSb, hN, hcl⟩ := HK.out.at hg
    injection e with e1 e2 e3
    subst e1 e3
    obtain ⟨B', m', A', c'', d', rfl, -, -, -⟩ := SpN.shape (x := (a, q)) hN
    have i1 : (0 : Int) ≤ (k : Int) := by omega
    have i2 : (k : Int) < (x.2.len : Int) := by omega
    have i4 : ¬ (x.2.len : Int) ≤ (k : Int) := by omega
    have i3 : (k : Int) ≤ 1000000 := by omega
    have q0 : (w.alloc (.cells #[.string (txt x.1.name), .int .i64 (x.1.kind : Int), .int .i64 (x.1.typ : Int), .int .u64 (x.1.low : Int), .int .u64 (x.1.high : Int), .slice B x.1.names.length m, .bool x.1.must, .int .i64 (x.1.most : Int), .slice (some ⟨b, o, none⟩) x.2.len c] 33)).cell? ⟨b, o + k * 9 + 1, none⟩ = some (.int .i64 (a.kind : Int)) := (HB.out.cell (p := ⟨b, o + k * 9 + 1, none⟩) (hS b hSb)).trans (hcl 1 _ rfl)
    have HT := Lib.hid (tag_in hg)
    clear hcl hN hg e2 hSb
    by_cases hn : a.kind = 1
    · have n1 : ((a.kind : Int) == 1) = true := by rw [hn]; rfl
      have n2 : ((a.kind : Int) != 1) = false := by rw [hn]; rfl
      have HV : Hid (((tagX x.2 (k : Int) : Nat) : Int) = 2 * (k : Int) + 2) := Lib.hid (by rw [HT.out, if_pos hn]; omega)
      clear hn HT
      go_enter Try.func19, Try.ntmps19
      go_wp2
      go_ret
      exact ⟨by rw [HV.out]; rfl, HB.out⟩
    · have n1 : ((a.kind : Int) == 1) = false := beq_eq_false_iff_ne.2 (by omega)
      have n2 : ((a.kind : Int) != 1) = true := by unfold bne; rw [n1]; rfl
      have HV : Hid (((tagX x.2 (k : Int) : Nat) : Int) = 2 * (k : Int) + 2 + 1) := Lib.hid (by rw [HT.out, if_neg hn]; omega)
      clear hn HT
      go_enter Try.func19, Try.ntmps19
      go_wp2
      go_ret
      exact ⟨by rw [HV.out]; rfl, HB.out⟩
  · have HV : Hid (((tagX x.2 (k : Int) : Nat) : Int) = 0) := Lib.hid (by rw [tag_high _ (by omega)]; rfl)
    have i4 : (x.2.len : Int) ≤ (k : Int) := by omega
    clear hlt
    go_enter Try.func19, Try.ntmps19
    go_wp2
    go_ret
    exact ⟨by rw [HV.out]; rfl, HB.out⟩

/-- As far as tags were looked at. -/
theorem kid_is {t : Nat} : ∀ {f : SpF} {i m : Nat} {x : Sp}, f.get? m = some x → 2 * (i + m) + 2 + (if x.1.kind = 1 then 0 else 1) = t → (∀ j y, j < m → f.get? j = some y → 2 * (i + j) + 2 + (if y.1.kind = 1 then 0 else 1) ≠ t) → kidF t f i = some (i + m) := by
  intro f
  induction f with
  | nil => intro i m x h; cases h
  | cons a k r _ ih =>
    intro i m x h1 h2 h3
    unfold kidF
    cases m with
    | zero => injection h1 with h1; subst h1; simp only [Nat.add_zero] at h2 ⊢; rw [if_pos h2]
    | succ m =>
      have h30 := h3 0 (a, k) (by omega) rfl
      simp only [Nat.add_zero] at h30
      rw [if_neg h30, ih (i := i + 1) h1 (by rw [← h2]; omega) (fun j y hj hy => by
        have := h3 (j + 1) y (by omega) hy
        rwa [show i + (j + 1) = i + 1 + j by omega] at this)]
      congr 1
      omega
theorem kid_no {t : Nat} : ∀ {f : SpF} {i : Nat}, (∀ j y, f.get? j = some y → 2 * (i + j) + 2 + (if y.1.kind = 1 then 0 else 1) ≠ t) → kidF t f i = none := by
  intro f i h
  cases hk : kidF t f i with
  | none => rfl
  | some m =>
    obtain ⟨x, h1, h2, h3⟩ := kid_some hk
    have := h (m - i) x h2
    rw [show i + (m - i) = m by omega] at this
    exact absurd h3 this
set_option maxRecDepth 100000 in
set_option maxHeartbeats 1000000 in
theorem rkid_any (t : Nat) (S N : Nat → Prop) (cs : List Value) (x : Sp) (w : World) (hx : SpN w S N cs x) (hS : ∀ g, S g → g < w.heap.size) (hN : ∀ g, N g → g < w.heap.size) (hl : x.2.len ≤ 1000000) :
    Calls Try.prog 17 #[.agg cs.toArray, .int .u64 (t : Int)] w (AnsP (.int .i64 (kidX x.2 t)) w) := by
  obtain ⟨B, m, A, c, d, rfl, -, -, -⟩ := hx.shape
  have hB : Below w.heap.size w (w.alloc (.cells #[.string (txt x.1.name), .int .i64 (x.1.kind : Int), .int .i64 (x.1.typ : Int), .int .u64 (x.1.low : Int), .int .u64 (x.1.high : Int), .slice B x.1.names.length m, .bool x.1.must, .int .i64 (x.1.most : Int), .slice A x.2.len c] 33)) := (Below.refl _ _).alloc (Nat.le_refl _) _
  have HB := Lib.hid hB
  have hc : ∀ wr, Below w.heap.size w wr → SpN wr S N [.string (txt x.1.name), .int .i64 (x.1.kind : Int), .int .i64 (x.1.typ : Int), .int .u64 (x.1.low : Int), .int .u64 (x.1.high : Int), .slice B x.1.names.length m, .bool x.1.must, .int .i64 (x.1.most : Int), .slice A x.2.len c] x := fun wr hb => hx.kept stay_spc (fun g hg => hb.block g (hS g hg)) (fun _ h => h) (fun g hg => hb.block g (hN g hg)) (fun _ h => h)
  have HX := Lib.hid hc
  clear hx hB hc
  go_enter Try.func17, Try.ntmps17
  go_wp2
  have HK0 := Lib.hid (Blk.new w 33 #[.string (txt x.1.name), .int .i64 (x.1.kind : Int), .int .i64 (x.1.typ : Int), .int .u64 (x.1.low : Int), .int .u64 (x.1.high : Int), .slice B x.1.names.length m, .bool x.1.must, .int .i64 (x.1.most : Int), .slice A x.2.len c])
  have HE : Hid (∃ w0, w0 = (w.alloc (.cells #[.string (txt x.1.name), .int .i64 (x.1.kind : Int), .int .i64 (x.1.typ : Int), .int .u64 (x.1.low : Int), .int .u64 (x.1.high : Int), .slice B x.1.names.length m, .bool x.1.must, .int .i64 (x.1.most : Int), .slice A x.2.len c] 33))) := Lib.hid ⟨_, rfl⟩
  obtain ⟨w0, hw0⟩ := HE.out
  rw [← hw0] at HB HK0 ⊢
  clear hw0 HE
  go_loopw [5] (fun i wr => ∃ k : Nat, k ≤ x.2.len ∧ i = .int .i64 (k : Int) ∧ Hid (∀ j y, j < k → x.2.get? j = some y → 2 * (0 + j) + 2 + (if y.1.kind = 1 then 0 else 1) ≠ t) ∧ Below w.heap.size w wr ∧ Blk wr w.heap.size 33 #[.string (txt x.1.name), .int .i64 (x.1.kind : Int), .int .i64 (x.1.typ : Int), .int .u64 (x.1.low : Int), .int .u64 (x.1.high : Int), .slice B x.1.names.length m, .bool x.1.must, .int .i64 (x.1.most : Int), .slice A x.2.len c]) (fun i _ => x.2.len - (intOf i).toNat)
  case atStart => exact ⟨0, Nat.zero_le _, rfl, Lib.hid (fun j y h => by omega), HB.out, HK0.out⟩
  case round =>
    obtain ⟨k, hk, rfl, HL, hB, hblk⟩ := hrel
    have HB1 := Lib.hid hB
    have HK1 := Lib.hid hblk
    have c8 : wr.cell? ⟨w.heap.size, 8, none⟩ = some (.slice A x.2.len c) := (hblk.cell 8).trans rfl
    by_cases hlt : k < x.2.len
    · have i2 : (k : Int) < (x.2.len : Int) := by omega
      obtain ⟨a, q, hg⟩ := Fr.get_some hlt
      have HT := Lib.hid (tag_in hg)
      have HG := Lib.hid hg
      have HC := Lib.hid (rtag_any (k : Int) S N _ x wr (by omega) (by omega) (HX.out wr hB) (fun g hg => Nat.lt_of_lt_of_le (hS g hg) hB.size) hl)
      have k0 := (hblk.cell 0).trans rfl
      have k1 := (hblk.cell 1).trans rfl
      have k2 := (hblk.cell 2).trans rfl
      have k3 := (hblk.cell 3).trans rfl
      have k4 := (hblk.cell 4).trans rfl
      have k5 := (hblk.cell 5).trans rfl
      have k6 := (hblk.cell 6).trans rfl
      have k7 := (hblk.cell 7).trans rfl
      clear hB hg hblk
      go_wp2_with fail
      refine HC.out.mono ?_
      rintro r w2 ⟨rfl, hB2⟩
      have HB2 := Lib.hid (HB1.out.trans (hB2.mono HB1.out.size))
      have HK2 := Lib.hid (HK1.out.below hB2 HK1.out.lt)
      clear hB2 HC c8 k0 k1 k2 k3 k4 k5 k6 k7
      obtain ⟨T, hT⟩ : ∃ T, T = tagX x.2 (k : Int) := ⟨_, rfl⟩
      rw [← hT] at HT ⊢
      clear hT
      by_cases e : T = t
      · have HF : Hid (kidX x.2 t = (k : Int)) := Lib.hid (by unfold kidX; rw [kid_is HG.out (by rw [Nat.zero_add, ← HT.out, e]) HL.out, Nat.zero_add])
        have e1 : ((T : Int) == (t : Int)) = true := beq_iff_eq.2 (by rw [e])
        clear e
        go_wp2
        go_ret
        exact ⟨by rw [HF.out]; rfl, HB2.out⟩
      · have e1 : ((T : Int) == (t : Int)) = false := beq_eq_false_iff_ne.2 (by omega)
        have HL2 : Hid (∀ j y, j < k + 1 → x.2.get? j = some y → 2 * (0 + j) + 2 + (if y.1.kind = 1 then 0 else 1) ≠ t) := Lib.hid (fun j y hj hy => by
          by_cases ej : j = k
          · subst ej
            rw [HG.out] at hy
            injection hy with hy
            subst hy
            rw [Nat.zero_add, ← HT.out]
            exact e
          · exact HL.out j y (by omega) hy)
        have HQ := Lib.hid (And.intro HB2.out HK2.out)
        clear e HL
        go_wp2
        go_roundw
        case rel => exact ⟨k + 1, by omega, by go_num, HL2, HQ.out.1, HQ.out.2⟩
        case measure => simp [intOf]; omega
    · have HF : Hid (kidX x.2 t = -1) := Lib.hid (by unfold kidX; rw [kid_no (fun j y hy => HL.out j y (by have := Fr.get_lt hy; omega) hy)])
      have i2 : ¬ (k : Int) < (x.2.len : Int) := by omega
      clear hB hblk
      go_wp2
      go_ret
      exact ⟨by rw [HF.out]; rfl, HB1.out⟩

end Go.Proofs.Ytkpbjgjflabloaa
