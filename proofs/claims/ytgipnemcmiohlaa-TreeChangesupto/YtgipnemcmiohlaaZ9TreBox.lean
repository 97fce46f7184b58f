/- What the laws of package tree want of TreNum. -/
import Derived.Test.YtgipnemcmiohlaaZ0Law09J
import Derived.Test.YtgipnemcmiohlaaZ1Law09C
import Derived.Test.YtgipnemcmiohlaaZ2TreWithR
import Derived.Test.YtgipnemcmiohlaaZ4TreNum
import Derived.Laws.ResultCell
namespace Go.Proofs.Ytgipnemcmiohlaa
open Go.RowKit
set_option linter.unusedSimpArgs false
set_option linter.unusedVariables false
/-- How a walk over a row finds it. -/
theorem find_lt {s : Stp} : ∀ {f : NdF} {i : Nat}, (∀ j, j < i → ∀ y, f.get? j = some y → stp y.1 ≠ s) → (∃ y, f.get? i = some y ∧ stp y.1 = s) → findN s f = some i := by
  intro f
  induction f with
  | nil => intro i _ ⟨y, h, _⟩; cases h
  | cons a k r _ ih =>
    intro i h1 ⟨y, h2, h3⟩
    cases i with
    | zero =>
      injection h2 with h2
      subst h2
      simp [findN, h3]
    | succ i =>
      have h4 := h1 0 (by omega) (a, k) rfl
      have h5 := ih (i := i) (fun j hj y hy => h1 (j + 1) (by omega) y hy) ⟨y, h2, h3⟩
      simp only [findN]
      rw [if_neg h4, h5]
      rfl
theorem find_out {s : Stp} : ∀ {f : NdF}, (∀ j, j < f.len → ∀ y, f.get? j = some y → stp y.1 ≠ s) → findN s f = none := by
  intro f
  induction f with
  | nil => intro _; rfl
  | cons a k r _ ih =>
    intro h
    simp only [findN]
    rw [if_neg (h 0 (by simp [Fr.len]) (a, k) rfl), ih (fun j hj y hy => h (j + 1) (by simp only [Fr.len]; omega) y hy)]
    rfl
end Go.Proofs.Ytgipnemcmiohlaa


namespace Go.Proofs.Ytgipnemcmiohlaa
open Go.RowKit
set_option linter.unusedSimpArgs false
set_option linter.unusedVariables false
theorem WayV.tail {b : Nat} {w : World} {g o n c : Nat} {s : Stp} {l : List Stp} (h : WayV b w (.slice (some ⟨g, o, none⟩) n c) (s :: l)) : WayV b w (.slice (some ⟨g, o + 2, none⟩) l.length (c - 1)) l := by
  obtain ⟨A', c', e, h1, h2⟩ := h
  injection e with e1 e2 e3
  subst e2 e3
  obtain ⟨g', o', e4, h3, h4⟩ := h2 (by simp)
  rw [← e1] at e4
  injection e4 with e4
  injection e4 with e5 e6 e7
  subst e5 e6
  simp only [List.length_cons] at h1
  refine ⟨_, _, rfl, by omega, fun _ => ⟨g, o + 2, rfl, h3, fun j u hu => ?_⟩⟩
  have h5 := h4 (j + 1) u (by simpa using hu)
  rw [show o + (j + 1) * 2 = o + 2 + j * 2 by omega] at h5
  exact h5
end Go.Proofs.Ytgipnemcmiohlaa


namespace Go.Proofs.Ytgipnemcmiohlaa
open Go.RowKit
set_option linter.unusedSimpArgs false
set_option linter.unusedVariables false
set_option maxRecDepth 100000 in
set_option maxHeartbeats 1000000 in
theorem rfindn_any (s : Stp) (x : Nd) (cs : List Value) (w : World) (hx : LieN w cs x) (hl : x.2.len ≤ 1000000) :
    Calls Try.prog 35 #[.agg cs.toArray, .agg #[.string (txt s.1), .string (txt s.2)]] w (Ans9 (.int .i64 (findIx s x.2)) w) := by
  obtain ⟨A, c, rfl, hk⟩ := hx.shape
  obtain ⟨a, f⟩ := x
  have hB : Below w.heap.size w ((w.alloc (.cells #[.string (txt a.name), .string (txt a.key), .int .i64 a.kind, .int .u64 (a.num : Int), .string (txt a.text), .slice A f.len c] 27)).alloc (.cells #[.string (txt s.1), .string (txt s.2)] 43)) := ((Below.refl _ _).alloc (Nat.le_refl _) _).alloc (by simp) _
  have HB := Lib.hid hB
  have tn : (txt s.1).toList = s.1 := txt_toList _
  have tk : (txt s.2).toList = s.2 := txt_toList _
  have HK : Hid (RowT w.heap.size w (.slice A f.len c) f) := Lib.hid hk
  have HLL : Hid (f.len ≤ 1000000) := Lib.hid hl
  clear hk hx hB hl
  go_enter Try.func35, Try.ntmps35
  go_wp2
  go_loopw [5] (fun i wr => ∃ k : Nat, k ≤ f.len ∧ i = .int .i64 (k : Int) ∧ Hid (∀ j, j < k → ∀ y, f.get? j = some y → stp y.1 ≠ s) ∧ Blk wr w.heap.size 27 #[.string (txt a.name), .string (txt a.key), .int .i64 a.kind, .int .u64 (a.num : Int), .string (txt a.text), .slice A f.len c] ∧ Blk wr (w.heap.size + 1) 43 #[.string (txt s.1), .string (txt s.2)] ∧ Below w.heap.size w wr) (fun i _ => f.len - (intOf i).toNat)
  case atStart =>
    have hb2 : Blk ((w.alloc (.cells #[.string (txt a.name), .string (txt a.key), .int .i64 a.kind, .int .u64 (a.num : Int), .string (txt a.text), .slice A f.len c] 27)).alloc (.cells #[.string (txt s.1), .string (txt s.2)] 43)) (w.heap.size + 1) 43 #[.string (txt s.1), .string (txt s.2)] := by
      have h := Blk.new (w.alloc (.cells #[.string (txt a.name), .string (txt a.key), .int .i64 a.kind, .int .u64 (a.num : Int), .string (txt a.text), .slice A f.len c] 27)) 43 #[.string (txt s.1), .string (txt s.2)]
      rw [show (w.alloc (.cells #[.string (txt a.name), .string (txt a.key), .int .i64 a.kind, .int .u64 (a.num : Int), .string (txt a.text), .slice A f.len c] 27)).heap.size = w.heap.size + 1 by simp] at h
      exact h
    exact ⟨0, Nat.zero_le _, rfl, Lib.hid (fun j h => by omega), (Blk.new w _ _).alloc _, hb2, HB.out⟩
  case round =>
    obtain ⟨k, hk, rfl, HL, hP, hQ, hB⟩ := hrel
    have p5 : wr.cell? ⟨w.heap.size, 5, none⟩ = some (.slice A f.len c) := (hP.cell 5).trans rfl
    have HBr := Lib.hid hB
    have HP := Lib.hid hP
    have HQ := Lib.hid hQ
    by_cases hlt : k < f.len
    · obtain ⟨a1, q, hg⟩ := Fr.get_some hlt
      obtain ⟨b, o, A', c', rfl, -, -, hbl, -, hcl⟩ := HK.out.at hg
      have i1 : (0 : Int) ≤ (k : Int) := by omega
      have i2 : (k : Int) < (f.len : Int) := by omega
      have i3 : (f.len : Int) ≤ 1000000 := by have := HLL.out; omega
      have q0 : wr.cell? ⟨b, o + k * 6, none⟩ = some (.string (txt a1.name)) := (hB.cell (p := ⟨b, o + k * 6, none⟩) hbl).trans (hcl 0 _ rfl)
      have q1 : wr.cell? ⟨b, o + k * 6 + 1, none⟩ = some (.string (txt a1.key)) := (hB.cell (p := ⟨b, o + k * 6 + 1, none⟩) hbl).trans (hcl 1 _ rfl)
      have r0 : wr.cell? ⟨w.heap.size + 1, 0, none⟩ = some (.string (txt s.1)) := (hQ.cell 0).trans rfl
      have r1 : wr.cell? ⟨w.heap.size + 1, 1, none⟩ = some (.string (txt s.2)) := (hQ.cell 1).trans rfl
      have ta : (txt a1.name).toList = a1.name := txt_toList _
      have tb : (txt a1.key).toList = a1.key := txt_toList _
      have HG := Lib.hid hg
      clear hcl hg hP hQ hB hbl
      by_cases hn : a1.name = s.1
      · have h1 : (a1.name == s.1) = true := beq_iff_eq.2 hn
        by_cases hk2 : a1.key = s.2
        · have h2 : (a1.key == s.2) = true := beq_iff_eq.2 hk2
          have HF : Hid (findIx s f = (k : Int)) := Lib.hid (by unfold findIx; rw [find_lt HL.out ⟨_, HG.out, Prod.ext hn hk2⟩])
          clear hn hk2
          go_wp2_with fail
          go_region
          all_goals go_wp2
          all_goals go_ret
          all_goals exact ⟨by rw [HF.out]; rfl, HBr.out.drew⟩
        · have h2 : (a1.key == s.2) = false := beq_eq_false_iff_ne.2 hk2
          have HL2 : Hid (∀ j, j < k + 1 → ∀ y, f.get? j = some y → stp y.1 ≠ s) := Lib.hid (fun j hj y hy => by
            by_cases e : j = k
            · subst e; rw [HG.out] at hy; injection hy with hy; subst hy; exact fun e => hk2 (congrArg Prod.snd e)
            · exact HL.out j (by omega) y hy)
          clear hn hk2
          go_wp2_with fail
          go_region
          all_goals go_wp2
          all_goals go_roundw
          all_goals first | exact ⟨k + 1, by omega, by go_num, HL2, HP.out.below (Below.refl _ _).drew HP.out.lt, HQ.out.below (Below.refl _ _).drew HQ.out.lt, HBr.out.drew⟩ | (simp [intOf]; omega)
      · have h1 : (a1.name == s.1) = false := beq_eq_false_iff_ne.2 hn
        have HL2 : Hid (∀ j, j < k + 1 → ∀ y, f.get? j = some y → stp y.1 ≠ s) := Lib.hid (fun j hj y hy => by
          by_cases e : j = k
          · subst e; rw [HG.out] at hy; injection hy with hy; subst hy; exact fun e => hn (congrArg Prod.fst e)
          · exact HL.out j (by omega) y hy)
        clear hn
        go_wp2_with fail
        go_region
        all_goals go_wp2
        all_goals go_roundw
        all_goals first | exact ⟨k + 1, by omega, by go_num, HL2, HP.out.below (Below.refl _ _).drew HP.out.lt, HQ.out.below (Below.refl _ _).drew HQ.out.lt, HBr.out.drew⟩ | (simp [intOf]; omega)
    · have HF : Hid (findIx s f = -1) := Lib.hid (by unfold findIx; rw [find_out (fun j hj y hy => HL.out j (by omega) y hy)])
      have i2 : ¬ (k : Int) < (f.len : Int) := by omega
      clear hP hQ hB
      go_wp2
      go_ret
      exact ⟨by rw [HF.out]; rfl, HBr.out⟩
end Go.Proofs.Ytgipnemcmiohlaa


namespace Go.Proofs.Ytgipnemcmiohlaa
open Go.RowKit
set_option linter.unusedSimpArgs false
set_option linter.unusedVariables false
theorem LieP.after {b B B' : Nat} {w : World} {cs : List Value} {x : Nd} (h : LieP b B w cs x) (hB : B' ≤ B) : LieP b B' w cs x :=
  h.keep (fun _ _ => rfl) (fun k hk => by rcases hk with h | h; exact .inl h; exact .inr ⟨by omega, h.2⟩)
theorem GetX_none {x : Nd} {s : Stp} {l : List Stp} (h : findN s x.2 = none) : GetX x (s :: l) = (noN, false) := by
  unfold GetX; simp only [getX]; rw [findN_none h]
theorem GetX_some {x y : Nd} {s : Stp} {l : List Stp} {i : Nat} (h : findN s x.2 = some i) (hy : x.2.get? i = some y) : GetX x (s :: l) = GetX y l := by
  unfold GetX; simp only [getX]
  obtain ⟨z, h1, h2, h3⟩ := find_stp h
  rw [hy] at h1
  injection h1 with h1
  rw [h3, ← h1]
end Go.Proofs.Ytgipnemcmiohlaa

