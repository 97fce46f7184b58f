/-
  What the document's answers for layer 1 compute, the rest: Value of at most eight bytes, Num and Sub. No condition but those of each theorem.
-/
import Derived.Test.YtkajlicppdfegaaOctRef
namespace Go.Proofs.Ytkajlicppdfegaa
open Go.RowKit

/-- How many bytes a text has. -/
def lenOf' : Value → Nat | .string b => b.size | _ => 0

theorem txt_get (l : List UInt8) (k : Nat) (h : k < l.length) (h' : k < (txt l).size) : (txt l)[k]'h' = l[k]'h := by
  show (txt l).data[k]'h' = l[k]
  simp [txt]
  rfl
theorem valB_zero_cons {b : UInt8} (l : List UInt8) (h : b.toNat = 0) : valB (b :: l) = valB l := by rw [valB_cons, h]; omega

theorem rvalue_any (s : List UInt8) (w : World) (h8 : s.length ≤ 8) :
    Calls Try.prog 25 #[.string (txt s)] w fun r w' => r = .returned (.tuple #[.int .u64 (valB s : Int), .bool true]) ∧ w = w' := by
  go_enter Try.func25, Try.ntmps25
  go_wp2
  go_loop [0] (fun v => ∃ t : List UInt8, v = .string (txt t) ∧ t.length ≤ 8 ∧ Hid (valB t = valB s)) (fun v => lenOf' v)
  case atStart => exact ⟨s, rfl, h8, Lib.hid rfl⟩
  case round =>
    obtain ⟨t, rfl, ht8, HT⟩ := hrel
    have hsz := txt_size t
    have hways : (∃ b t', t = b :: t' ∧ b.toNat = 0) ∨ (∃ (h : 0 < (txt t).size), (!(txt t).toList.isEmpty) = true ∧ ((((txt t)[0]'h).toNat : Int) == 0) = false) ∨ (!(txt t).toList.isEmpty) = false := by
      cases t with
      | nil => exact .inr (.inr txt_none)
      | cons b t' =>
        by_cases hb : b.toNat = 0
        · exact .inl ⟨b, t', rfl, hb⟩
        · have h : 0 < (txt (b :: t')).size := by rw [txt_size]; simp
          refine .inr (.inl ⟨h, txt_some (by simp), ?_⟩)
          rw [txt_get (b :: t') 0 (by simp) h]
          show ((b.toNat : Int) == 0) = false
          simpa using hb
    rcases hways with ⟨b, t', rfl, hb⟩ | ⟨hlt, hne, hnz⟩ | hne
    · have hne := txt_some (l := b :: t') (by simp)
      have hlt : 0 < (txt (b :: t')).size := by rw [txt_size]; simp
      have hz : ((((txt (b :: t'))[0]'hlt).toNat : Int) == 0) = true := by
        rw [txt_get (b :: t') 0 (by simp) hlt]
        show ((b.toNat : Int) == 0) = true
        simpa using hb
      have hv := valB_zero_cons t' hb
      have HV := Lib.hid hv
      have hx := txt_extract (b :: t') 1 (b :: t').length
      have hx2 : ((b :: t').take (b :: t').length).drop 1 = t' := by rw [List.take_of_length_le (Nat.le_refl _)]; rfl
      rw [hx2] at hx
      have HX := Lib.hid hx
      clear hv hx hx2 hb
      go_wp2
      refine ⟨⟨t', ?_, ?_, ?_⟩, ?_⟩
      · show Value.string ((txt (b :: t')).extract 1 (b :: t').length) = _
        rw [HX.out]
      · have := ht8; rw [List.length_cons] at this; omega
      · exact Lib.hid (HV.out.symm.trans HT.out)
      · show ((txt (b :: t')).extract 1 (b :: t').length).size < (txt (b :: t')).size
        rw [HX.out, txt_size, txt_size]; simp
    all_goals
      go_wp2
      try clear hlt
      clear hne
      go_loop [4, 5] (fun x i => ∃ k : Nat, k ≤ t.length ∧ i = .int .i64 (k : Int) ∧ x = .int .u64 (valB (t.take k) : Int)) (fun _ i => t.length - (intOf i).toNat)
      case atStart => exact ⟨0, Nat.zero_le _, rfl, rfl⟩
      case round =>
        obtain ⟨k, hk, rfl, rfl⟩ := hrel
        by_cases hlk : k < t.length
        · have hin : k < (txt t).size := by rw [txt_size]; exact hlk
          have hix := txt_get t k hlk hin
          have hle := pow_val (l := t.take (k + 1)) (by rw [List.length_take]; omega)
          obtain ⟨X, hX⟩ : ∃ X, X = valB (t.take k) := ⟨_, rfl⟩
          obtain ⟨c, hc, hfin⟩ : ∃ c, c = (t[k]'hlk).toNat ∧ valB (t.take (k + 1)) = 256 * X + c := ⟨_, rfl, by rw [valB_take_snoc t k hlk, ← hX]; omega⟩
          have hc256 : c < 256 := by rw [hc]; exact byte_lt _
          have hXc : 256 * X + c < 18446744073709551616 := by rw [← hfin]; exact hle
          have HF := Lib.hid hfin
          have hix' : (((txt t)[k]'hin).toNat : Int) = (c : Int) := by rw [hix, ← hc]
          rw [← hX]
          clear hX hc hle hfin hix
          go_wp2
          go_round
          case rel => exact ⟨k + 1, by omega, by go_num, by rw [HF.out]; go_num⟩
          case measure => simp [intOf]; omega
        · go_wp2
          go_ret2
          exact ⟨by rw [List.take_of_length_le (by omega), HT.out]; rfl, rfl⟩

def RNumPost (g : Nat) (s : List UInt8) (e n : Int) (w : World) (r : Ending) (w' : World) : Prop :=
  r = .returned (.int .u64 ((nm s e n).1 : Int)) ∧ RW w' g (nm s e n).2.1 (nm s e n).2.2 ∧ w.grownBy w' (some g) ∧ Sz w' w.heap.size

theorem rnum_any (g : Nat) (s : List UInt8) (e n : Int) (w : World) (h : RW w g s e) :
    Calls Try.prog 10 #[.pointer (some ⟨g, 0, none⟩), .int .i64 n] w (RNumPost g s e n w) := by
  have h1 := h.cell1
  have f1 : w.frozen? ⟨g, 1, none⟩ = false := Blk.frozen h 1
  by_cases he : e = 0
  · subst he
    by_cases hf : 1 ≤ n ∧ n ≤ 8
    · have hl := nx_len s 0 n
      have hnm : nm s 0 n = (valB (nx s 0 n).1, (nx s 0 n).2.1, (nx s 0 n).2.2) := by simp [nm, hf]
      have h8 : (nx s 0 n).1.length ≤ 8 := by omega
      have HN := Lib.hid hnm
      have H8 := Lib.hid h8
      obtain ⟨f2, f3⟩ := hf
      clear hnm hl h8
      go_enter Try.func10, Try.ntmps10
      go_wp2_with fail
      refine (rbytes_any g s 0 n _ h).mono ?_
      rintro r w1 ⟨rfl, hw1, hg1, hs1⟩
      go_wp2_with fail
      refine (rvalue_any _ _ H8.out).mono ?_
      rintro r w2 ⟨rfl, rfl⟩
      go_wp2
      go_ret
      exact ⟨by rw [HN.out]; rfl, by rw [HN.out]; exact hw1, hg1, hs1⟩
    · have Hp : RNumPost g s 0 n w (.returned (.int .u64 0)) (w.setCell ⟨g, 1, none⟩ (.int .i64 1)) := by
        have hnm : nm s 0 n = (0, s, 1) := by simp [nm]; omega
        refine ⟨?_, ?_, grown_set _, by simp [Sz, World.setCell]⟩
        · rw [hnm]; rfl
        · rw [hnm]; exact Blk.set_ h 1 _
      have HP := Lib.hid Hp
      clear Hp
      by_cases hn1 : n < 1
      · clear hf
        go_enter Try.func10, Try.ntmps10
        go_wp2
        go_ret
        exact HP.out
      · have hn8 : 8 < n := by omega
        have hn1' : decide (n < 1) = false := decide_eq_false hn1
        clear hf
        go_enter Try.func10, Try.ntmps10
        go_wp2
        go_ret
        exact HP.out
  · have hb : (e == 0) = false := by simpa using he
    have hb2 : (e != 0) = true := by simpa using he
    have Hp : RNumPost g s e n w (.returned (.int .u64 0)) w := by
      have hx : nx s e n = ([], s, e) := nx_err he
      have hnm : nm s e n = (0, s, e) := by simp [nm, he, hx, valB]
      refine ⟨?_, ?_, World.grownBy.refl w _, rfl⟩
      · rw [hnm]; rfl
      · rw [hnm]; exact h
    have HP := Lib.hid Hp
    clear Hp
    go_enter Try.func10, Try.ntmps10
    go_wp2
    go_ret
    exact HP.out

def RSubPost (g : Nat) (s : List UInt8) (e n : Int) (w : World) (r : Ending) (w' : World) : Prop :=
  r = .returned (.pointer (some ⟨w.heap.size, 0, none⟩)) ∧ RW w' w.heap.size (nx s e n).1 (nx s e n).2.2 ∧ RW w' g (nx s e n).2.1 (nx s e n).2.2 ∧ w.grownBy w' (some g) ∧ Sz w' (w.heap.size + 1)

theorem rsub_any (g : Nat) (s : List UInt8) (e n : Int) (w : World) (h : RW w g s e) :
    Calls Try.prog 15 #[.pointer (some ⟨g, 0, none⟩), .int .i64 n] w (RSubPost g s e n w) := by
  go_enter Try.func15, Try.ntmps15
  go_wp2_with fail
  refine (rbytes_any g s e n _ h).mono ?_
  rintro r w1 ⟨rfl, hw1, hg1, hs1⟩
  have hc1 := hw1.cell1
  go_wp2
  go_ret
  have e1 : w1.heap.size = w.heap.size := hs1
  refine ⟨by rw [← e1]; rfl, by rw [← e1]; exact Blk.new _ _ _, Blk.alloc hw1 _, ?_, by simp [Sz, e1]⟩
  exact grown_below hg1 ((Below.refl _ _).alloc (Nat.le_refl _) _)

end Go.Proofs.Ytkajlicppdfegaa
