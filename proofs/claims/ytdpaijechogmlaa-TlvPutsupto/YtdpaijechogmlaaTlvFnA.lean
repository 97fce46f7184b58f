/-
  What package tlv's nests and pure answer. No condition but those of each theorem.
-/
import Derived.Test.YtdpaijechogmlaaTlvMem
import Derived.Test.YtdpaijechogmlaaOctH
import Derived.Outline
namespace Go.Proofs.Ytdpaijechogmlaa
open Go.RowKit
set_option linter.unusedSimpArgs false

def BoolB (b : Bool) (w : World) (r : Ending) (w' : World) : Prop := r = .returned (.bool b) ∧ Below w.heap.size w w'

theorem nests_yes (t : Nat) (dv kv : Value) (w : World) (h : t % 2 = 1) : Calls Try.prog 21 #[.agg #[.int .u64 (t : Int), dv, kv]] w (BoolB true w) := by
  have hb : ((t : Int) % 2 == 1) = true := by
    have h : (t : Int) % 2 = 1 := by omega
    rw [h]; rfl
  clear h
  go_enter Try.func21, Try.ntmps21
  go_wp2
  go_ret
  exact ⟨rfl, (Below.refl _ _).alloc (Nat.le_refl _) _⟩

theorem nests_no (t : Nat) (dv kv : Value) (w : World) (h : ¬ t % 2 = 1) : Calls Try.prog 21 #[.agg #[.int .u64 (t : Int), dv, kv]] w (BoolB false w) := by
  have hb : ((t : Int) % 2 == 1) = false := by
    have h : (t : Int) % 2 = 0 := by omega
    rw [h]; rfl
  clear h
  go_enter Try.func21, Try.ntmps21
  go_wp2
  go_ret
  exact ⟨rfl, (Below.refl _ _).alloc (Nat.le_refl _) _⟩

/-- Whether an item of so many bytes and kids has nothing but what its tag says. -/
def pureB (t n m : Nat) : Bool := if t % 2 = 1 then ((n : Int) == 0) else ((m : Int) == 0)

theorem pure_any (t n m : Nat) (A A' : Option Addr) (c c' : Nat) (w : World) :
    Calls Try.prog 24 #[.agg #[.int .u64 (t : Int), .slice A n c, .slice A' m c']] w (BoolB (pureB t n m) w) := by
  unfold pureB
  by_cases h : t % 2 = 1
  · rw [if_pos h]
    have HC := Lib.hid (fun w => nests_yes t (.slice A n c) (.slice A' m c') w h)
    clear h
    go_enter Try.func24, Try.ntmps24
    go_wp2_with fail
    refine (HC.out _).mono ?_
    rintro r w1 ⟨rfl, hb1⟩
    obtain ⟨hc, hf⟩ := (⟨fun b o h => hb1.cell (p := ⟨b, o, none⟩) h, fun b o h => hb1.frozen (p := ⟨b, o, none⟩) h⟩ : (∀ b o, b < (w.alloc (.cells #[.int .u64 (t : Int), .slice A n c, .slice A' m c'] 46)).heap.size → w1.cell? ⟨b, o, none⟩ = (w.alloc (.cells #[.int .u64 (t : Int), .slice A n c, .slice A' m c'] 46)).cell? ⟨b, o, none⟩) ∧ (∀ b o, b < (w.alloc (.cells #[.int .u64 (t : Int), .slice A n c, .slice A' m c'] 46)).heap.size → w1.frozen? ⟨b, o, none⟩ = (w.alloc (.cells #[.int .u64 (t : Int), .slice A n c, .slice A' m c'] 46)).frozen? ⟨b, o, none⟩))
    go_wp2
    go_ret
    exact ⟨rfl, ((Below.refl _ _).alloc (Nat.le_refl _) _).trans (hb1.mono (by simp))⟩
  · rw [if_neg h]
    have HC := Lib.hid (fun w => nests_no t (.slice A n c) (.slice A' m c') w h)
    clear h
    go_enter Try.func24, Try.ntmps24
    go_wp2_with fail
    refine (HC.out _).mono ?_
    rintro r w1 ⟨rfl, hb1⟩
    obtain ⟨hc, hf⟩ := (⟨fun b o h => hb1.cell (p := ⟨b, o, none⟩) h, fun b o h => hb1.frozen (p := ⟨b, o, none⟩) h⟩ : (∀ b o, b < (w.alloc (.cells #[.int .u64 (t : Int), .slice A n c, .slice A' m c'] 46)).heap.size → w1.cell? ⟨b, o, none⟩ = (w.alloc (.cells #[.int .u64 (t : Int), .slice A n c, .slice A' m c'] 46)).cell? ⟨b, o, none⟩) ∧ (∀ b o, b < (w.alloc (.cells #[.int .u64 (t : Int), .slice A n c, .slice A' m c'] 46)).heap.size → w1.frozen? ⟨b, o, none⟩ = (w.alloc (.cells #[.int .u64 (t : Int), .slice A n c, .slice A' m c'] 46)).frozen? ⟨b, o, none⟩))
    go_wp2
    go_ret
    exact ⟨rfl, ((Below.refl _ _).alloc (Nat.le_refl _) _).trans (hb1.mono (by simp))⟩

theorem pureB_eq (t : Nat) (d : List UInt8) (k : Fo) : pureB t d.length k.len = (if t % 2 = 1 then d.isEmpty else k.len == 0) := by
  unfold pureB
  by_cases h : t % 2 = 1
  · rw [if_pos h, if_pos h]
    cases d with
    | nil => rfl
    | cons b l => simp; omega
  · rw [if_neg h, if_neg h]
    rw [Bool.eq_iff_iff]; simp

/-- How many items there are, with their kids. -/
def Fo.cnt : Fo → Nat
  | .nil => 0
  | .cons _ _ k r => 1 + k.cnt + r.cnt
theorem Fo.cnt_app (f g : Fo) : (f.app g).cnt = f.cnt + g.cnt := by
  induction f with
  | nil => simp [Fo.app, Fo.cnt]
  | cons t d k r _ ih => simp only [Fo.app, Fo.cnt, ih]; omega
theorem Fo.cnt_le_wt (f : Fo) : f.cnt ≤ f.wt := by
  induction f with
  | nil => simp [Fo.cnt]
  | cons t d k r ihk ih => simp only [Fo.cnt, Fo.wt]; omega
theorem Fo.len_le_cnt (f : Fo) : f.len ≤ f.cnt := by
  induction f with
  | nil => simp [Fo.len]
  | cons t d k r _ ih => simp only [Fo.len, Fo.cnt]; omega
theorem Fo.cnt_all (f : Fo) : ∀ deep, Fo.right deep f = true → 2 * f.cnt ≤ f.all.length := by
  induction f with
  | nil => intro _ _; simp [Fo.cnt]
  | cons t d k r ihk ihr =>
    intro deep h
    simp only [Fo.right, Bool.and_eq_true, decide_eq_true_eq] at h
    obtain ⟨⟨⟨-, hs⟩, hk⟩, hr⟩ := h
    have h1 := ihk _ hk
    have h2 := ihr _ hr
    have e1 := (encV_length 9 t).1
    have e2 := (encV_length 9 (Fo.inn t d k.all).length).1
    simp only [Fo.cnt, Fo.all, List.length_append]
    by_cases ho : t % 2 = 1
    · have hin : Fo.inn t d k.all = k.all := by unfold Fo.inn; rw [if_pos ho]
      rw [hin] at e2 ⊢
      omega
    · rw [if_neg ho] at hs
      have h0 : k.cnt = 0 := by
        have := Fo.len_zero (by simpa using hs)
        subst this
        rfl
      omega
theorem Fo.cnt_take_le (j : Nat) (f : Fo) : (Fo.take j f).cnt + (Fo.drop j f).cnt = f.cnt := by
  have h := Fo.cnt_app (Fo.take j f) (Fo.drop j f)
  rw [Fo.take_app_drop] at h
  omega

end Go.Proofs.Ytdpaijechogmlaa
