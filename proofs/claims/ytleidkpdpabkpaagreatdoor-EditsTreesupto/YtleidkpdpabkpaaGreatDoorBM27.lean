/- EdvA -/
import Derived.Test.YtleidkpdpabkpaaGreatDoorBM13
set_option linter.unusedSimpArgs false
set_option linter.unusedVariables false
set_option maxRecDepth 100000
set_option maxHeartbeats 8000000
namespace Go.Proofs.YtleidkpdpabkpaaGreatDoor
open Go.RowKit
section
attribute [local go_sem] Oper.semAt_some
def inv18 : List PanicEntry := [{ v := .iface 68 (.agg #[]), recovered := false }]
theorem require_yes (w : World) : Calls Tryz.prog 61 #[.bool true] w (fun r w' => r = .returned (.tuple #[]) ∧ w = w') := by
 go_enter Tryz.func61, Tryz.ntmps61
 go_wp2
 go_end0
 exact ⟨rfl, rfl⟩
theorem require_no (w : World) : Calls Tryz.prog 61 #[.bool false] w (fun r w' => r = .panicked inv18 ∧ w = w') := by
 go_enter Tryz.func61, Tryz.ntmps61
 go_wp2
 exact ⟨rfl, rfl, rfl⟩
def ReqP (b : Bool) (w : World) (r : Ending) (w' : World) : Prop := (if b = true then r = .returned (.tuple #[]) else r = .panicked inv18) ∧ w = w'
theorem require_any (b : Bool) (w : World) : Calls Tryz.prog 61 #[.bool b] w (ReqP b w) := by
 cases b with
 | true => exact (require_yes w).mono fun r w' ⟨h1, h2⟩ => ⟨by simpa using h1, h2⟩
 | false => exact (require_no w).mono fun r w' ⟨h1, h2⟩ => ⟨by simpa using h1, h2⟩
def isK18 (k : Int) : Bool := decide (k = 1) || decide (k = 2) || decide (k = 3)
theorem kind_any18 (k : Int) (w : World) : Calls Tryz.prog 51 #[.int .i64 k] w (fun r w' => r = .returned (.bool (isK18 k)) ∧ w = w') := by
 by_cases h1 : k = 1
 ·subst h1
  go_enter Tryz.func51, Tryz.ntmps51
  go_wp2
  go_ret
  exact ⟨rfl, rfl⟩
 ·by_cases h2 : k = 2
  ·subst h2
   clear h1
   go_enter Tryz.func51, Tryz.ntmps51
   go_wp2
   go_ret
   exact ⟨rfl, rfl⟩
  ·by_cases h3 : k = 3
   ·subst h3
    clear h1 h2
    go_enter Tryz.func51, Tryz.ntmps51
    go_wp2
    go_ret
    exact ⟨rfl, rfl⟩
   ·have HE : Hid (isK18 k = false) := hHd (by unfold isK18; simp [h1, h2, h3])
    have k1 : (k == 1) = false := beq_eq_false_iff_ne.2 h1
    have k2 : (k == 2) = false := beq_eq_false_iff_ne.2 h2
    have k3 : (k == 3) = false := beq_eq_false_iff_ne.2 h3
    clear h1 h2 h3
    go_enter Tryz.func51, Tryz.ntmps51
    go_wp2
    go_ret
    exact ⟨by rw [HE.out]; rfl, rfl⟩
theorem hasNode_any18 (k : Int) (w : World) : Calls Tryz.prog 42 #[.int .i64 k] w (fun r w' => r = .returned (.bool (decide (k ≠ 2))) ∧ w = w') := by
 by_cases h1 : k = 2
 ·subst h1
  go_enter Tryz.func42, Tryz.ntmps42
  go_wp2
  go_ret
  exact ⟨rfl, rfl⟩
 ·have HE : Hid (decide (k ≠ 2) = true) := hHd (by simp [h1])
  have k1 : (k != 2) = true := by simp [h1]
  have k2 : (k == 2) = false := beq_eq_false_iff_ne.2 h1
  clear h1
  go_enter Tryz.func42, Tryz.ntmps42
  go_wp2
  go_ret
  exact ⟨by rw [HE.out]; rfl, rfl⟩
theorem hasOld_any18 (k : Int) (w : World) : Calls Tryz.prog 44 #[.int .i64 k] w (fun r w' => r = .returned (.bool (decide (k ≠ 1))) ∧ w = w') := by
 by_cases h1 : k = 1
 ·subst h1
  go_enter Tryz.func44, Tryz.ntmps44
  go_wp2
  go_ret
  exact ⟨rfl, rfl⟩
 ·have HE : Hid (decide (k ≠ 1) = true) := hHd (by simp [h1])
  have k1 : (k != 1) = true := by simp [h1]
  have k2 : (k == 1) = false := beq_eq_false_iff_ne.2 h1
  clear h1
  go_enter Tryz.func44, Tryz.ntmps44
  go_wp2
  go_ret
  exact ⟨by rw [HE.out]; rfl, rfl⟩
theorem tag_any18 (k : Nat) (hk : k < 9223372036854775808) (w : World) : Calls Tryz.prog 45 #[.int .i64 (k : Int)] w (fun r w' => r = .returned (.int .u64 ((2 * k + 1 : Nat) : Int)) ∧ w = w') := by
 have h1 : IntKind.u64.wrap (k : Int) = (k : Int) := Go.IntWalk.u64_in _ (by omega)
 have h2 : IntKind.u64.wrap (2 * (k : Int)) = 2 * (k : Int) := Go.IntWalk.u64_in _ (by omega)
 have h3 : IntKind.u64.wrap (2 * (k : Int) + 1) = 2 * (k : Int) + 1 := Go.IntWalk.u64_in _ (by omega)
 have HE : Hid (((2 * k + 1 : Nat) : Int) = 2 * (k : Int) + 1) := hHd (by omega)
 clear hk
 go_enter Tryz.func45, Tryz.ntmps45
 go_wp2
 go_ret
 exact ⟨by rw [HE.out]; rfl, rfl⟩
theorem leaf_any18 (a : NdD) (f : NdF) (A : Option Addr) (c : Nat) (w : World) : Calls Tryz.prog 76 #[.agg (cN a (.slice A f.len c))] w (Ans9 (.bool (decide (a.kind ≠ 0))) w) := by
 have HB0 : Hid (Below w.heap.size w (w.alloc (.cells (cN a (.slice A f.len c)) 42))) := hHd bAl
 by_cases h1 : a.kind = 0
 ·have k1 : (a.kind == 0) = true := beq_iff_eq.2 h1
  have k2 : (a.kind != 0) = false := by simp [h1]
  have HE : Hid (decide (a.kind ≠ 0) = false) := hHd (by simp [h1])
  clear h1
  go_enter Tryz.func76, Tryz.ntmps76
  go_wp2
  go_ret
  exact ⟨by rw [HE.out]; rfl, HB0.out⟩
 ·have k1 : (a.kind == 0) = false := beq_eq_false_iff_ne.2 h1
  have k2 : (a.kind != 0) = true := by simp [h1]
  have HE : Hid (decide (a.kind ≠ 0) = true) := hHd (by simp [h1])
  clear h1
  go_enter Tryz.func76, Tryz.ntmps76
  go_wp2
  go_ret
  exact ⟨by rw [HE.out]; rfl, HB0.out⟩
def sv18 (a : NdD) : Bool := if a.kind = 0 then decide (a.kind = 0 ∧ a.num = 0 ∧ a.text = []) else decide (0 < a.kind) && (decide (a.kind ≤ 255) && (decide (a.num = 0) || decide (a.text = [])))
theorem sv_is18 (a : NdD) : ndOk a = sv18 a := by
 unfold ndOk sv18
 by_cases h : a.kind = 0
 ·rw [if_pos h, Bool.eq_iff_iff]
  simp only [Bool.and_eq_true, decide_eq_true_eq, h, true_and]
  constructor
  ·rintro ⟨⟨⟨h1, -⟩, -⟩, -⟩
   exact ⟨Decidable.byContradiction fun e => h1 (.inl e), Decidable.byContradiction fun e => h1 (.inr e)⟩
  ·rintro ⟨h1, h2⟩
   exact ⟨⟨⟨fun e => e.elim (fun e => e h1) (fun e => e h2), by decide⟩, by decide⟩, fun e => e.1 h2⟩
 ·rw [if_neg h, Bool.eq_iff_iff]
  simp only [Bool.and_eq_true, Bool.or_eq_true, decide_eq_true_eq]
  constructor
  ·rintro ⟨⟨⟨-, h2⟩, h3⟩, h4⟩
   refine ⟨by omega, h3, ?_⟩
   by_cases e : a.num = 0
   ·exact .inl e
   ·exact .inr (Decidable.byContradiction fun e2 => h4 ⟨e2, e⟩)
  ·rintro ⟨h2, h3, h4⟩
   exact ⟨⟨⟨fun e => h e.1, by omega⟩, h3⟩, fun e => h4.elim e.2 e.1⟩
theorem sval_any18 (a : NdD) (w : World) : Calls Tryz.prog 83 #[.agg #[.int .i64 a.kind, .int .u64 (a.num : Int), .string (txt a.text)]] w (Ans9 (.bool (sv18 a)) w) := by
 have HB0 : Hid (Below w.heap.size w (w.alloc (.cells #[.int .i64 a.kind, .int .u64 (a.num : Int), .string (txt a.text)] 39))) := hHd bAl
 have tt : (txt a.text).toList = a.text := txt_toList _
 have ev := val_eql18 a.kind a.num a.text
 obtain ⟨z, hz⟩ : ∃ z, z = decide (a.kind = 0 ∧ a.num = 0 ∧ a.text = []) := ⟨_, rfl⟩
 rw [← hz] at ev
 by_cases h0 : a.kind = 0
 ·have k1 : (a.kind == 0) = true := beq_iff_eq.2 h0
  have HE : Hid (sv18 a = z) := hHd (by unfold sv18; rw [if_pos h0, hz])
  clear h0 hz
  go_enter Tryz.func83, Tryz.ntmps83
  go_wp2
  go_ret
  exact ⟨by rw [HE.out]; rfl, HB0.out⟩
 ·have k1 : (a.kind == 0) = false := beq_eq_false_iff_ne.2 h0
  clear ev hz z
  by_cases h1 : 0 < a.kind
  ·by_cases h2 : a.kind ≤ 255
   ·by_cases h3 : a.num = 0
    ·have HE : Hid (sv18 a = true) := hHd (by unfold sv18; rw [if_neg h0]; simp [h1, h2, h3])
     have n1 : ((a.num : Int) == 0) = true := by simp [h3]
     have n3 : (a.num == 0) = true := by simp [h3]
     clear h0 h3
     go_enter Tryz.func83, Tryz.ntmps83
     go_wp2
     go_ret
     exact ⟨by rw [HE.out]; rfl, HB0.out⟩
    ·have n1 : ((a.num : Int) == 0) = false := by simp [h3]
     have n3 : (a.num == 0) = false := by simp [h3]
     by_cases h4 : a.text = []
     ·have HE : Hid (sv18 a = true) := hHd (by unfold sv18; rw [if_neg h0]; simp [h1, h2, h4])
      have t1 : (a.text == []) = true := by rw [h4]; rfl
      have t2 : a.text.isEmpty = true := by rw [h4]; rfl
      clear h0 h3 h4
      go_enter Tryz.func83, Tryz.ntmps83
      go_wp2
      go_ret
      exact ⟨by rw [HE.out]; rfl, HB0.out⟩
     ·have HE : Hid (sv18 a = false) := hHd (by unfold sv18; rw [if_neg h0]; simp [h3, h4])
      have t1 : (a.text == []) = false := by cases e : a.text with | nil => exact absurd e h4 | cons => rfl
      have t2 : a.text.isEmpty = false := by cases e : a.text with | nil => exact absurd e h4 | cons => rfl
      clear h0 h3 h4
      go_enter Tryz.func83, Tryz.ntmps83
      go_wp2
      go_ret
      exact ⟨by rw [HE.out]; rfl, HB0.out⟩
   ·have HE : Hid (sv18 a = false) := hHd (by unfold sv18; rw [if_neg h0]; simp [h2])
    clear h0
    go_enter Tryz.func83, Tryz.ntmps83
    go_wp2
    go_ret
    exact ⟨by rw [HE.out]; rfl, HB0.out⟩
  ·have HE : Hid (sv18 a = false) := hHd (by unfold sv18; rw [if_neg h0]; simp [h1])
   clear h0
   go_enter Tryz.func83, Tryz.ntmps83
   go_wp2
   go_ret
   exact ⟨by rw [HE.out]; rfl, HB0.out⟩
theorem zemp_name (a : NdD) (f : NdF) (A : Option Addr) (c : Nat) (w : World) (h : a.name ≠ []) :
  Calls Tryz.prog 52 #[.agg (cN a (.slice A f.len c))] w (Ans9 (.bool (emp18 a f)) w) := by
 have HB0 : Hid (Below w.heap.size w (w.alloc (.cells (cN a (.slice A f.len c)) 42))) := hHd bAl
 have tn : (txt a.name).toList = a.name := txt_toList _
 have tk : (txt a.key).toList = a.key := txt_toList _
 have tt : (txt a.text).toList = a.text := txt_toList _
 have ev := val_eql18 a.kind a.num a.text
 have HV : Hid (emp18 a f = false) := hHd (by unfold emp18; simp [h])
 have e1 : (a.name == []) = false := by cases e : a.name with | nil => exact absurd e h | cons => rfl
 have e2 : a.name.isEmpty = false := by cases e : a.name with | nil => exact absurd e h | cons => rfl
 clear h
 go_enter Tryz.func52, Tryz.ntmps52
 go_wp2
 go_ret
 exact ⟨by rw [HV.out]; rfl, HB0.out⟩
theorem zemp_key (a : NdD) (f : NdF) (A : Option Addr) (c : Nat) (w : World) (h0 : a.name = []) (h : a.key ≠ []) :
  Calls Tryz.prog 52 #[.agg (cN a (.slice A f.len c))] w (Ans9 (.bool (emp18 a f)) w) := by
 have HB0 : Hid (Below w.heap.size w (w.alloc (.cells (cN a (.slice A f.len c)) 42))) := hHd bAl
 have tn : (txt a.name).toList = a.name := txt_toList _
 have tk : (txt a.key).toList = a.key := txt_toList _
 have tt : (txt a.text).toList = a.text := txt_toList _
 have ev := val_eql18 a.kind a.num a.text
 have HV : Hid (emp18 a f = false) := hHd (by unfold emp18; simp [h])
 have d1 : (a.name == []) = true := by rw [h0]; rfl
 have d2 : a.name.isEmpty = true := by rw [h0]; rfl
 have e1 : (a.key == []) = false := by cases e : a.key with | nil => exact absurd e h | cons => rfl
 have e2 : a.key.isEmpty = false := by cases e : a.key with | nil => exact absurd e h | cons => rfl
 clear h h0
 go_enter Tryz.func52, Tryz.ntmps52
 go_wp2
 go_ret
 exact ⟨by rw [HV.out]; rfl, HB0.out⟩
theorem zemp_val (a : NdD) (f : NdF) (A : Option Addr) (c : Nat) (w : World) (h0 : a.name = []) (h1 : a.key = []) (h2 : ¬ (a.kind = 0 ∧ a.num = 0 ∧ a.text = [])) :
  Calls Tryz.prog 52 #[.agg (cN a (.slice A f.len c))] w (Ans9 (.bool (emp18 a f)) w) := by
 have HB0 : Hid (Below w.heap.size w (w.alloc (.cells (cN a (.slice A f.len c)) 42))) := hHd bAl
 have tn : (txt a.name).toList = a.name := txt_toList _
 have tk : (txt a.key).toList = a.key := txt_toList _
 have tt : (txt a.text).toList = a.text := txt_toList _
 have ev := val_eql18 a.kind a.num a.text
 have HV : Hid (emp18 a f = false) := hHd (by unfold emp18; simp [h2])
 have d1 : (a.name == []) = true := by rw [h0]; rfl
 have d2 : a.name.isEmpty = true := by rw [h0]; rfl
 have e1 : (a.key == []) = true := by rw [h1]; rfl
 have e2 : a.key.isEmpty = true := by rw [h1]; rfl
 have hvd : decide (a.kind = 0 ∧ a.num = 0 ∧ a.text = []) = false := decide_eq_false h2
 rw [hvd] at ev
 clear h0 h1 h2 hvd
 go_enter Tryz.func52, Tryz.ntmps52
 go_wp2
 go_ret
 exact ⟨by rw [HV.out]; rfl, HB0.out⟩
theorem zemp_kids (a : NdD) (f : NdF) (A : Option Addr) (c : Nat) (w : World) (h0 : a.name = []) (h1 : a.key = []) (h2 : a.kind = 0 ∧ a.num = 0 ∧ a.text = []) (h3 : f.len ≠ 0) :
  Calls Tryz.prog 52 #[.agg (cN a (.slice A f.len c))] w (Ans9 (.bool (emp18 a f)) w) := by
 have HB0 : Hid (Below w.heap.size w (w.alloc (.cells (cN a (.slice A f.len c)) 42))) := hHd bAl
 have tn : (txt a.name).toList = a.name := txt_toList _
 have tk : (txt a.key).toList = a.key := txt_toList _
 have tt : (txt a.text).toList = a.text := txt_toList _
 have ev := val_eql18 a.kind a.num a.text
 have HV : Hid (emp18 a f = false) := hHd (by unfold emp18; simp [h3])
 have d1 : (a.name == []) = true := by rw [h0]; rfl
 have d2 : a.name.isEmpty = true := by rw [h0]; rfl
 have e1 : (a.key == []) = true := by rw [h1]; rfl
 have e2 : a.key.isEmpty = true := by rw [h1]; rfl
 have hvd : decide (a.kind = 0 ∧ a.num = 0 ∧ a.text = []) = true := decide_eq_true h2
 rw [hvd] at ev
 have e3 : ((f.len : Int) == 0) = false := by simp [h3]
 clear h0 h1 h2 h3 hvd
 go_enter Tryz.func52, Tryz.ntmps52
 go_wp2
 go_ret
 exact ⟨by rw [HV.out]; rfl, HB0.out⟩
theorem zemp_yes (a : NdD) (f : NdF) (A : Option Addr) (c : Nat) (w : World) (h0 : a.name = []) (h1 : a.key = []) (h2 : a.kind = 0 ∧ a.num = 0 ∧ a.text = []) (h3 : f.len = 0) :
  Calls Tryz.prog 52 #[.agg (cN a (.slice A f.len c))] w (Ans9 (.bool (emp18 a f)) w) := by
 have HB0 : Hid (Below w.heap.size w (w.alloc (.cells (cN a (.slice A f.len c)) 42))) := hHd bAl
 have tn : (txt a.name).toList = a.name := txt_toList _
 have tk : (txt a.key).toList = a.key := txt_toList _
 have tt : (txt a.text).toList = a.text := txt_toList _
 have ev := val_eql18 a.kind a.num a.text
 have HV : Hid (emp18 a f = true) := hHd (by unfold emp18; simp [h0, h1, h2, h3])
 have d1 : (a.name == []) = true := by rw [h0]; rfl
 have d2 : a.name.isEmpty = true := by rw [h0]; rfl
 have e1 : (a.key == []) = true := by rw [h1]; rfl
 have e2 : a.key.isEmpty = true := by rw [h1]; rfl
 have hvd : decide (a.kind = 0 ∧ a.num = 0 ∧ a.text = []) = true := decide_eq_true h2
 rw [hvd] at ev
 have e3 : ((f.len : Int) == 0) = true := by simp [h3]
 clear h0 h1 h2 h3 hvd
 go_enter Tryz.func52, Tryz.ntmps52
 go_wp2
 go_ret
 exact ⟨by rw [HV.out]; rfl, HB0.out⟩
theorem zero_any18 (a : NdD) (f : NdF) (A : Option Addr) (c : Nat) (w : World) : Calls Tryz.prog 52 #[.agg (cN a (.slice A f.len c))] w (Ans9 (.bool (decide ((a, f) = noN))) w) := by
 rw [← emp18_is]
 by_cases h0 : a.name = []
 ·by_cases h1 : a.key = []
  ·by_cases h2 : a.kind = 0 ∧ a.num = 0 ∧ a.text = []
   ·by_cases h3 : f.len = 0
    ·exact zemp_yes a f A c w h0 h1 h2 h3
    ·exact zemp_kids a f A c w h0 h1 h2 h3
   ·exact zemp_val a f A c w h0 h1 h2
  ·exact zemp_key a f A c w h0 h1
 ·exact zemp_name a f A c w h0
def SndP18 (f : NdF) : Prop := ∀ (a : NdD) (A : Option Addr) (c : Nat) (w : World), RowT w.heap.size w (.slice A f.len c) f → f.size ≤ 1000000 →
  Calls Tryz.prog 53 #[.agg (cN a (.slice A f.len c))] w (Ans9 (.bool (okN18 (a, f))) w)
theorem snd_row18 (f : NdF) (hkids : ∀ n a k, f.get? n = some (a, k) → SndP18 k) : SndP18 f := by
 intro a A c w hk hsz
 have HB1 : Hid (Below w.heap.size w (w.alloc (.cells (cN a (.slice A f.len c)) 42))) := hHd bAl
 have HP1 : Hid (Blk (w.alloc (.cells (cN a (.slice A f.len c)) 42)) w.heap.size 42 (cN a (.slice A f.len c))) := hHd (Blk.new _ _ _)
 obtain ⟨sv, hsv⟩ : ∃ b, b = sv18 a := ⟨_, rfl⟩
 obtain ⟨lf, hlf⟩ : ∃ b, b = decide (a.kind ≠ 0) := ⟨_, rfl⟩
 obtain ⟨ln, hln⟩ : ∃ b, b = decide (0 < f.len) := ⟨_, rfl⟩
 have HSV : ∀ W, Hid (Calls Tryz.prog 83 #[.agg #[.int .i64 a.kind, .int .u64 (a.num : Int), .string (txt a.text)]] W (Ans9 (.bool sv) W)) := fun W => hHd (by rw [hsv]; exact sval_any18 a W)
 have HLF : ∀ W, Hid (Calls Tryz.prog 76 #[.agg (cN a (.slice A f.len c))] W (Ans9 (.bool lf) W)) := fun W => hHd (by rw [hlf]; exact leaf_any18 a f A c W)
 have HLN := hHd hln
 have HOK : Hid (okN18 (a, f) = (!(!sv || (lf && ln)) && okF18 f)) := hHd (by
  unfold okN18
  rw [sv_is18, hsv, hlf, hln]
  simp only
  cases f with
  | nil => simp [Fr.len, okF18]
  | cons y k r => cases sv18 a <;> by_cases e : a.kind = 0 <;> simp [e, Fr.len])
 have HI := hHd hkids
 have HK : Hid (RowT w.heap.size w (.slice A f.len c) f) := hHd hk
 have HZ : Hid (f.size ≤ 1000000) := hHd hsz
 clear hkids hk hsz hsv hlf hln
 go_enter Tryz.func53, Tryz.ntmps53
 go_upto_region 1 with (fail)
 revert HB1 HP1
 generalize (w.alloc (.cells (cN a (.slice A f.len c)) 42)) = w1
 intro HB1 HP1
 go_cut [18] (fun b wx => b = .bool (!sv || (lf && ln)) ∧ Hid (Blk wx w.heap.size 42 (cN a (.slice A f.len c))) ∧ Hid (Below w.heap.size w wx))
 case first =>
  have q2 := (HP1.out.cell 2).trans rfl
  have q3 := (HP1.out.cell 3).trans rfl
  have q4 := (HP1.out.cell 4).trans rfl
  go_wp2_with fail
  refine (HSV _).out.mono ?_
  rintro r w2 ⟨rfl, hb⟩
  have HP2 := hHd (HP1.out.below hb HP1.out.lt)
  have HB2 := hHd (HB1.out.trans (hb.mono HB1.out.size))
  clear hb HP1 HB1 q2 q3 q4
  cases sv with
  | false =>
   go_wp2_with fail
   go_meet
   exact ⟨rfl, HP2, HB2⟩
  | true =>
   obtain ⟨p0, p1, p2, p3, p4, p5⟩ := cl6 HP2.out
   go_wp2_with fail
   refine (HLF _).out.mono ?_
   rintro r w3 ⟨rfl, hb⟩
   have HP3 := hHd (HP2.out.below hb HP2.out.lt)
   have HB3 := hHd (HB2.out.trans (hb.mono HB2.out.size))
   clear hb HP2 HB2 p0 p1 p2 p3 p4 p5
   cases lf with
   | false =>
    go_wp2_with fail
    go_meet
    exact ⟨rfl, HP3, HB3⟩
   | true =>
    have p5 := (HP3.out.cell 5).trans rfl
    by_cases h : 0 < f.len
    ·have l1 : (0 : Int) < (f.len : Int) := by omega
     have HE : Hid (ln = true) := hHd (by rw [HLN.out]; simp [h])
     go_wp2_with fail
     go_meet
     exact ⟨by rw [HE.out]; rfl, HP3, HB3⟩
    ·have l1 : ¬ (0 : Int) < (f.len : Int) := by omega
     have HE : Hid (ln = false) := hHd (by rw [HLN.out]; simp; omega)
     go_wp2_with fail
     go_meet
     exact ⟨by rw [HE.out]; rfl, HP3, HB3⟩
 case rest =>
 obtain ⟨rfl, HP, HB⟩ := hcut
 clear HSV HLF HP1 HB1 HLN
 obtain ⟨bb, hbb⟩ : ∃ b, b = (!sv || (lf && ln)) := ⟨_, rfl⟩
 rw [← hbb] at HOK ⊢
 clear hbb
 obtain ⟨w2, hw2⟩ : ∃ w2, w2 = wc := ⟨_, rfl⟩
 subst hw2
 cases bb with
 | true =>
  have HF : Hid (okN18 (a, f) = false) := hHd HOK.out
  go_wp2
  go_ret
  exact ⟨by rw [HF.out]; rfl, HB.out⟩
 | false =>
  have HF : Hid (okN18 (a, f) = okF18 f) := hHd HOK.out
  have p5 := (HP.out.cell 5).trans rfl
  clear HOK
  go_upto_region 4 with (fail)
  clear p5
  go_loopw [22] (fun i wr => ∃ j : Nat, j ≤ f.len ∧ i = .int .i64 (j : Int) ∧ Hid (∀ n, n < j → okAt18 f n = true) ∧ Hid (Below w.heap.size w wr)) (fun i _ => f.len - (intOf i).toNat)
  case atStart => exact ⟨0, Nat.zero_le _, rfl, hHd (fun n h => by omega), HB⟩
  case round =>
   clear HP HB
   obtain ⟨j, hj, rfl, HL, HBr⟩ := hrel
   obtain ⟨w7, hw7⟩ : ∃ w7, w7 = wr := ⟨_, rfl⟩
   subst hw7
   by_cases hlt : j < f.len
   ·obtain ⟨a1, q, hg⟩ := Fr.get_some hlt
    obtain ⟨b, o, A', c', rfl, -, -, hbl, hrow, hcl⟩ := HK.out.at hg
    have hcell : ∀ i u, (ndC a1 (.slice A' q.len c'))[i]? = some u → w7.cell? ⟨b, o + j * 6 + i, none⟩ = some u := fun i u hu => (HBr.out.cell (p := ⟨b, o + j * 6 + i, none⟩) hbl).trans (hcl i u hu)
    have q0 : (w7).cell? ⟨b, o + j * 6, none⟩ = _ := hcell 0 _ rfl
    have q1 : (w7).cell? ⟨b, o + j * 6 + 1, none⟩ = _ := hcell 1 _ rfl
    have q2 : (w7).cell? ⟨b, o + j * 6 + 2, none⟩ = _ := hcell 2 _ rfl
    have q3 : (w7).cell? ⟨b, o + j * 6 + 3, none⟩ = _ := hcell 3 _ rfl
    have q4 : (w7).cell? ⟨b, o + j * 6 + 4, none⟩ = _ := hcell 4 _ rfl
    have q5 : (w7).cell? ⟨b, o + j * 6 + 5, none⟩ = _ := hcell 5 _ rfl
    have i1 : (0 : Int) ≤ (j : Int) := by omega
    have i2 : (j : Int) < (f.len : Int) := by omega
    have i3 : (f.len : Int) ≤ 1000000 := by have := HZ.out; have := Fr.len_size f; omega
    obtain ⟨rb, hrb⟩ : ∃ z, z = okN18 (a1, q) := ⟨_, rfl⟩
    have HI1 : ∀ W, Below w7.heap.size w7 W → Hid (Calls Tryz.prog 53 #[.agg (cN a1 (.slice A' q.len c'))] W (Ans9 (.bool rb) W)) := fun W hW => hHd (by
     rw [hrb]; exact HI.out j a1 q hg a1 A' c' W ((hrow.under HBr.out (Nat.le_refl _) HBr.out.size).under hW (Nat.le_refl _) hW.size) (by have := HZ.out; have := Fr.size_get hg; omega))
    have HOK : Hid (okAt18 f j = rb) := hHd (by unfold okAt18; rw [hg, hrb])
    have HB8 : Hid (Below w7.heap.size w7 (w7.alloc (.cells (cN a1 (.slice A' q.len c')) 42))) := hHd bAl
    clear hcl hg hrow hcell hrb hbl
    go_wp2_with fail
    refine (HI1 _ HB8.out).out.mono ?_
    rintro r w9 ⟨rfl, hb⟩
    have HB9 := hHd (HBr.out.trans ((HB8.out.trans (hb.mono HB8.out.size)).mono HBr.out.size))
    clear hb q0 q1 q2 q3 q4 q5 HBr HI1 HB8
    cases rb with
    | false =>
     have HF2 : Hid (okF18 f = false) := hHd (okF_no hlt HOK.out)
     clear hlt
     go_wp2
     go_ret
     exact ⟨by rw [HF.out, HF2.out]; rfl, HB9.out⟩
    | true =>
     have HL2 : Hid (∀ n, n < j + 1 → okAt18 f n = true) := hHd (fun n hn => by rcases Nat.lt_succ_iff_lt_or_eq.1 hn with h | rfl; exact HL.out n h; exact HOK.out)
     go_wp2
     go_roundw
     case rel => exact ⟨j + 1, by omega, by go_num, HL2, HB9⟩
     case measure => simp [intOf]; omega
   ·have i2 : ¬ (j : Int) < (f.len : Int) := by omega
    have HF2 : Hid (okF18 f = true) := hHd (okF_at.2 (fun n hn => HL.out n (by omega)))
    go_wp2
    go_ret
    exact ⟨by rw [HF.out, HF2.out]; rfl, HBr.out⟩
theorem snode_any18 (x : Nd) (cs : List Value) (w : World) (hx : LieN w cs x) (hf : Few9 x) : Calls Tryz.prog 53 #[.agg cs.toArray] w (Ans9 (.bool (okN18 x)) w) := by
 obtain ⟨A, c, rfl, hk⟩ := hx.shape
 exact Fr.byKids (P := SndP18) snd_row18 x.2 x.1 A c w hk hf
end
end Go.Proofs.YtleidkpdpabkpaaGreatDoor
