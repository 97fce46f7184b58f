/- EdtRefA ForestC -/
import Derived.Test.YtleidkpdpabkpaaGreatDoorAM6
import Derived.Deep.DeepCutAuto
set_option linter.unusedSimpArgs false
set_option linter.unusedVariables false
set_option maxRecDepth 100000
set_option maxHeartbeats 8000000
namespace Go.Proofs.YtleidkpdpabkpaaGreatDoor
open Go.RowKit
section
attribute [local go_sem] Oper.semAt_some
theorem val_eql18 (k : Int) (n : Nat) (s : List UInt8) (W : World) : (binOp .eql 39 (.agg #[.int .i64 k, .int .u64 (n : Int), .string (txt s)]) (.agg #[.int .i64 0, .int .u64 0, .string ⟨#[]⟩])).run Tryz.prog W = .ok (.bool (decide (k = 0 ∧ n = 0 ∧ s = []))) W := by
 rw [run_eql_struct, show (10000 : Nat) = 9999 + 1 from rfl, run_equalIn_agg W 9999 39 _ _ (by simp only [Program.fieldsOf, Tryz.underlying39]) (by kernel_rfl)]
 simp only [Program.fieldsOf, Tryz.underlying39]
 simp only [Op.eqFields]
 go_simp
 simp only [txt_toList]
 by_cases h1 : k = 0
 ·by_cases h2 : n = 0
  ·cases s with
   | nil => simp [h1, h2]
   | cons x y => simp [h1, h2]
  ·simp [h1, h2]
 ·simp [h1]
def emp18 (a : NdD) (f : NdF) : Bool := decide (a.name = []) && (decide (a.key = []) && (decide (a.kind = 0 ∧ a.num = 0 ∧ a.text = []) && decide (f.len = 0)))
theorem emp18_is (a : NdD) (f : NdF) : emp18 a f = decide ((a, f) = noN) := by
 obtain ⟨nm, ky, kd, nu, tx⟩ := a
 unfold emp18 noN zeroT
 by_cases h : ((⟨nm, ky, kd, nu, tx⟩, f) : Nd) = (⟨[], [], 0, 0, []⟩, .nil)
 ·rw [decide_eq_true h]
  injection h with h1 h2
  injection h1 with e1 e2 e3 e4 e5
  subst e1 e2 e3 e4 e5 h2
  decide
 ·rw [decide_eq_false h]
  rw [Bool.eq_false_iff]
  intro h2
  simp only [Bool.and_eq_true, decide_eq_true_eq] at h2
  obtain ⟨e1, e2, ⟨e3, e4, e5⟩, e6⟩ := h2
  subst e1 e2 e3 e4 e5
  cases f with
  | nil => exact h rfl
  | cons => simp [Fr.len] at e6
theorem remp_name (a : NdD) (f : NdF) (A : Option Addr) (c : Nat) (w : World) (h : a.name ≠ []) :
  Calls Tryz.prog 26 #[.agg (cN a (.slice A f.len c))] w (Ans9 (.bool (emp18 a f)) w) := by
 have HB0 : Hid (Below w.heap.size w (w.alloc (.cells (cN a (.slice A f.len c)) 42))) := hHd bAl
 have tn : (txt a.name).toList = a.name := txt_toList _
 have tk : (txt a.key).toList = a.key := txt_toList _
 have tt : (txt a.text).toList = a.text := txt_toList _
 have ev := val_eql18 a.kind a.num a.text
 have HV : Hid (emp18 a f = false) := hHd (by unfold emp18; simp [h])
 have e1 : (a.name == []) = false := by cases e : a.name with | nil => exact absurd e h | cons => rfl
 have e2 : a.name.isEmpty = false := by cases e : a.name with | nil => exact absurd e h | cons => rfl
 clear h
 go_enter Tryz.func26, Tryz.ntmps26
 go_wp2
 go_ret
 exact ⟨by rw [HV.out]; rfl, HB0.out⟩
theorem remp_key (a : NdD) (f : NdF) (A : Option Addr) (c : Nat) (w : World) (h0 : a.name = []) (h : a.key ≠ []) :
  Calls Tryz.prog 26 #[.agg (cN a (.slice A f.len c))] w (Ans9 (.bool (emp18 a f)) w) := by
 have HB0 : Hid (Below w.heap.size w (w.alloc (.cells (cN a (.slice A f.len c)) 42))) := hHd bAl
 have tn : (txt a.name).toList = a.name := txt_toList _
 have tk : (txt a.key).toList = a.key := txt_toList _
 have tt : (txt a.text).toList = a.text := txt_toList _
 have ev := val_eql18 a.kind a.num a.text
 have HV : Hid (emp18 a f = false) := hHd (by unfold emp18; simp [h])
 have d1 : (a.name == []) = true := by rw [h0]; rfl
 have d2 : a.name.isEmpty = true := by rw [h0]; rfl
 have e1 : (a.key == []) = false := by cases e : a.key with | nil => exact absurd e h | cons => rfl
 have e2 : a.key.isEmpty = false := by cases e : a.key with | nil => exact absurd e h | cons => rfl
 clear h h0
 go_enter Tryz.func26, Tryz.ntmps26
 go_wp2
 go_ret
 exact ⟨by rw [HV.out]; rfl, HB0.out⟩
theorem remp_val (a : NdD) (f : NdF) (A : Option Addr) (c : Nat) (w : World) (h0 : a.name = []) (h1 : a.key = []) (h2 : ¬ (a.kind = 0 ∧ a.num = 0 ∧ a.text = [])) :
  Calls Tryz.prog 26 #[.agg (cN a (.slice A f.len c))] w (Ans9 (.bool (emp18 a f)) w) := by
 have HB0 : Hid (Below w.heap.size w (w.alloc (.cells (cN a (.slice A f.len c)) 42))) := hHd bAl
 have tn : (txt a.name).toList = a.name := txt_toList _
 have tk : (txt a.key).toList = a.key := txt_toList _
 have tt : (txt a.text).toList = a.text := txt_toList _
 have ev := val_eql18 a.kind a.num a.text
 have HV : Hid (emp18 a f = false) := hHd (by unfold emp18; simp [h2])
 have d1 : (a.name == []) = true := by rw [h0]; rfl
 have d2 : a.name.isEmpty = true := by rw [h0]; rfl
 have e1 : (a.key == []) = true := by rw [h1]; rfl
 have e2 : a.key.isEmpty = true := by rw [h1]; rfl
 have hvd : decide (a.kind = 0 ∧ a.num = 0 ∧ a.text = []) = false := decide_eq_false h2
 rw [hvd] at ev
 clear h0 h1 h2 hvd
 go_enter Tryz.func26, Tryz.ntmps26
 go_wp2
 go_ret
 exact ⟨by rw [HV.out]; rfl, HB0.out⟩
theorem remp_kids (a : NdD) (f : NdF) (A : Option Addr) (c : Nat) (w : World) (h0 : a.name = []) (h1 : a.key = []) (h2 : a.kind = 0 ∧ a.num = 0 ∧ a.text = []) (h3 : f.len ≠ 0) :
  Calls Tryz.prog 26 #[.agg (cN a (.slice A f.len c))] w (Ans9 (.bool (emp18 a f)) w) := by
 have HB0 : Hid (Below w.heap.size w (w.alloc (.cells (cN a (.slice A f.len c)) 42))) := hHd bAl
 have tn : (txt a.name).toList = a.name := txt_toList _
 have tk : (txt a.key).toList = a.key := txt_toList _
 have tt : (txt a.text).toList = a.text := txt_toList _
 have ev := val_eql18 a.kind a.num a.text
 have HV : Hid (emp18 a f = false) := hHd (by unfold emp18; simp [h3])
 have d1 : (a.name == []) = true := by rw [h0]; rfl
 have d2 : a.name.isEmpty = true := by rw [h0]; rfl
 have e1 : (a.key == []) = true := by rw [h1]; rfl
 have e2 : a.key.isEmpty = true := by rw [h1]; rfl
 have hvd : decide (a.kind = 0 ∧ a.num = 0 ∧ a.text = []) = true := decide_eq_true h2
 rw [hvd] at ev
 have e3 : ((f.len : Int) == 0) = false := by simp [h3]
 clear h0 h1 h2 h3 hvd
 go_enter Tryz.func26, Tryz.ntmps26
 go_wp2
 go_ret
 exact ⟨by rw [HV.out]; rfl, HB0.out⟩
theorem remp_yes (a : NdD) (f : NdF) (A : Option Addr) (c : Nat) (w : World) (h0 : a.name = []) (h1 : a.key = []) (h2 : a.kind = 0 ∧ a.num = 0 ∧ a.text = []) (h3 : f.len = 0) :
  Calls Tryz.prog 26 #[.agg (cN a (.slice A f.len c))] w (Ans9 (.bool (emp18 a f)) w) := by
 have HB0 : Hid (Below w.heap.size w (w.alloc (.cells (cN a (.slice A f.len c)) 42))) := hHd bAl
 have tn : (txt a.name).toList = a.name := txt_toList _
 have tk : (txt a.key).toList = a.key := txt_toList _
 have tt : (txt a.text).toList = a.text := txt_toList _
 have ev := val_eql18 a.kind a.num a.text
 have HV : Hid (emp18 a f = true) := hHd (by unfold emp18; simp [h0, h1, h2, h3])
 have d1 : (a.name == []) = true := by rw [h0]; rfl
 have d2 : a.name.isEmpty = true := by rw [h0]; rfl
 have e1 : (a.key == []) = true := by rw [h1]; rfl
 have e2 : a.key.isEmpty = true := by rw [h1]; rfl
 have hvd : decide (a.kind = 0 ∧ a.num = 0 ∧ a.text = []) = true := decide_eq_true h2
 rw [hvd] at ev
 have e3 : ((f.len : Int) == 0) = true := by simp [h3]
 clear h0 h1 h2 h3 hvd
 go_enter Tryz.func26, Tryz.ntmps26
 go_wp2
 go_ret
 exact ⟨by rw [HV.out]; rfl, HB0.out⟩
theorem rempty_any (a : NdD) (f : NdF) (A : Option Addr) (c : Nat) (w : World) : Calls Tryz.prog 26 #[.agg (cN a (.slice A f.len c))] w (Ans9 (.bool (decide ((a, f) = noN))) w) := by
 rw [← emp18_is]
 by_cases h0 : a.name = []
 ·by_cases h1 : a.key = []
  ·by_cases h2 : a.kind = 0 ∧ a.num = 0 ∧ a.text = []
   ·by_cases h3 : f.len = 0
    ·exact remp_yes a f A c w h0 h1 h2 h3
    ·exact remp_kids a f A c w h0 h1 h2 h3
   ·exact remp_val a f A c w h0 h1 h2
  ·exact remp_key a f A c w h0 h1
 ·exact remp_name a f A c w h0
def NodeP18 (f : NdF) : Prop := ∀ (a : NdD) (A : Option Addr) (c : Nat) (w : World), RowT w.heap.size w (.slice A f.len c) f → f.size ≤ 1000000 →
  Calls Tryz.prog 27 #[.agg (cN a (.slice A f.len c))] w (Ans9 (.bool (okN18 (a, f))) w)
def okAt18 (f : NdF) (n : Nat) : Bool := match f.get? n with | none => true | some x => okN18 x
theorem okF_cons (a : NdD) (k r : NdF) : okF18 (.cons a k r) = (okN18 (a, k) && okF18 r) := by simp only [okF18, okN18]
theorem okF_at : ∀ {f : NdF}, okF18 f = true ↔ ∀ n, n < f.len → okAt18 f n = true := by
 intro f
 induction f with
 | nil => exact ⟨fun _ n h => absurd h (Nat.not_lt_zero _), fun _ => rfl⟩
 | cons a k r _ ih =>
  rw [okF_cons, Bool.and_eq_true, ih]
  constructor
  ·rintro ⟨h1, h2⟩ n hn
   cases n with
   | zero => exact h1
   | succ n => exact h2 n (by simp only [Fr.len] at hn; omega)
  ·intro h
   exact ⟨h 0 (by simp only [Fr.len]; omega), fun n hn => h (n + 1) (by simp only [Fr.len]; omega)⟩
theorem okF_no {f : NdF} {n : Nat} (hn : n < f.len) (h : okAt18 f n = false) : okF18 f = false := by
 rw [Bool.eq_false_iff]
 intro h2
 rw [okF_at.1 h2 n hn] at h
 cases h
theorem rnd_num (a : NdD) (f : NdF) (A : Option Addr) (c : Nat) (w : World) (hk : a.kind = 0) (hn : a.num ≠ 0) :
  Calls Tryz.prog 27 #[.agg (cN a (.slice A f.len c))] w (Ans9 (.bool false) w) := by
 have HB0 : Hid (Below w.heap.size w ((w.alloc (.cells (cN a (.slice A f.len c)) 42)).alloc (.cells #[.int .i64 a.kind, .int .u64 (a.num : Int), .string (txt a.text)] 39))) := hHd (bAl.alloc (by simp) _)
 have tn : (txt a.name).toList = a.name := txt_toList _
 have tk : (txt a.key).toList = a.key := txt_toList _
 have tt : (txt a.text).toList = a.text := txt_toList _
 have k1 : (a.kind == 0) = true := beq_iff_eq.2 hk
 have k2 : (a.kind != 0) = false := by simp [hk]
 have k3 : ¬ a.kind < 0 := by omega
 have k4 : ¬ (255 : Int) < a.kind := by omega
 have n1 : ((a.num : Int) == 0) = false := by simp [hn]
 have n2 : ((a.num : Int) != 0) = true := by simp [hn]
 have n3 : (a.num == 0) = false := by simp [hn]
 clear hk hn
 go_enter Tryz.func27, Tryz.ntmps27
 go_wp2
 go_ret
 exact ⟨rfl, HB0.out⟩
theorem rnd_text (a : NdD) (f : NdF) (A : Option Addr) (c : Nat) (w : World) (hk : a.kind = 0) (hn : a.num = 0) (ht : a.text ≠ []) :
  Calls Tryz.prog 27 #[.agg (cN a (.slice A f.len c))] w (Ans9 (.bool false) w) := by
 have HB0 : Hid (Below w.heap.size w ((w.alloc (.cells (cN a (.slice A f.len c)) 42)).alloc (.cells #[.int .i64 a.kind, .int .u64 (a.num : Int), .string (txt a.text)] 39))) := hHd (bAl.alloc (by simp) _)
 have tn : (txt a.name).toList = a.name := txt_toList _
 have tk : (txt a.key).toList = a.key := txt_toList _
 have tt : (txt a.text).toList = a.text := txt_toList _
 have k1 : (a.kind == 0) = true := beq_iff_eq.2 hk
 have k2 : (a.kind != 0) = false := by simp [hk]
 have k3 : ¬ a.kind < 0 := by omega
 have k4 : ¬ (255 : Int) < a.kind := by omega
 have n1 : ((a.num : Int) == 0) = true := by simp [hn]
 have n2 : ((a.num : Int) != 0) = false := by simp [hn]
 have n3 : (a.num == 0) = true := by simp [hn]
 have t1 : (a.text == []) = false := by cases e : a.text with | nil => exact absurd e ht | cons => rfl
 have t2 : a.text.isEmpty = false := by cases e : a.text with | nil => exact absurd e ht | cons => rfl
 clear hk hn ht
 go_enter Tryz.func27, Tryz.ntmps27
 go_wp2
 go_ret
 exact ⟨rfl, HB0.out⟩
theorem rnd_low (a : NdD) (f : NdF) (A : Option Addr) (c : Nat) (w : World) (hk : a.kind < 0) :
  Calls Tryz.prog 27 #[.agg (cN a (.slice A f.len c))] w (Ans9 (.bool false) w) := by
 have HB0 : Hid (Below w.heap.size w ((w.alloc (.cells (cN a (.slice A f.len c)) 42)).alloc (.cells #[.int .i64 a.kind, .int .u64 (a.num : Int), .string (txt a.text)] 39))) := hHd (bAl.alloc (by simp) _)
 have tn : (txt a.name).toList = a.name := txt_toList _
 have tk : (txt a.key).toList = a.key := txt_toList _
 have tt : (txt a.text).toList = a.text := txt_toList _
 have k3 : a.kind ≠ 0 := by omega
 have k1 : (a.kind == 0) = false := beq_eq_false_iff_ne.2 k3
 have k2 : (a.kind != 0) = true := by simp [k3]
 clear k3
 go_enter Tryz.func27, Tryz.ntmps27
 go_wp2
 go_ret
 exact ⟨rfl, HB0.out⟩
theorem rnd_high (a : NdD) (f : NdF) (A : Option Addr) (c : Nat) (w : World) (hk : (255 : Int) < a.kind) :
  Calls Tryz.prog 27 #[.agg (cN a (.slice A f.len c))] w (Ans9 (.bool false) w) := by
 have HB0 : Hid (Below w.heap.size w ((w.alloc (.cells (cN a (.slice A f.len c)) 42)).alloc (.cells #[.int .i64 a.kind, .int .u64 (a.num : Int), .string (txt a.text)] 39))) := hHd (bAl.alloc (by simp) _)
 have tn : (txt a.name).toList = a.name := txt_toList _
 have tk : (txt a.key).toList = a.key := txt_toList _
 have tt : (txt a.text).toList = a.text := txt_toList _
 have k3 : a.kind ≠ 0 := by omega
 have k4 : ¬ a.kind < 0 := by omega
 have k1 : (a.kind == 0) = false := beq_eq_false_iff_ne.2 k3
 have k2 : (a.kind != 0) = true := by simp [k3]
 clear k3
 go_enter Tryz.func27, Tryz.ntmps27
 go_wp2
 go_ret
 exact ⟨rfl, HB0.out⟩
theorem rnd_both (a : NdD) (f : NdF) (A : Option Addr) (c : Nat) (w : World) (hk : a.kind ≠ 0) (k3 : ¬ a.kind < 0) (k4 : ¬ (255 : Int) < a.kind) (ht : a.text ≠ []) (hn : a.num ≠ 0) :
  Calls Tryz.prog 27 #[.agg (cN a (.slice A f.len c))] w (Ans9 (.bool false) w) := by
 have HB0 : Hid (Below w.heap.size w ((w.alloc (.cells (cN a (.slice A f.len c)) 42)).alloc (.cells #[.int .i64 a.kind, .int .u64 (a.num : Int), .string (txt a.text)] 39))) := hHd (bAl.alloc (by simp) _)
 have tn : (txt a.name).toList = a.name := txt_toList _
 have tk : (txt a.key).toList = a.key := txt_toList _
 have tt : (txt a.text).toList = a.text := txt_toList _
 have k1 : (a.kind == 0) = false := beq_eq_false_iff_ne.2 hk
 have k2 : (a.kind != 0) = true := by simp [hk]
 have n1 : ((a.num : Int) == 0) = false := by simp [hn]
 have n2 : ((a.num : Int) != 0) = true := by simp [hn]
 have n3 : (a.num == 0) = false := by simp [hn]
 have t1 : (a.text == []) = false := by cases e : a.text with | nil => exact absurd e ht | cons => rfl
 have t2 : a.text.isEmpty = false := by cases e : a.text with | nil => exact absurd e ht | cons => rfl
 clear hk hn ht
 go_enter Tryz.func27, Tryz.ntmps27
 go_wp2
 go_ret
 exact ⟨rfl, HB0.out⟩
theorem rnd_kids1 (a : NdD) (f : NdF) (A : Option Addr) (c : Nat) (w : World) (hk : a.kind ≠ 0) (k3 : ¬ a.kind < 0) (k4 : ¬ (255 : Int) < a.kind) (ht : a.text ≠ []) (hn : a.num = 0) (hl : 0 < f.len) :
  Calls Tryz.prog 27 #[.agg (cN a (.slice A f.len c))] w (Ans9 (.bool false) w) := by
 have HB0 : Hid (Below w.heap.size w ((w.alloc (.cells (cN a (.slice A f.len c)) 42)).alloc (.cells #[.int .i64 a.kind, .int .u64 (a.num : Int), .string (txt a.text)] 39))) := hHd (bAl.alloc (by simp) _)
 have tn : (txt a.name).toList = a.name := txt_toList _
 have tk : (txt a.key).toList = a.key := txt_toList _
 have tt : (txt a.text).toList = a.text := txt_toList _
 have k1 : (a.kind == 0) = false := beq_eq_false_iff_ne.2 hk
 have k2 : (a.kind != 0) = true := by simp [hk]
 have n1 : ((a.num : Int) == 0) = true := by simp [hn]
 have n2 : ((a.num : Int) != 0) = false := by simp [hn]
 have n3 : (a.num == 0) = true := by simp [hn]
 have t1 : (a.text == []) = false := by cases e : a.text with | nil => exact absurd e ht | cons => rfl
 have t2 : a.text.isEmpty = false := by cases e : a.text with | nil => exact absurd e ht | cons => rfl
 have l1 : (0 : Int) < (f.len : Int) := by omega
 clear hk hn ht
 go_enter Tryz.func27, Tryz.ntmps27
 go_wp2
 go_ret
 exact ⟨rfl, HB0.out⟩
theorem rnd_kids2 (a : NdD) (f : NdF) (A : Option Addr) (c : Nat) (w : World) (hk : a.kind ≠ 0) (k3 : ¬ a.kind < 0) (k4 : ¬ (255 : Int) < a.kind) (ht : a.text = []) (hl : 0 < f.len) :
  Calls Tryz.prog 27 #[.agg (cN a (.slice A f.len c))] w (Ans9 (.bool false) w) := by
 have HB0 : Hid (Below w.heap.size w ((w.alloc (.cells (cN a (.slice A f.len c)) 42)).alloc (.cells #[.int .i64 a.kind, .int .u64 (a.num : Int), .string (txt a.text)] 39))) := hHd (bAl.alloc (by simp) _)
 have tn : (txt a.name).toList = a.name := txt_toList _
 have tk : (txt a.key).toList = a.key := txt_toList _
 have tt : (txt a.text).toList = a.text := txt_toList _
 have k1 : (a.kind == 0) = false := beq_eq_false_iff_ne.2 hk
 have k2 : (a.kind != 0) = true := by simp [hk]
 have t1 : (a.text == []) = true := by rw [ht]; rfl
 have t2 : a.text.isEmpty = true := by rw [ht]; rfl
 have l1 : (0 : Int) < (f.len : Int) := by omega
 clear hk ht
 go_enter Tryz.func27, Tryz.ntmps27
 go_wp2
 go_ret
 exact ⟨rfl, HB0.out⟩
theorem rnd_leaf1 (a : NdD) (A : Option Addr) (c : Nat) (w : World) (hk : a.kind ≠ 0) (k3 : ¬ a.kind < 0) (k4 : ¬ (255 : Int) < a.kind) (ht : a.text ≠ []) (hn : a.num = 0) :
  Calls Tryz.prog 27 #[.agg (cN a (.slice A 0 c))] w (Ans9 (.bool true) w) := by
 have HB0 : Hid (Below w.heap.size w ((w.alloc (.cells (cN a (.slice A 0 c)) 42)).alloc (.cells #[.int .i64 a.kind, .int .u64 (a.num : Int), .string (txt a.text)] 39))) := hHd (bAl.alloc (by simp) _)
 have tn : (txt a.name).toList = a.name := txt_toList _
 have tk : (txt a.key).toList = a.key := txt_toList _
 have tt : (txt a.text).toList = a.text := txt_toList _
 have k1 : (a.kind == 0) = false := beq_eq_false_iff_ne.2 hk
 have k2 : (a.kind != 0) = true := by simp [hk]
 have n1 : ((a.num : Int) == 0) = true := by simp [hn]
 have n2 : ((a.num : Int) != 0) = false := by simp [hn]
 have n3 : (a.num == 0) = true := by simp [hn]
 have t1 : (a.text == []) = false := by cases e : a.text with | nil => exact absurd e ht | cons => rfl
 have t2 : a.text.isEmpty = false := by cases e : a.text with | nil => exact absurd e ht | cons => rfl
 clear hk hn ht
 go_enter Tryz.func27, Tryz.ntmps27
 go_wp2
 go_loopw [4] (fun i wr => i = .int .i64 0 ∧ wr = ((w.alloc (.cells (cN a (.slice A 0 c)) 42)).alloc (.cells #[.int .i64 a.kind, .int .u64 (a.num : Int), .string (txt a.text)] 39))) (fun _ _ => 0)
 case atStart => exact ⟨rfl, rfl⟩
 case round =>
  obtain ⟨rfl, rfl⟩ := hrel
  go_wp2
  go_ret
  exact ⟨rfl, HB0.out⟩
theorem rnd_leaf2 (a : NdD) (A : Option Addr) (c : Nat) (w : World) (hk : a.kind ≠ 0) (k3 : ¬ a.kind < 0) (k4 : ¬ (255 : Int) < a.kind) (ht : a.text = []) :
  Calls Tryz.prog 27 #[.agg (cN a (.slice A 0 c))] w (Ans9 (.bool true) w) := by
 have HB0 : Hid (Below w.heap.size w ((w.alloc (.cells (cN a (.slice A 0 c)) 42)).alloc (.cells #[.int .i64 a.kind, .int .u64 (a.num : Int), .string (txt a.text)] 39))) := hHd (bAl.alloc (by simp) _)
 have tn : (txt a.name).toList = a.name := txt_toList _
 have tk : (txt a.key).toList = a.key := txt_toList _
 have tt : (txt a.text).toList = a.text := txt_toList _
 have k1 : (a.kind == 0) = false := beq_eq_false_iff_ne.2 hk
 have k2 : (a.kind != 0) = true := by simp [hk]
 have t1 : (a.text == []) = true := by rw [ht]; rfl
 have t2 : a.text.isEmpty = true := by rw [ht]; rfl
 clear hk ht
 go_enter Tryz.func27, Tryz.ntmps27
 go_wp2
 go_loopw [4] (fun i wr => i = .int .i64 0 ∧ wr = ((w.alloc (.cells (cN a (.slice A 0 c)) 42)).alloc (.cells #[.int .i64 a.kind, .int .u64 (a.num : Int), .string (txt a.text)] 39))) (fun _ _ => 0)
 case atStart => exact ⟨rfl, rfl⟩
 case round =>
  obtain ⟨rfl, rfl⟩ := hrel
  go_wp2
  go_ret
  exact ⟨rfl, HB0.out⟩
theorem rnd_row (f : NdF) (hkids : ∀ n a k, f.get? n = some (a, k) → NodeP18 k) (nm ky : List UInt8) (A : Option Addr) (c : Nat) (w : World) (hk : RowT w.heap.size w (.slice A f.len c) f) (hsz : f.size ≤ 1000000) :
  Calls Tryz.prog 27 #[.agg #[.string (txt nm), .string (txt ky), .int .i64 0, .int .u64 0, .string (txt []), .slice A f.len c]] w (Ans9 (.bool (okF18 f)) w) := by
 have HB0 : Hid (Below w.heap.size w ((w.alloc (.cells #[.string (txt nm), .string (txt ky), .int .i64 0, .int .u64 0, .string (txt []), .slice A f.len c] 42)).alloc (.cells #[.int .i64 0, .int .u64 0, .string (txt [])] 39))) := hHd (bAl.alloc (by simp) _)
 have HP0 : Hid (Blk ((w.alloc (.cells #[.string (txt nm), .string (txt ky), .int .i64 0, .int .u64 0, .string (txt []), .slice A f.len c] 42)).alloc (.cells #[.int .i64 0, .int .u64 0, .string (txt [])] 39)) w.heap.size 42 #[.string (txt nm), .string (txt ky), .int .i64 0, .int .u64 0, .string (txt []), .slice A f.len c]) := hHd ((Blk.new _ _ _).alloc _)
 have HI := hHd hkids
 have HK : Hid (RowT w.heap.size w (.slice A f.len c) f) := hHd hk
 have HZ : Hid (f.size ≤ 1000000) := hHd hsz
 have tt : (txt []).toList = [] := txt_toList _
 clear hkids hk hsz
 go_enter Tryz.func27, Tryz.ntmps27
 go_wp2
 go_loopw [4] (fun i wr => ∃ j : Nat, j ≤ f.len ∧ i = .int .i64 (j : Int) ∧ Hid (∀ n, n < j → okAt18 f n = true) ∧ Hid (Blk wr w.heap.size 42 #[.string (txt nm), .string (txt ky), .int .i64 0, .int .u64 0, .string (txt []), .slice A f.len c]) ∧ Hid (Below w.heap.size w wr)) (fun i _ => f.len - (intOf i).toNat)
 case atStart => exact ⟨0, Nat.zero_le _, rfl, hHd (fun n h => by omega), HP0, HB0⟩
 case round =>
  clear HP0 HB0
  obtain ⟨j, hj, rfl, HL, HP, HBr⟩ := hrel
  have p5 : wr.cell? ⟨w.heap.size, 5, none⟩ = some (.slice A f.len c) := (HP.out.cell 5).trans rfl
  by_cases hlt : j < f.len
  ·obtain ⟨a1, q, hg⟩ := Fr.get_some hlt
   obtain ⟨b, o, A', c', rfl, -, -, hbl, hrow, hcl⟩ := HK.out.at hg
   have hcell : ∀ i u, (ndC a1 (.slice A' q.len c'))[i]? = some u → wr.cell? ⟨b, o + j * 6 + i, none⟩ = some u := fun i u hu => (HBr.out.cell (p := ⟨b, o + j * 6 + i, none⟩) hbl).trans (hcl i u hu)
   have q0 : (wr).cell? ⟨b, o + j * 6, none⟩ = _ := hcell 0 _ rfl
   have q1 : (wr).cell? ⟨b, o + j * 6 + 1, none⟩ = _ := hcell 1 _ rfl
   have q2 : (wr).cell? ⟨b, o + j * 6 + 2, none⟩ = _ := hcell 2 _ rfl
   have q3 : (wr).cell? ⟨b, o + j * 6 + 3, none⟩ = _ := hcell 3 _ rfl
   have q4 : (wr).cell? ⟨b, o + j * 6 + 4, none⟩ = _ := hcell 4 _ rfl
   have q5 : (wr).cell? ⟨b, o + j * 6 + 5, none⟩ = _ := hcell 5 _ rfl
   have i1 : (0 : Int) ≤ (j : Int) := by omega
   have i2 : (j : Int) < (f.len : Int) := by omega
   have i3 : (f.len : Int) ≤ 1000000 := by have := HZ.out; have := Fr.len_size f; omega
   obtain ⟨rb, hrb⟩ : ∃ z, z = okN18 (a1, q) := ⟨_, rfl⟩
   have HI1 : Hid (Calls Tryz.prog 27 #[.agg (cN a1 (.slice A' q.len c'))] wr (Ans9 (.bool rb) wr)) := hHd (by
    rw [hrb]; exact HI.out j a1 q hg a1 A' c' wr (hrow.under HBr.out (Nat.le_refl _) HBr.out.size) (by have := HZ.out; have := Fr.size_get hg; omega))
   have HOK : Hid (okAt18 f j = rb) := hHd (by unfold okAt18; rw [hg, hrb])
   clear hcl hg hrow hcell hrb hbl
   go_wp2_with fail
   refine HI1.out.mono ?_
   rintro r w2 ⟨rfl, hb⟩
   have HP2 := hHd (HP.out.below hb HP.out.lt)
   have HB2 := hHd (HBr.out.trans (hb.mono HBr.out.size))
   clear hb p5 q0 q1 q2 q3 q4 q5 HP HBr HI1
   cases rb with
   | false =>
    have HF : Hid (okF18 f = false) := hHd (okF_no hlt HOK.out)
    clear hlt
    go_wp2
    go_ret
    exact ⟨by rw [HF.out]; rfl, HB2.out⟩
   | true =>
    have HL2 : Hid (∀ n, n < j + 1 → okAt18 f n = true) := hHd (fun n hn => by rcases Nat.lt_succ_iff_lt_or_eq.1 hn with h | rfl; exact HL.out n h; exact HOK.out)
    go_wp2
    go_roundw
    case rel => exact ⟨j + 1, by omega, by go_num, HL2, HP2, HB2⟩
    case measure => simp [intOf]; omega
  ·have i2 : ¬ (j : Int) < (f.len : Int) := by omega
   have HF : Hid (okF18 f = true) := hHd (okF_at.2 (fun n hn => HL.out n (by omega)))
   clear HP
   go_wp2
   go_ret
   exact ⟨by rw [HF.out]; rfl, HBr.out⟩
theorem len_nil18 {f : NdF} (h : f.len = 0) : f = .nil := by cases f with | nil => rfl | cons => simp [Fr.len] at h
theorem rnodef_any (f : NdF) : NodeP18 f := by
 refine Fr.byKids (P := NodeP18) ?_ f
 clear f
 intro f hkids a A c w hk hsz
 by_cases h0 : a.kind = 0
 ·by_cases h1 : a.num = 0
  ·by_cases h2 : a.text = []
   ·have e : okN18 (a, f) = okF18 f := by unfold okN18 ndOk; simp [h0, h1, h2]
    rw [e]
    obtain ⟨nm, ky, kd, nu, tx⟩ := a
    simp only at h0 h1 h2
    subst h0 h1 h2
    exact rnd_row f hkids nm ky A c w hk hsz
   ·have e : okN18 (a, f) = false := by unfold okN18 ndOk; simp [h0, h1, h2]
    rw [e]; exact rnd_text a f A c w h0 h1 h2
  ·have e : okN18 (a, f) = false := by unfold okN18 ndOk; simp [h0, h1]
   rw [e]; exact rnd_num a f A c w h0 h1
 ·by_cases h3 : a.kind < 0
  ·have e : okN18 (a, f) = false := by
    rw [Bool.eq_false_iff]; intro h
    simp only [okN18, ndOk, Bool.and_eq_true, decide_eq_true_eq] at h
    have := h.1.1.1.1.2
    omega
   rw [e]; exact rnd_low a f A c w h3
  ·by_cases h4 : (255 : Int) < a.kind
   ·have e : okN18 (a, f) = false := by
     rw [Bool.eq_false_iff]; intro h
     simp only [okN18, ndOk, Bool.and_eq_true, decide_eq_true_eq] at h
     have := h.1.1.1.2
     omega
    rw [e]; exact rnd_high a f A c w h4
   ·have hd : ndOk a = decide (¬ (a.text ≠ [] ∧ a.num ≠ 0)) := by
     unfold ndOk
     rw [decide_eq_true (show ¬ (a.kind = 0 ∧ (a.num ≠ 0 ∨ a.text ≠ [])) from fun h => h0 h.1), decide_eq_true (show 0 ≤ a.kind by omega), decide_eq_true (show a.kind ≤ 255 by omega)]
     rfl
    by_cases h6 : f.len = 0
    ·have hf : f = .nil := len_nil18 h6
     subst hf
     by_cases h2 : a.text = []
     ·have e : okN18 (a, (.nil : NdF)) = true := by unfold okN18; rw [hd]; simp [h2, okF18]
      rw [e]; exact rnd_leaf2 a A c w h0 h3 h4 h2
     ·by_cases h1 : a.num = 0
      ·have e : okN18 (a, (.nil : NdF)) = true := by unfold okN18; rw [hd]; simp [h1, okF18]
       rw [e]; exact rnd_leaf1 a A c w h0 h3 h4 h2 h1
      ·have e : okN18 (a, (.nil : NdF)) = false := by unfold okN18; rw [hd]; simp [h1, h2]
       rw [e]; exact rnd_both a .nil A c w h0 h3 h4 h2 h1
    ·have e : okN18 (a, f) = false := by
      unfold okN18
      rw [decide_eq_false h0, decide_eq_false (show ¬ f = .nil from fun h => h6 (by rw [h]; rfl))]
      simp
     rw [e]
     by_cases h2 : a.text = []
     ·exact rnd_kids2 a f A c w h0 h3 h4 h2 (by omega)
     ·by_cases h1 : a.num = 0
      ·exact rnd_kids1 a f A c w h0 h3 h4 h2 h1 (by omega)
      ·exact rnd_both a f A c w h0 h3 h4 h2 h1
theorem rnode_any (x : Nd) (cs : List Value) (w : World) (hx : LieN w cs x) (hf : Few9 x) : Calls Tryz.prog 27 #[.agg cs.toArray] w (Ans9 (.bool (okN18 x)) w) := by
 obtain ⟨A, c, rfl, hk⟩ := hx.shape
 exact rnodef_any x.2 x.1 A c w hk hf
end
section
variable {α : Type} {D : RdOf α} {e : TypeId} {K p : Nat} {w w' : World} {base : Nat} {S S' N N' : Nat → Prop} {v : Value} {f g : Fr α}
theorem FrAt.take (n : Nat) : ∀ {f : Fr α} {b o : Nat}, FrAt D K p w S N f b o → FrAt D K p w S N (Fr.take n f) b o := by
 induction n with
 | zero => intro f b o h; cases f <;> trivial
 | succ n ih =>
  intro f b o h
  cases f with
  | nil => trivial
  | cons a k r => exact ⟨h.1, ih h.2⟩
theorem FrV.front {A : Option Addr} {L c n : Nat} (hn : n ≤ f.len) (h : FrV D K p w S N (.slice A L c) f) : FrV D K p w S N (.slice A n c) (Fr.take n f) := by
 obtain ⟨A', c', e, h1, h2⟩ := h
 injection e with e1 e2 e3
 subst e1 e2 e3
 have hl := Fr.len_take n f hn
 refine ⟨A, c, by rw [hl], by omega, fun h0 => ?_⟩
 obtain ⟨b, o, h3, h4, h5⟩ := h2 (by omega)
 exact ⟨b, o, h3, h4, h5.take n⟩
theorem FrV.back {b o L c n : Nat} (hn : n ≤ f.len) (h : FrV D K p w S N (.slice (some ⟨b, o, none⟩) L c) f) : FrV D K p w S N (.slice (some ⟨b, o + n * K, none⟩) (f.len - n) (c - n)) (Fr.drop n f) := by
 obtain ⟨A', c', e, h1, h2⟩ := h
 injection e with e1 e2 e3
 subst e2 e3
 have hl := Fr.len_drop n f
 refine ⟨_, _, by rw [hl], by omega, fun h0 => ?_⟩
 obtain ⟨b', o', h3, h4, h5⟩ := h2 (by omega)
 rw [← e1] at h3
 injection h3 with h3
 injection h3 with e4 e5 _
 subst e4 e5
 exact ⟨b, _, rfl, h4, h5.drop n⟩
theorem FrV.none_ (A : Option Addr) (c : Nat) : FrV D K p w S N (.slice A 0 c) (.nil : Fr α) := ⟨A, c, rfl, Nat.zero_le _, fun h => absurd h (by simp [Fr.len])⟩
def AppGs (D : RdOf α) (e : TypeId) (K p : Nat) (base : Nat) (S N : Nat → Prop) (w : World) (v : Value) (f : Fr α) (v' : Value) (w' : World) : Prop :=
 OwnG D e K p w' base S N v' f ∧ w.grownBy w' v.ownBlock ∧ (v'.ownBlock = v.ownBlock ∨ v'.ownBlock = some w.heap.size)
theorem AppGs.below {v' : Value} {g : Fr α} (h : AppGs D e K p base S N w v g v' w') (hown : OwnG D e K p w base S N v f) (hb : base ≤ w.heap.size) : Below base w w' :=
 (Below.refl _ _).grown h.2.1 hb fun b e => (hown.lt b e).1
end
end Go.Proofs.YtleidkpdpabkpaaGreatDoor
