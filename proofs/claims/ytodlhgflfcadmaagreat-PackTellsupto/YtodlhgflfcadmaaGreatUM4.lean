/- VlrA VadOk VadOpen -/
import Derived.Test.YtodlhgflfcadmaaGreatUM3
set_option linter.unusedSimpArgs false
set_option linter.unusedVariables false
set_option maxRecDepth 100000
set_option maxHeartbeats 8000000
namespace Go.Proofs.YtodlhgflfcadmaaGreat
open Go.RowKit
abbrev vC (v : Vl) : List Value := [.int .i64 v.kind, .int .u64 (v.num : Int), .string (txt v.text)]
def VlOk (v : Vl) : Prop := -9223372036854775808 ≤ v.kind ∧ v.kind ≤ 9223372036854775807 ∧ v.num < 18446744073709551616 ∧ v.text.length ≤ 1048576
theorem rwhich_any (l : List (List UInt8)) (s : List UInt8) (d : Nat) (A : Option Addr) (c : Nat) (w : World) (hv : Vals w d (.slice A l.length c) (txts l)) (hl : l.length ≤ 1000000) :
  Calls Tryz.prog 80 #[.slice A l.length c, .string (txt s)] w (fun r w' => r = .returned (.int .i64 (whichI l s)) ∧ w = w') := by
 have HV := hHd hv
 have ts : (txt s).toList = s := txt_toList s
 clear hv
 go_enter Tryz.func80, Tryz.ntmps80
 go_wp2
 go_loop [5] (fun i => ∃ k : Nat, k ≤ l.length ∧ i = .int .i64 (k : Int) ∧ Hid (∀ (j : Nat) (y : List UInt8), j < k → l[j]? = some y → y ≠ s)) (fun i => l.length - (intOf i).toNat)
 case atStart => exact ⟨0, Nat.zero_le _, rfl, hHd (fun j y h => by omega)⟩
 case round =>
  obtain ⟨k, hk, rfl, HL⟩ := hrel
  by_cases hlt : k < l.length
  ·obtain ⟨n, hn⟩ : ∃ n, l[k]? = some n := ⟨_, List.getElem?_eq_getElem hlt⟩
   obtain ⟨o, rfl, -, -, -, hcn⟩ := HV.out.at (txts_at hn)
   have i1 : (0 : Int) ≤ (k : Int) := by omega
   have i2 : (k : Int) < (l.length : Int) := by omega
   have tn : (txt n).toList = n := txt_toList n
   have HG := hHd hn
   clear hn
   by_cases e : n = s
   ·have h1 : (n == s) = true := beq_iff_eq.2 e
    have HF : Hid (whichI l s = (k : Int)) := hHd (by unfold whichI; rw [which_is (e ▸ HG.out) HL.out])
    clear e
    go_wp2
    go_ret
    exact ⟨by rw [HF.out]; rfl, rfl⟩
   ·have h1 : (n == s) = false := beq_eq_false_iff_ne.2 e
    have HL2 : Hid (∀ (j : Nat) (y : List UInt8), j < k + 1 → l[j]? = some y → y ≠ s) := hHd (fun j y hj hy => by
     by_cases ej : j = k
     ·subst ej; rw [HG.out] at hy; injection hy with hy; subst hy; exact e
     ·exact HL.out j y (by omega) hy)
    clear e
    go_wp2
    go_round
    case rel => exact ⟨k + 1, by omega, by go_num, HL2⟩
    case measure => simp [intOf]; omega
  ·have HF : Hid (whichI l s = -1) := hHd (by unfold whichI; rw [which_no (fun j y hy => HL.out j y (by have := (List.getElem?_eq_some_iff.1 hy).1; omega) hy)])
   have i2 : ¬ (k : Int) < (l.length : Int) := by omega
   go_wp2
   go_ret
   exact ⟨by rw [HF.out]; rfl, rfl⟩
theorem rright_kind (nm : List UInt8) (kd ty lo hi : Nat) (ns : List (List UInt8)) (mu : Bool) (mo : Nat) (vk : Int) (vn : Nat) (vt : List UInt8) (B : Option Addr) (L m d : Nat) (A : Option Addr) (K c : Nat) (w : World) (hv : Vals w d (.slice B ns.length m) (txts ns)) (hL : ns.length = L) (hn : L ≤ 1000000) (hok : VlOk ⟨vk, vn, vt⟩) (hkd : kd ≠ 1) :
  Calls Tryz.prog 77 #[.agg (cS (txt nm) kd ty lo hi (.slice B L m) mu mo (.slice A K c)), .agg #[.int .i64 vk, .int .u64 (vn : Int), .string (txt vt)]] w (AnsP (.bool false) w) := by
 have HB : Hid (Below w.heap.size w ((w.alloc (.cells (cS (txt nm) kd ty lo hi (.slice B L m) mu mo (.slice A K c)) 67)).alloc (.cells #[.int .i64 vk, .int .u64 (vn : Int), .string (txt vt)] 24))) := hHd (bAl.alloc (by simp) _)
 have k1 : ((kd : Int) == 1) = false := beq_eq_false_iff_ne.2 (by omega)
 have k1' : ((kd : Int) != 1) = true := by unfold bne; rw [k1]; rfl
 clear hv hok hkd hn hL
 go_enter Tryz.func77, Tryz.ntmps77
 go_wp2
 go_ret
 exact ⟨rfl, HB.out⟩
theorem rright_vkind (nm : List UInt8) (kd ty lo hi : Nat) (ns : List (List UInt8)) (mu : Bool) (mo : Nat) (vk : Int) (vn : Nat) (vt : List UInt8) (B : Option Addr) (L m d : Nat) (A : Option Addr) (K c : Nat) (w : World) (hv : Vals w d (.slice B ns.length m) (txts ns)) (hL : ns.length = L) (hn : L ≤ 1000000) (hok : VlOk ⟨vk, vn, vt⟩) (hkd : kd = 1) (hvk : vk ≠ (ty : Int)) :
  Calls Tryz.prog 77 #[.agg (cS (txt nm) kd ty lo hi (.slice B L m) mu mo (.slice A K c)), .agg #[.int .i64 vk, .int .u64 (vn : Int), .string (txt vt)]] w (AnsP (.bool false) w) := by
 have HB : Hid (Below w.heap.size w ((w.alloc (.cells (cS (txt nm) kd ty lo hi (.slice B L m) mu mo (.slice A K c)) 67)).alloc (.cells #[.int .i64 vk, .int .u64 (vn : Int), .string (txt vt)] 24))) := hHd (bAl.alloc (by simp) _)
 have k1 : ((kd : Int) == 1) = true := by rw [hkd]; rfl
 have k1' : ((kd : Int) != 1) = false := by rw [hkd]; rfl
 have v1 : (vk == (ty : Int)) = false := beq_eq_false_iff_ne.2 hvk
 have v1' : (vk != (ty : Int)) = true := by unfold bne; rw [v1]; rfl
 clear hv hok hkd hvk hn hL
 go_enter Tryz.func77, Tryz.ntmps77
 go_wp2
 go_ret
 exact ⟨rfl, HB.out⟩
theorem rright_low (nm : List UInt8) (kd ty lo hi : Nat) (ns : List (List UInt8)) (mu : Bool) (mo : Nat) (vk : Int) (vn : Nat) (vt : List UInt8) (B : Option Addr) (L m d : Nat) (A : Option Addr) (K c : Nat) (w : World) (hv : Vals w d (.slice B ns.length m) (txts ns)) (hL : ns.length = L) (hn : L ≤ 1000000) (hok : VlOk ⟨vk, vn, vt⟩) (hkd : kd = 1) (hvk : vk = (ty : Int)) (hty : ty = 1 ∨ ty = 2) (h : vn < lo) :
  Calls Tryz.prog 77 #[.agg (cS (txt nm) kd ty lo hi (.slice B L m) mu mo (.slice A K c)), .agg #[.int .i64 vk, .int .u64 (vn : Int), .string (txt vt)]] w (AnsP (.bool false) w) := by
 have HB : Hid (Below w.heap.size w ((w.alloc (.cells (cS (txt nm) kd ty lo hi (.slice B L m) mu mo (.slice A K c)) 67)).alloc (.cells #[.int .i64 vk, .int .u64 (vn : Int), .string (txt vt)] 24))) := hHd (bAl.alloc (by simp) _)
 rcases hty with rfl | rfl
 all_goals
  obtain rfl := hvk
  obtain rfl := hkd
  obtain ⟨-, -, o3, -⟩ := hok
  clear hv hn hL
  have h1 : ¬ (lo : Int) ≤ (vn : Int) := by omega
  have h2 : decide (lo ≤ vn) = false := decide_eq_false (by omega)
  go_enter Tryz.func77, Tryz.ntmps77
  go_wp2
  go_ret
  exact ⟨rfl, HB.out⟩
theorem rright_high (nm : List UInt8) (kd ty lo hi : Nat) (ns : List (List UInt8)) (mu : Bool) (mo : Nat) (vk : Int) (vn : Nat) (vt : List UInt8) (B : Option Addr) (L m d : Nat) (A : Option Addr) (K c : Nat) (w : World) (hv : Vals w d (.slice B ns.length m) (txts ns)) (hL : ns.length = L) (hn : L ≤ 1000000) (hok : VlOk ⟨vk, vn, vt⟩) (hkd : kd = 1) (hvk : vk = (ty : Int)) (hty : ty = 1 ∨ ty = 2) (h : lo ≤ vn) (h' : hi < vn) :
  Calls Tryz.prog 77 #[.agg (cS (txt nm) kd ty lo hi (.slice B L m) mu mo (.slice A K c)), .agg #[.int .i64 vk, .int .u64 (vn : Int), .string (txt vt)]] w (AnsP (.bool false) w) := by
 have HB : Hid (Below w.heap.size w ((w.alloc (.cells (cS (txt nm) kd ty lo hi (.slice B L m) mu mo (.slice A K c)) 67)).alloc (.cells #[.int .i64 vk, .int .u64 (vn : Int), .string (txt vt)] 24))) := hHd (bAl.alloc (by simp) _)
 rcases hty with rfl | rfl
 all_goals
  obtain rfl := hvk
  obtain rfl := hkd
  obtain ⟨-, -, o3, -⟩ := hok
  clear hv hn hL
  have h1 : (lo : Int) ≤ (vn : Int) := by omega
  have h2 : decide (lo ≤ vn) = true := decide_eq_true (by omega)
  have h3 : ¬ (vn : Int) ≤ (hi : Int) := by omega
  have h4 : decide (vn ≤ hi) = false := decide_eq_false (by omega)
  go_enter Tryz.func77, Tryz.ntmps77
  go_wp2
  go_ret
  exact ⟨rfl, HB.out⟩
theorem rright_ntext (nm : List UInt8) (kd ty lo hi : Nat) (ns : List (List UInt8)) (mu : Bool) (mo : Nat) (vk : Int) (vn : Nat) (vt : List UInt8) (B : Option Addr) (L m d : Nat) (A : Option Addr) (K c : Nat) (w : World) (hv : Vals w d (.slice B ns.length m) (txts ns)) (hL : ns.length = L) (hn : L ≤ 1000000) (hok : VlOk ⟨vk, vn, vt⟩) (hkd : kd = 1) (hvk : vk = (ty : Int)) (hty : ty = 1 ∨ ty = 2) (h : lo ≤ vn) (h' : vn ≤ hi) (ht : vt ≠ []) :
  Calls Tryz.prog 77 #[.agg (cS (txt nm) kd ty lo hi (.slice B L m) mu mo (.slice A K c)), .agg #[.int .i64 vk, .int .u64 (vn : Int), .string (txt vt)]] w (AnsP (.bool false) w) := by
 have HB : Hid (Below w.heap.size w ((w.alloc (.cells (cS (txt nm) kd ty lo hi (.slice B L m) mu mo (.slice A K c)) 67)).alloc (.cells #[.int .i64 vk, .int .u64 (vn : Int), .string (txt vt)] 24))) := hHd (bAl.alloc (by simp) _)
 rcases hty with rfl | rfl
 all_goals
  obtain rfl := hvk
  obtain rfl := hkd
  obtain ⟨-, -, o3, -⟩ := hok
  clear hv hn hL
  have h1 : (lo : Int) ≤ (vn : Int) := by omega
  have h2 : decide (lo ≤ vn) = true := decide_eq_true (by omega)
  have h3 : (vn : Int) ≤ (hi : Int) := by omega
  have h4 : decide (vn ≤ hi) = true := decide_eq_true (by omega)
  have h5 : (txt vt).toList.isEmpty = false := by rw [txt_toList]; simpa using ht
  have h6 : (vt == []) = false := beq_eq_false_iff_ne.2 ht
  have tt : (txt vt).toList = vt := txt_toList vt
  clear ht
  go_enter Tryz.func77, Tryz.ntmps77
  go_wp2
  go_ret
  exact ⟨rfl, HB.out⟩
theorem rright_num (nm : List UInt8) (kd ty lo hi : Nat) (ns : List (List UInt8)) (mu : Bool) (mo : Nat) (vk : Int) (vn : Nat) (vt : List UInt8) (B : Option Addr) (L m d : Nat) (A : Option Addr) (K c : Nat) (w : World) (hv : Vals w d (.slice B ns.length m) (txts ns)) (hL : ns.length = L) (hn : L ≤ 1000000) (hok : VlOk ⟨vk, vn, vt⟩) (hkd : kd = 1) (hvk : vk = (ty : Int)) (hty : ty = 1 ∨ ty = 2) (h : lo ≤ vn) (h' : vn ≤ hi) (ht : vt = []) :
  Calls Tryz.prog 77 #[.agg (cS (txt nm) kd ty lo hi (.slice B L m) mu mo (.slice A K c)), .agg #[.int .i64 vk, .int .u64 (vn : Int), .string (txt vt)]] w (AnsP (.bool true) w) := by
 have HB : Hid (Below w.heap.size w ((w.alloc (.cells (cS (txt nm) kd ty lo hi (.slice B L m) mu mo (.slice A K c)) 67)).alloc (.cells #[.int .i64 vk, .int .u64 (vn : Int), .string (txt vt)] 24))) := hHd (bAl.alloc (by simp) _)
 rcases hty with rfl | rfl
 all_goals
  obtain rfl := hvk
  obtain rfl := hkd
  obtain ⟨-, -, o3, -⟩ := hok
  clear hv hn hL
  have h1 : (lo : Int) ≤ (vn : Int) := by omega
  have h2 : decide (lo ≤ vn) = true := decide_eq_true (by omega)
  have h3 : (vn : Int) ≤ (hi : Int) := by omega
  have h4 : decide (vn ≤ hi) = true := decide_eq_true (by omega)
  have h5 : (txt vt).toList.isEmpty = true := by rw [ht, txt_toList]; rfl
  have h5b : (!(txt vt).toList.isEmpty) = false := by rw [h5]; rfl
  have h6 : (vt == []) = true := by rw [ht]; rfl
  have tt : (txt vt).toList = vt := txt_toList vt
  clear ht
  go_enter Tryz.func77, Tryz.ntmps77
  go_wp2
  go_ret
  exact ⟨rfl, HB.out⟩
theorem rright_big (nm : List UInt8) (kd ty lo hi : Nat) (ns : List (List UInt8)) (mu : Bool) (mo : Nat) (vk : Int) (vn : Nat) (vt : List UInt8) (B : Option Addr) (L m d : Nat) (A : Option Addr) (K c : Nat) (w : World) (hv : Vals w d (.slice B ns.length m) (txts ns)) (hL : ns.length = L) (hn : L ≤ 1000000) (hok : VlOk ⟨vk, vn, vt⟩) (hkd : kd = 1) (hvk : vk = (ty : Int)) (hty : ty = 3) (h : 2 ≤ vn) :
  Calls Tryz.prog 77 #[.agg (cS (txt nm) kd ty lo hi (.slice B L m) mu mo (.slice A K c)), .agg #[.int .i64 vk, .int .u64 (vn : Int), .string (txt vt)]] w (AnsP (.bool false) w) := by
 have HB : Hid (Below w.heap.size w ((w.alloc (.cells (cS (txt nm) kd ty lo hi (.slice B L m) mu mo (.slice A K c)) 67)).alloc (.cells #[.int .i64 vk, .int .u64 (vn : Int), .string (txt vt)] 24))) := hHd (bAl.alloc (by simp) _)
 subst hty
 obtain rfl := hvk
 obtain rfl := hkd
 clear hv hn hL hok
 have h1 : ¬ (vn : Int) < 2 := by omega
 go_enter Tryz.func77, Tryz.ntmps77
 go_wp2
 go_ret
 exact ⟨rfl, HB.out⟩
theorem rright_btext (nm : List UInt8) (kd ty lo hi : Nat) (ns : List (List UInt8)) (mu : Bool) (mo : Nat) (vk : Int) (vn : Nat) (vt : List UInt8) (B : Option Addr) (L m d : Nat) (A : Option Addr) (K c : Nat) (w : World) (hv : Vals w d (.slice B ns.length m) (txts ns)) (hL : ns.length = L) (hn : L ≤ 1000000) (hok : VlOk ⟨vk, vn, vt⟩) (hkd : kd = 1) (hvk : vk = (ty : Int)) (hty : ty = 3) (h : vn < 2) (ht : vt ≠ []) :
  Calls Tryz.prog 77 #[.agg (cS (txt nm) kd ty lo hi (.slice B L m) mu mo (.slice A K c)), .agg #[.int .i64 vk, .int .u64 (vn : Int), .string (txt vt)]] w (AnsP (.bool false) w) := by
 have HB : Hid (Below w.heap.size w ((w.alloc (.cells (cS (txt nm) kd ty lo hi (.slice B L m) mu mo (.slice A K c)) 67)).alloc (.cells #[.int .i64 vk, .int .u64 (vn : Int), .string (txt vt)] 24))) := hHd (bAl.alloc (by simp) _)
 subst hty
 obtain rfl := hvk
 obtain rfl := hkd
 clear hv hn hL hok
 have h1 : (vn : Int) < 2 := by omega
 have h5 : (txt vt).toList.isEmpty = false := by rw [txt_toList]; simpa using ht
 have h6 : (vt == []) = false := beq_eq_false_iff_ne.2 ht
 have tt : (txt vt).toList = vt := txt_toList vt
 clear ht
 go_enter Tryz.func77, Tryz.ntmps77
 go_wp2
 go_ret
 exact ⟨rfl, HB.out⟩
theorem rright_bool (nm : List UInt8) (kd ty lo hi : Nat) (ns : List (List UInt8)) (mu : Bool) (mo : Nat) (vk : Int) (vn : Nat) (vt : List UInt8) (B : Option Addr) (L m d : Nat) (A : Option Addr) (K c : Nat) (w : World) (hv : Vals w d (.slice B ns.length m) (txts ns)) (hL : ns.length = L) (hn : L ≤ 1000000) (hok : VlOk ⟨vk, vn, vt⟩) (hkd : kd = 1) (hvk : vk = (ty : Int)) (hty : ty = 3) (h : vn < 2) (ht : vt = []) :
  Calls Tryz.prog 77 #[.agg (cS (txt nm) kd ty lo hi (.slice B L m) mu mo (.slice A K c)), .agg #[.int .i64 vk, .int .u64 (vn : Int), .string (txt vt)]] w (AnsP (.bool true) w) := by
 have HB : Hid (Below w.heap.size w ((w.alloc (.cells (cS (txt nm) kd ty lo hi (.slice B L m) mu mo (.slice A K c)) 67)).alloc (.cells #[.int .i64 vk, .int .u64 (vn : Int), .string (txt vt)] 24))) := hHd (bAl.alloc (by simp) _)
 subst hty
 obtain rfl := hvk
 obtain rfl := hkd
 clear hv hn hL hok
 have h1 : (vn : Int) < 2 := by omega
 have h5 : (txt vt).toList.isEmpty = true := by rw [ht, txt_toList]; rfl
 have h5b : (!(txt vt).toList.isEmpty) = false := by rw [h5]; rfl
 have h6 : (vt == []) = true := by rw [ht]; rfl
 have tt : (txt vt).toList = vt := txt_toList vt
 clear ht
 go_enter Tryz.func77, Tryz.ntmps77
 go_wp2
 go_ret
 exact ⟨rfl, HB.out⟩
theorem rright_enone (nm : List UInt8) (kd ty lo hi : Nat) (ns : List (List UInt8)) (mu : Bool) (mo : Nat) (vk : Int) (vn : Nat) (vt : List UInt8) (B : Option Addr) (L m d : Nat) (A : Option Addr) (K c : Nat) (w : World) (hv : Vals w d (.slice B ns.length m) (txts ns)) (hL : ns.length = L) (hn : L ≤ 1000000) (hok : VlOk ⟨vk, vn, vt⟩) (hkd : kd = 1) (hvk : vk = (ty : Int)) (hty : ty = 4) (h : whichX ns vt = none) :
  Calls Tryz.prog 77 #[.agg (cS (txt nm) kd ty lo hi (.slice B L m) mu mo (.slice A K c)), .agg #[.int .i64 vk, .int .u64 (vn : Int), .string (txt vt)]] w (AnsP (.bool false) w) := by
 have HB : Hid (Below w.heap.size w ((w.alloc (.cells (cS (txt nm) kd ty lo hi (.slice B L m) mu mo (.slice A K c)) 67)).alloc (.cells #[.int .i64 vk, .int .u64 (vn : Int), .string (txt vt)] 24))) := hHd (bAl.alloc (by simp) _)
 subst hty
 obtain rfl := hvk
 obtain rfl := hkd
 have HC : Hid (∀ W, Below w.heap.size w W → Calls Tryz.prog 80 #[.slice B L m, .string (txt vt)] W (fun r w' => r = .returned (.int .i64 (whichI ns vt)) ∧ W = w')) := hHd (fun W hW => by
  have h := rwhich_any ns vt d B m W (hv.heap (fun h0 => hW.block d (by obtain ⟨A', c', _, _, h2⟩ := hv; exact (h2 h0).1))) (by omega)
  rw [hL] at h
  exact h)
 have HE : Hid (whichI ns vt = -1) := hHd (by unfold whichI; rw [h])
 clear hv hn hL hok h
 go_enter Tryz.func77, Tryz.ntmps77
 go_wp2_with fail
 refine (HC.out _ HB.out).mono ?_
 rintro r w2 ⟨rfl, rfl⟩
 rw [HE.out]
 go_wp2
 go_ret
 exact ⟨rfl, HB.out⟩
theorem rright_enum (nm : List UInt8) (kd ty lo hi : Nat) (ns : List (List UInt8)) (mu : Bool) (mo : Nat) (vk : Int) (vn : Nat) (vt : List UInt8) (B : Option Addr) (L m d : Nat) (A : Option Addr) (K c : Nat) (w : World) (hv : Vals w d (.slice B ns.length m) (txts ns)) (hL : ns.length = L) (hn : L ≤ 1000000) (hok : VlOk ⟨vk, vn, vt⟩) (hkd : kd = 1) (hvk : vk = (ty : Int)) (hty : ty = 4) (i : Nat) (h : whichX ns vt = some i) (hz : vn = 0) :
  Calls Tryz.prog 77 #[.agg (cS (txt nm) kd ty lo hi (.slice B L m) mu mo (.slice A K c)), .agg #[.int .i64 vk, .int .u64 (vn : Int), .string (txt vt)]] w (AnsP (.bool true) w) := by
 have HB : Hid (Below w.heap.size w ((w.alloc (.cells (cS (txt nm) kd ty lo hi (.slice B L m) mu mo (.slice A K c)) 67)).alloc (.cells #[.int .i64 vk, .int .u64 (vn : Int), .string (txt vt)] 24))) := hHd (bAl.alloc (by simp) _)
 subst hty
 obtain rfl := hvk
 obtain rfl := hkd
 have HC : Hid (∀ W, Below w.heap.size w W → Calls Tryz.prog 80 #[.slice B L m, .string (txt vt)] W (fun r w' => r = .returned (.int .i64 (whichI ns vt)) ∧ W = w')) := hHd (fun W hW => by
  have h := rwhich_any ns vt d B m W (hv.heap (fun h0 => hW.block d (by obtain ⟨A', c', _, _, h2⟩ := hv; exact (h2 h0).1))) (by omega)
  rw [hL] at h
  exact h)
 have HE : Hid (whichI ns vt = (i : Int)) := hHd (by unfold whichI; rw [h])
 clear hv hn hL hok h
 subst hz
 have i1 : (0 : Int) ≤ (i : Int) := by omega
 go_enter Tryz.func77, Tryz.ntmps77
 go_wp2_with fail
 refine (HC.out _ HB.out).mono ?_
 rintro r w2 ⟨rfl, rfl⟩
 rw [HE.out]
 go_wp2
 go_ret
 exact ⟨rfl, HB.out⟩
theorem rright_enumN (nm : List UInt8) (kd ty lo hi : Nat) (ns : List (List UInt8)) (mu : Bool) (mo : Nat) (vk : Int) (vn : Nat) (vt : List UInt8) (B : Option Addr) (L m d : Nat) (A : Option Addr) (K c : Nat) (w : World) (hv : Vals w d (.slice B ns.length m) (txts ns)) (hL : ns.length = L) (hn : L ≤ 1000000) (hok : VlOk ⟨vk, vn, vt⟩) (hkd : kd = 1) (hvk : vk = (ty : Int)) (hty : ty = 4) (i : Nat) (h : whichX ns vt = some i) (hz : vn ≠ 0) :
  Calls Tryz.prog 77 #[.agg (cS (txt nm) kd ty lo hi (.slice B L m) mu mo (.slice A K c)), .agg #[.int .i64 vk, .int .u64 (vn : Int), .string (txt vt)]] w (AnsP (.bool false) w) := by
 have HB : Hid (Below w.heap.size w ((w.alloc (.cells (cS (txt nm) kd ty lo hi (.slice B L m) mu mo (.slice A K c)) 67)).alloc (.cells #[.int .i64 vk, .int .u64 (vn : Int), .string (txt vt)] 24))) := hHd (bAl.alloc (by simp) _)
 subst hty
 obtain rfl := hvk
 obtain rfl := hkd
 have HC : Hid (∀ W, Below w.heap.size w W → Calls Tryz.prog 80 #[.slice B L m, .string (txt vt)] W (fun r w' => r = .returned (.int .i64 (whichI ns vt)) ∧ W = w')) := hHd (fun W hW => by
  have h := rwhich_any ns vt d B m W (hv.heap (fun h0 => hW.block d (by obtain ⟨A', c', _, _, h2⟩ := hv; exact (h2 h0).1))) (by omega)
  rw [hL] at h
  exact h)
 have HE : Hid (whichI ns vt = (i : Int)) := hHd (by unfold whichI; rw [h])
 have z1 : ((vn : Int) == 0) = false := beq_eq_false_iff_ne.2 (by omega)
 clear hv hn hL hok h hz
 have i1 : (0 : Int) ≤ (i : Int) := by omega
 go_enter Tryz.func77, Tryz.ntmps77
 go_wp2_with fail
 refine (HC.out _ HB.out).mono ?_
 rintro r w2 ⟨rfl, rfl⟩
 rw [HE.out]
 go_wp2
 go_ret
 exact ⟨rfl, HB.out⟩
theorem rright_idno (nm : List UInt8) (kd ty lo hi : Nat) (ns : List (List UInt8)) (mu : Bool) (mo : Nat) (vk : Int) (vn : Nat) (vt : List UInt8) (B : Option Addr) (L m d : Nat) (A : Option Addr) (K c : Nat) (w : World) (hv : Vals w d (.slice B ns.length m) (txts ns)) (hL : ns.length = L) (hn : L ≤ 1000000) (hok : VlOk ⟨vk, vn, vt⟩) (hkd : kd = 1) (hvk : vk = (ty : Int)) (hty : ty = 5 ∨ ty = 6) (h : identX vt = false)  :
  Calls Tryz.prog 77 #[.agg (cS (txt nm) kd ty lo hi (.slice B L m) mu mo (.slice A K c)), .agg #[.int .i64 vk, .int .u64 (vn : Int), .string (txt vt)]] w (AnsP (.bool false) w) := by
 have HB : Hid (Below w.heap.size w ((w.alloc (.cells (cS (txt nm) kd ty lo hi (.slice B L m) mu mo (.slice A K c)) 67)).alloc (.cells #[.int .i64 vk, .int .u64 (vn : Int), .string (txt vt)] 24))) := hHd (bAl.alloc (by simp) _)
 rcases hty with rfl | rfl
 all_goals
  obtain rfl := hvk
  obtain rfl := hkd
  have HC : Hid (∀ W, Calls Tryz.prog 93 #[.string (txt vt)] W (fun r w' => r = .returned (.bool false) ∧ W = w')) := hHd (fun W => by have h2 := rident_any vt (by have := hok.2.2.2; simp only at this; omega) W; unfold RIdentP at h2; rw [h] at h2; exact h2)
  clear hv hn hL hok h
  go_enter Tryz.func77, Tryz.ntmps77
  go_wp2_with fail
  refine (HC.out _).mono ?_
  rintro r w2 ⟨rfl, rfl⟩
  go_wp2
  go_ret
  exact ⟨rfl, HB.out⟩
theorem rright_ident (nm : List UInt8) (kd ty lo hi : Nat) (ns : List (List UInt8)) (mu : Bool) (mo : Nat) (vk : Int) (vn : Nat) (vt : List UInt8) (B : Option Addr) (L m d : Nat) (A : Option Addr) (K c : Nat) (w : World) (hv : Vals w d (.slice B ns.length m) (txts ns)) (hL : ns.length = L) (hn : L ≤ 1000000) (hok : VlOk ⟨vk, vn, vt⟩) (hkd : kd = 1) (hvk : vk = (ty : Int)) (hty : ty = 5 ∨ ty = 6) (h : identX vt = true) (hz : vn = 0) :
  Calls Tryz.prog 77 #[.agg (cS (txt nm) kd ty lo hi (.slice B L m) mu mo (.slice A K c)), .agg #[.int .i64 vk, .int .u64 (vn : Int), .string (txt vt)]] w (AnsP (.bool true) w) := by
 have HB : Hid (Below w.heap.size w ((w.alloc (.cells (cS (txt nm) kd ty lo hi (.slice B L m) mu mo (.slice A K c)) 67)).alloc (.cells #[.int .i64 vk, .int .u64 (vn : Int), .string (txt vt)] 24))) := hHd (bAl.alloc (by simp) _)
 rcases hty with rfl | rfl
 all_goals
  obtain rfl := hvk
  obtain rfl := hkd
  have HC : Hid (∀ W, Calls Tryz.prog 93 #[.string (txt vt)] W (fun r w' => r = .returned (.bool true) ∧ W = w')) := hHd (fun W => by have h2 := rident_any vt (by have := hok.2.2.2; simp only at this; omega) W; unfold RIdentP at h2; rw [h] at h2; exact h2)
  clear hv hn hL hok h
  subst hz
  go_enter Tryz.func77, Tryz.ntmps77
  go_wp2_with fail
  refine (HC.out _).mono ?_
  rintro r w2 ⟨rfl, rfl⟩
  go_wp2
  go_ret
  exact ⟨rfl, HB.out⟩
theorem rright_identN (nm : List UInt8) (kd ty lo hi : Nat) (ns : List (List UInt8)) (mu : Bool) (mo : Nat) (vk : Int) (vn : Nat) (vt : List UInt8) (B : Option Addr) (L m d : Nat) (A : Option Addr) (K c : Nat) (w : World) (hv : Vals w d (.slice B ns.length m) (txts ns)) (hL : ns.length = L) (hn : L ≤ 1000000) (hok : VlOk ⟨vk, vn, vt⟩) (hkd : kd = 1) (hvk : vk = (ty : Int)) (hty : ty = 5 ∨ ty = 6) (h : identX vt = true) (hz : vn ≠ 0) :
  Calls Tryz.prog 77 #[.agg (cS (txt nm) kd ty lo hi (.slice B L m) mu mo (.slice A K c)), .agg #[.int .i64 vk, .int .u64 (vn : Int), .string (txt vt)]] w (AnsP (.bool false) w) := by
 have HB : Hid (Below w.heap.size w ((w.alloc (.cells (cS (txt nm) kd ty lo hi (.slice B L m) mu mo (.slice A K c)) 67)).alloc (.cells #[.int .i64 vk, .int .u64 (vn : Int), .string (txt vt)] 24))) := hHd (bAl.alloc (by simp) _)
 rcases hty with rfl | rfl
 all_goals
  obtain rfl := hvk
  obtain rfl := hkd
  have HC : Hid (∀ W, Calls Tryz.prog 93 #[.string (txt vt)] W (fun r w' => r = .returned (.bool true) ∧ W = w')) := hHd (fun W => by have h2 := rident_any vt (by have := hok.2.2.2; simp only at this; omega) W; unfold RIdentP at h2; rw [h] at h2; exact h2)
  clear hv hn hL hok h
  have z1 : ((vn : Int) == 0) = false := beq_eq_false_iff_ne.2 (by omega)
  clear hz
  go_enter Tryz.func77, Tryz.ntmps77
  go_wp2_with fail
  refine (HC.out _).mono ?_
  rintro r w2 ⟨rfl, rfl⟩
  go_wp2
  go_ret
  exact ⟨rfl, HB.out⟩
theorem rright_other (nm : List UInt8) (kd ty lo hi : Nat) (ns : List (List UInt8)) (mu : Bool) (mo : Nat) (vk : Int) (vn : Nat) (vt : List UInt8) (B : Option Addr) (L m d : Nat) (A : Option Addr) (K c : Nat) (w : World) (hv : Vals w d (.slice B ns.length m) (txts ns)) (hL : ns.length = L) (hn : L ≤ 1000000) (hok : VlOk ⟨vk, vn, vt⟩) (hkd : kd = 1) (hvk : vk = (ty : Int)) (hty : ty = 0 ∨ 6 < ty) :
  Calls Tryz.prog 77 #[.agg (cS (txt nm) kd ty lo hi (.slice B L m) mu mo (.slice A K c)), .agg #[.int .i64 vk, .int .u64 (vn : Int), .string (txt vt)]] w (AnsP (.bool false) w) := by
 have HB : Hid (Below w.heap.size w ((w.alloc (.cells (cS (txt nm) kd ty lo hi (.slice B L m) mu mo (.slice A K c)) 67)).alloc (.cells #[.int .i64 vk, .int .u64 (vn : Int), .string (txt vt)] 24))) := hHd (bAl.alloc (by simp) _)
 have k1 : ((kd : Int) == 1) = true := by rw [hkd]; rfl
 have k1' : ((kd : Int) != 1) = false := by rw [hkd]; rfl
 have v1 : (vk == (ty : Int)) = true := by rw [hvk]; exact beq_iff_eq.2 rfl
 have v1' : (vk != (ty : Int)) = false := by rw [hvk]; unfold bne; rw [beq_iff_eq.2 rfl]; rfl
 have t1 : ((ty : Int) == 1) = false := beq_eq_false_iff_ne.2 (by omega)
 have t2 : ((ty : Int) == 2) = false := beq_eq_false_iff_ne.2 (by omega)
 have t3 : ((ty : Int) == 3) = false := beq_eq_false_iff_ne.2 (by omega)
 have t4 : ((ty : Int) == 4) = false := beq_eq_false_iff_ne.2 (by omega)
 have t5 : ((ty : Int) == 5) = false := beq_eq_false_iff_ne.2 (by omega)
 have t6 : ((ty : Int) == 6) = false := beq_eq_false_iff_ne.2 (by omega)
 clear hv hok hkd hvk hn hL hty
 go_enter Tryz.func77, Tryz.ntmps77
 go_wp2
 go_ret
 exact ⟨rfl, HB.out⟩
theorem vrright_any (a : SpD) (v : Vl) (B : Option Addr) (m d : Nat) (A : Option Addr) (K c : Nat) (w : World) (hv : Vals w d (.slice B a.names.length m) (txts a.names)) (hn : a.names.length ≤ 1000000) (hok : VlOk v) :
  Calls Tryz.prog 77 #[.agg (spC a (.slice B a.names.length m) (.slice A K c)).toArray, .agg (vC v).toArray] w (AnsP (.bool (rightX a v)) w) := by
 obtain ⟨nm, kd, ty, lo, hi, ns, mu, mo⟩ := a
 obtain ⟨vk, vn, vt⟩ := v
 have key : ∀ b : Bool, rightX ⟨nm, kd, ty, lo, hi, ns, mu, mo⟩ ⟨vk, vn, vt⟩ = b → Calls Tryz.prog 77 #[.agg (spC ⟨nm, kd, ty, lo, hi, ns, mu, mo⟩ (.slice B ns.length m) (.slice A K c)).toArray, .agg (vC ⟨vk, vn, vt⟩).toArray] w (AnsP (.bool b) w) →
   Calls Tryz.prog 77 #[.agg (spC ⟨nm, kd, ty, lo, hi, ns, mu, mo⟩ (.slice B ns.length m) (.slice A K c)).toArray, .agg (vC ⟨vk, vn, vt⟩).toArray] w (AnsP (.bool (rightX ⟨nm, kd, ty, lo, hi, ns, mu, mo⟩ ⟨vk, vn, vt⟩)) w) := fun b h hc => by rw [h]; exact hc
 refine Decidable.byCases (p := kd = 1) (fun hkd => ?_) (fun hkd => key false (by unfold rightX; simp [hkd]) (rright_kind nm kd ty lo hi ns mu mo vk vn vt B ns.length m d A K c w hv rfl hn hok hkd))
 refine Decidable.byCases (p := vk = (ty : Int)) (fun hvk => ?_) (fun hvk => key false (by unfold rightX; simp [hvk]) (rright_vkind nm kd ty lo hi ns mu mo vk vn vt B ns.length m d A K c w hv rfl hn hok hkd hvk))
 by_cases t12 : ty = 1 ∨ ty = 2
 ·refine Decidable.byCases (p := lo ≤ vn) (fun h1 => ?_) (fun h1 => key false (by unfold rightX; simp [t12, h1]) (rright_low nm kd ty lo hi ns mu mo vk vn vt B ns.length m d A K c w hv rfl hn hok hkd hvk t12 (by omega)))
  refine Decidable.byCases (p := vn ≤ hi) (fun h2 => ?_) (fun h2 => key false (by unfold rightX; simp [t12, h2]) (rright_high nm kd ty lo hi ns mu mo vk vn vt B ns.length m d A K c w hv rfl hn hok hkd hvk t12 h1 (by omega)))
  by_cases h3 : vt = []
  ·exact key true (by unfold rightX; simp [hkd, hvk, t12, h1, h2, h3]) (rright_num nm kd ty lo hi ns mu mo vk vn vt B ns.length m d A K c w hv rfl hn hok hkd hvk t12 h1 h2 h3)
  ·exact key false (by unfold rightX; simp [t12, h3]) (rright_ntext nm kd ty lo hi ns mu mo vk vn vt B ns.length m d A K c w hv rfl hn hok hkd hvk t12 h1 h2 h3)
 by_cases t3 : ty = 3
 ·refine Decidable.byCases (p := vn < 2) (fun h1 => ?_) (fun h1 => key false (by unfold rightX; simp [t3, h1]) (rright_big nm kd ty lo hi ns mu mo vk vn vt B ns.length m d A K c w hv rfl hn hok hkd hvk t3 (by omega)))
  by_cases h3 : vt = []
  ·exact key true (by unfold rightX; simp [hkd, hvk, t3, h1, h3]) (rright_bool nm kd ty lo hi ns mu mo vk vn vt B ns.length m d A K c w hv rfl hn hok hkd hvk t3 h1 h3)
  ·exact key false (by unfold rightX; simp [t3, h3]) (rright_btext nm kd ty lo hi ns mu mo vk vn vt B ns.length m d A K c w hv rfl hn hok hkd hvk t3 h1 h3)
 by_cases t4 : ty = 4
 ·cases hw : whichX ns vt with
  | none => exact key false (by unfold rightX; simp [t4, hw]) (rright_enone nm kd ty lo hi ns mu mo vk vn vt B ns.length m d A K c w hv rfl hn hok hkd hvk t4 hw)
  | some i =>
   by_cases hz : vn = 0
   ·exact key true (by unfold rightX; simp [hkd, hvk, t4, hw, hz]) (rright_enum nm kd ty lo hi ns mu mo vk vn vt B ns.length m d A K c w hv rfl hn hok hkd hvk t4 i hw hz)
   ·exact key false (by unfold rightX; simp [t4, hw, hz]) (rright_enumN nm kd ty lo hi ns mu mo vk vn vt B ns.length m d A K c w hv rfl hn hok hkd hvk t4 i hw hz)
 by_cases t56 : ty = 5 ∨ ty = 6
 ·cases hi' : identX vt with
  | false => exact key false (by unfold rightX; simp [t12, t3, t4, t56, hi']) (rright_idno nm kd ty lo hi ns mu mo vk vn vt B ns.length m d A K c w hv rfl hn hok hkd hvk t56 hi')
  | true =>
   by_cases hz : vn = 0
   ·exact key true (by unfold rightX; simp [hkd, hvk, t12, t3, t4, t56, hi', hz]) (rright_ident nm kd ty lo hi ns mu mo vk vn vt B ns.length m d A K c w hv rfl hn hok hkd hvk t56 hi' hz)
   ·exact key false (by unfold rightX; simp [t12, t3, t4, t56, hi', hz]) (rright_identN nm kd ty lo hi ns mu mo vk vn vt B ns.length m d A K c w hv rfl hn hok hkd hvk t56 hi' hz)
 ·exact key false (by unfold rightX; simp [t12, t3, t4, t56]) (rright_other nm kd ty lo hi ns mu mo vk vn vt B ns.length m d A K c w hv rfl hn hok hkd hvk (by omega))
structure OkD (a : NdD) : Prop where
 name : a.name.length ≤ 1048576
 key : a.key.length ≤ 1048576
 lo : -9223372036854775808 ≤ a.kind
 hi : a.kind ≤ 9223372036854775807
 num : a.num < 18446744073709551616
 text : a.text.length ≤ 1048576
theorem OkD.vl {a : NdD} (h : OkD a) : VlOk (vlOf a) := ⟨h.lo, h.hi, h.num, h.text⟩
def OkF : NdF → Prop
 | .nil => True
 | .cons a k r => OkD a ∧ OkF k ∧ OkF r
abbrev OkN (x : Nd) : Prop := OkD x.1 ∧ OkF x.2
theorem OkF.at {f : NdF} : ∀ {i : Nat} {y : Nd}, OkF f → f.get? i = some y → OkN y := by
 induction f with
 | nil => intro i y _ h; cases h
 | cons a k r _ ih =>
  intro i y hf h
  cases i with
  | zero => injection h with h; subst h; exact ⟨hf.1, hf.2.1⟩
  | succ i => exact ih hf.2.2 h
theorem OkF.of {f : NdF} : (∀ i y, f.get? i = some y → OkN y) → OkF f := by
 induction f with
 | nil => intro _; trivial
 | cons a k r _ ih => intro h; exact ⟨(h 0 _ rfl).1, (h 0 _ rfl).2, ih fun i y hy => h (i + 1) y hy⟩
theorem OkD.zero : OkD zeroT := ⟨by decide, by decide, by decide, by decide, by decide, by decide⟩
section
open Go.ChangeShapes Go.WideShapes Go.Deep
theorem node_cells10 {H : Type} {enc : TypeId × Value → H} {W : World} {n : Nat} {cs : List Value} {x : DataW H × List MemPlace} (h : DataW.trod enc Tryz.prog W 0 (fun _ => true) true n 27 cs = some x) :
  ∃ (a : NdD) (c5 : Value) (n' : Nat) (y : DataW H × List MemPlace), n = n' + 1 ∧ cs = ndC a c5 ∧ DataW.trod enc Tryz.prog W 0 (fun _ => true) true n' 25 [c5] = some y ∧ Rows.uptoBulk y.1 + 4 ≤ Rows.uptoBulk x.1 ∧ (Rows.uptoBulk x.1 ≤ 1048576 → OkD a) := by
 obtain ⟨ys, k, hk, hy, hlen, hyl, hf⟩ := DataW.trod_struct Tryz.underlying27 h
 rw [cellsNode] at hlen
 have hyl' : ys.length = 4 := hyl
 match cs, hlen, ys, hyl', hy with
 | [v0, v1, v2, v3, v4, v5], _, [y0, y1, y2, y3], _, hy =>
  have f0 : DataW.trod enc Tryz.prog W 0 (fun _ => true) true k 9 (List.take (Tryz.prog.cellsOf 9) (List.drop 0 [v0, v1, v2, v3, v4, v5])) = some _ := (hf 0 _ rfl).trans rfl
  have f1 : DataW.trod enc Tryz.prog W 0 (fun _ => true) true k 9 (List.take (Tryz.prog.cellsOf 9) (List.drop 1 [v0, v1, v2, v3, v4, v5])) = some _ := (hf 1 _ rfl).trans rfl
  have f2 : DataW.trod enc Tryz.prog W 0 (fun _ => true) true k 24 (List.take (Tryz.prog.cellsOf 24) (List.drop 2 [v0, v1, v2, v3, v4, v5])) = some _ := (hf 2 _ rfl).trans rfl
  have f3 : DataW.trod enc Tryz.prog W 0 (fun _ => true) true k 25 (List.take (Tryz.prog.cellsOf 25) (List.drop 5 [v0, v1, v2, v3, v4, v5])) = some _ := (hf 3 _ rfl).trans rfl
  rw [cellsStr9] at f0 f1
  rw [cellsVal] at f2
  rw [cellsNds] at f3
  simp only [List.drop_zero, List.drop_succ_cons, List.take_succ_cons, List.take_zero] at f0 f1 f2 f3
  obtain ⟨s0, e0, b0, _⟩ := DataW.trod_string Tryz.underlying9 f0
  obtain ⟨s1, e1, b1, _⟩ := DataW.trod_string Tryz.underlying9 f1
  obtain ⟨zs, k', hk', hz, _, hzl, hg⟩ := DataW.trod_struct Tryz.underlying24 f2
  have hzl' : zs.length = 3 := hzl
  match zs, hzl', hz with
  | [z0, z1, z2], _, hz =>
   have g0 : DataW.trod enc Tryz.prog W 0 (fun _ => true) true k' 3 (List.take (Tryz.prog.cellsOf 3) (List.drop 0 [v2, v3, v4])) = some _ := (hg 0 _ rfl).trans rfl
   have g1 : DataW.trod enc Tryz.prog W 0 (fun _ => true) true k' 22 (List.take (Tryz.prog.cellsOf 22) (List.drop 1 [v2, v3, v4])) = some _ := (hg 1 _ rfl).trans rfl
   have g2 : DataW.trod enc Tryz.prog W 0 (fun _ => true) true k' 9 (List.take (Tryz.prog.cellsOf 9) (List.drop 2 [v2, v3, v4])) = some _ := (hg 2 _ rfl).trans rfl
   rw [cellsInt9] at g0
   rw [cellsU64] at g1
   rw [cellsStr9] at g2
   simp only [List.drop_zero, List.drop_succ_cons, List.take_succ_cons, List.take_zero] at g0 g1 g2
   obtain ⟨kd, e2, _, hwk⟩ := DataW.trod_int Tryz.underlying3 g0
   obtain ⟨nu, e3, _, hw⟩ := DataW.trod_int Tryz.underlying22 g1
   obtain ⟨s2, e4, b4, _⟩ := DataW.trod_string Tryz.underlying9 g2
   have hb := bounds_u64 hw
   have hbk := bounds_i64 hwk
   have hy2 := congrArg Prod.fst hz
   simp at e0 e1 e2 e3 e4
   subst e0 e1 e2 e3 e4
   refine ⟨⟨s0.data.toList, s1.data.toList, kd, nu.toNat, s2.data.toList⟩, v5, k, y3, hk, ?_, f3, ?_, fun hbl => ?_⟩
   ·show _ = [Value.string (txt s0.data.toList), Value.string (txt s1.data.toList), Value.int .i64 kd, Value.int .u64 (nu.toNat : Int), Value.string (txt s2.data.toList), v5]
    rw [show txt s0.data.toList = s0 from txt_ext (txt_data _), show txt s1.data.toList = s1 from txt_ext (txt_data _), show txt s2.data.toList = s2 from txt_ext (txt_data _), Int.toNat_of_nonneg (by omega)]
   ·have hx : x.1 = .agg [y0.1, y1.1, y2.1, y3.1] := congrArg Prod.fst hy
    rw [hx]
    have := bulk_one9 y0.1
    have := bulk_one9 y1.1
    have := bulk_one9 y2.1
    simp only [Rows.uptoBulk, Rows.uptoBulkAll]
    omega
   ·have hx : x.1 = .agg [y0.1, y1.1, y2.1, y3.1] := congrArg Prod.fst hy
    rw [hx] at hbl
    have hy2' : y2.1 = .agg [z0.1, z1.1, z2.1] := hy2
    have q0 : Rows.uptoBulk y0.1 = s0.data.toList.length + 1 := by rw [show y0.1 = .lit (.string s0.data.toList) from congrArg Prod.fst b0]; rfl
    have q1 : Rows.uptoBulk y1.1 = s1.data.toList.length + 1 := by rw [show y1.1 = .lit (.string s1.data.toList) from congrArg Prod.fst b1]; rfl
    have q4 : Rows.uptoBulk z2.1 = s2.data.toList.length + 1 := by rw [show z2.1 = .lit (.string s2.data.toList) from congrArg Prod.fst b4]; rfl
    have q2 : Rows.uptoBulk y2.1 ≥ Rows.uptoBulk z2.1 := by rw [hy2']; simp only [Rows.uptoBulk, Rows.uptoBulkAll]; omega
    simp only [Rows.uptoBulk, Rows.uptoBulkAll] at hbl
    exact ⟨by simp only; omega, by simp only; omega, hbk.1, hbk.2, by simp only; omega, by simp only; omega⟩
theorem open_nodes10 {H : Type} {enc : TypeId × Value → H} {W : World} (N : Nat) :
  ∀ {fuel : Nat} {v : Value} {x : DataW H × List MemPlace}, fuel ≤ N → DataW.trod enc Tryz.prog W 0 (fun _ => true) true fuel 25 [v] = some x → ∃ f, RowT W.heap.size W v f ∧ 2 * f.size ≤ Rows.uptoBulk x.1 ∧ (Rows.uptoBulk x.1 ≤ 1048576 → OkF f) := by
 induction N with
 | zero =>
  intro fuel v x hN h
  obtain rfl : fuel = 0 := by omega
  simp [DataW.trod] at h
 | succ N ih =>
  intro fuel v x hN h
  rcases DataW.trod_slice Tryz.underlying25 h with ⟨hcs, rfl⟩ | ⟨a, len, cap, elems, rest, n, rfl, hcs, rfl, hb, hl, hm, hlen, hel, -, -⟩
  ·simp at hcs
   subst hcs
   exact ⟨.nil, FrV.empty _ _ _, Nat.zero_le _, fun _ => trivial⟩
  ·simp at hcs
   subst hcs
   by_cases h0 : 0 < len
   ·have hcell0 : ∃ u, W.cell? a = some u := by
     have h1 := hel 0 h0
     rw [List.getElem?_eq_getElem (by omega)] at h1
     obtain ⟨cs', h2, _⟩ := Option.bind_eq_some_iff.1 h1
     rw [cellsNode] at h2
     obtain ⟨_, h3, h4⟩ := World.cells?_some h2
     have h5 := h4 0 (by omega)
     rw [List.getElem?_eq_getElem (by omega)] at h5
     exact ⟨_, by simpa [Addr.add] using h5⟩
    obtain ⟨u0, hu0⟩ := hcell0
    have hsp0 : a.spot = none := World.cell?_spot hu0
    have hlt : a.block < W.heap.size := World.block_lt_of_cell? W _ hu0
    obtain ⟨b, off, sp⟩ := a
    have hsp : sp = none := hsp0
    subst hsp
    have rows : ∀ m, m ≤ len → ∃ f : NdF, f.len = m ∧ FrAt NdT 6 5 W (fun g => g < W.heap.size) noB f b (off + (len - m) * 6) ∧ 2 * f.size ≤ Rows.uptoBulkAll ((elems.drop (len - m)).map (·.1)) ∧ (Rows.uptoBulkAll ((elems.drop (len - m)).map (·.1)) ≤ 1048576 → OkF f) := by
     intro m
     induction m with
     | zero => intro _; exact ⟨.nil, rfl, trivial, Nat.zero_le _, fun _ => trivial⟩
     | succ m ihm =>
      intro hm'
      obtain ⟨r, hr1, hr2, hr3, hr4⟩ := ihm (by omega)
      obtain ⟨i, hi⟩ : ∃ i, i = len - (m + 1) := ⟨_, rfl⟩
      have hi1 : len - m = i + 1 := by omega
      have hil : i < len := by omega
      rw [hi1] at hr2 hr3 hr4
      rw [← hi]
      have h1 := hel i hil
      have hie : i < elems.length := by omega
      rw [List.getElem?_eq_getElem hie] at h1
      obtain ⟨cs', h2, h3⟩ := Option.bind_eq_some_iff.1 h1
      rw [cellsNode] at h2
      obtain ⟨_, hcl, hat⟩ := World.cells?_some h2
      have hcc : ∀ j, j < 6 → W.cell? ⟨b, off + i * 6 + j, none⟩ = cs'[j]? := fun j hj => by
       have h5 := hat j hj
       rw [add_bare9, add_bare9] at h5
       exact h5
      obtain ⟨nd, c5, n', y, hn', rfl, hy, hyb, hyo⟩ := node_cells10 h3
      obtain ⟨k, hk1, hk2, hk3⟩ := ih (by omega) hy
      have hdrop : (elems.drop i).map (·.1) = (elems[i]).1 :: (elems.drop (i + 1)).map (·.1) := by rw [List.drop_eq_getElem_cons hie]; rfl
      obtain ⟨A, c, rfl⟩ := FrV.shape hk1
      obtain ⟨A', c', e, hkc, hkr⟩ := hk1
      injection e with e1 e2 e3
      subst e1 e3
      refine ⟨.cons nd k r, by simp only [Fr.len, hr1], ⟨⟨ndC nd (.slice A k.len c), rfl, fun j u hu => ?_, ⟨_, rfl, rfl⟩, A, c, rfl, hkc, hkr⟩, ?_⟩, ?_, fun hbl => ?_⟩
      ·have hj : j < 6 := (List.getElem?_eq_some_iff.1 hu).1
       rw [hcc j hj, hu]
      ·have h9 : off + i * 6 + 6 = off + (i + 1) * 6 := by omega
       rw [h9]; exact hr2
      ·rw [hdrop]
       simp only [Fr.size, Rows.uptoBulkAll]
       omega
      ·rw [hdrop] at hbl
       simp only [Rows.uptoBulkAll] at hbl
       exact ⟨hyo (by omega), hk3 (by omega), hr4 (by omega)⟩
    obtain ⟨f, hf1, hf2, hf3, hf4⟩ := rows len (Nat.le_refl _)
    rw [Nat.sub_self, Nat.zero_mul, Nat.add_zero] at hf2
    rw [Nat.sub_self, List.drop_zero] at hf3 hf4
    refine ⟨f, ⟨_, cap, by rw [hf1], by omega, fun _ => ⟨b, off, rfl, hlt, hf2⟩⟩, ?_, fun hbl => hf4 ?_⟩
    ·simp only [Rows.uptoBulk]
     omega
    ·simp only [Rows.uptoBulk] at hbl
     omega
   ·obtain rfl : len = 0 := by omega
    exact ⟨.nil, FrV.none_ _ _, Nat.zero_le _, fun _ => trivial⟩
theorem open_node10 {H : Type} {enc : TypeId × Value → H} {W : World} {v : Value} {d : DataW H} {p : List MemPlace} (h : DataW.Trod enc Tryz.prog W 0 (fun _ => true) true 27 v d p) (hv : ∃ cs : Array Value, v = .agg cs) :
  ∃ (a : NdD) (f : NdF) (A : Option Addr) (c : Nat), v = .agg (ndC a (.slice A f.len c)).toArray ∧ LieN W (ndC a (.slice A f.len c)) (a, f) ∧ 2 * f.size ≤ Rows.uptoBulk d ∧ (Rows.uptoBulk d ≤ 1048576 → OkD a ∧ OkF f) := by
 obtain ⟨fuel, hf⟩ := h
 obtain ⟨cs, rfl⟩ := hv
 have hf' : DataW.trod enc Tryz.prog W 0 (fun _ => true) true fuel 27 cs.toList = some (d, p) := hf
 obtain ⟨a, c5, n', y, _, he, hy, hb, ho⟩ := node_cells10 hf'
 obtain ⟨f, h1, h2, h3⟩ := open_nodes10 n' (Nat.le_refl _) hy
 obtain ⟨A, c, rfl⟩ := FrV.shape h1
 refine ⟨a, f, A, c, ?_, LieB.make h1, by simp only at hb; omega, fun hbl => ⟨ho hbl, h3 (by simp only at hb; omega)⟩⟩
 rw [← he]
end
end Go.Proofs.YtodlhgflfcadmaaGreat
