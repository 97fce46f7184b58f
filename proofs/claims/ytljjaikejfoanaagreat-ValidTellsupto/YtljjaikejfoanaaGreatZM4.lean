/- What ValidTells stands on: VlrA, VadOk. -/
import Derived.Test.YtljjaikejfoanaaGreatZM0
import Derived.Test.YtljjaikejfoanaaGreatZM2
import Derived.Test.YtljjaikejfoanaaGreatZM3
set_option linter.unusedSimpArgs false
set_option linter.unusedVariables false
namespace Go.Proofs.YtljjaikejfoanaaGreat
open Go.RowKit
abbrev vC (v : Vl) : List Value := [.int .i64 v.kind, .int .u64 (v.num : Int), .string (txt v.text)]
def VlOk (v : Vl) : Prop := -9223372036854775808 ≤ v.kind ∧ v.kind ≤ 9223372036854775807 ∧ v.num < 18446744073709551616 ∧ v.text.length ≤ 1048576
theorem rwhich_any (l : List (List UInt8)) (s : List UInt8) (d : Nat) (A : Option Addr) (c : Nat) (w : World) (hv : Vals w d (.slice A l.length c) (txts l)) (hl : l.length ≤ 1000000) :
    Calls Tryz.prog 70 #[.slice A l.length c, .string (txt s)] w (fun r w' => r = .returned (.int .i64 (whichI l s)) ∧ w = w') := by
  have HV := Lib.hid hv
  have ts : (txt s).toList = s := txt_toList s
  clear hv
  go_enter Tryz.func70, Tryz.ntmps70
  go_wp2
  go_loop [5] (fun i => ∃ k : Nat, k ≤ l.length ∧ i = .int .i64 (k : Int) ∧ Hid (∀ (j : Nat) (y : List UInt8), j < k → l[j]? = some y → y ≠ s)) (fun i => l.length - (intOf i).toNat)
  case atStart => exact ⟨0, Nat.zero_le _, rfl, Lib.hid (fun j y h => by omega)⟩
  case round =>
    obtain ⟨k, hk, rfl, HL⟩ := hrel
    by_cases hlt : k < l.length
    · obtain ⟨n, hn⟩ : ∃ n, l[k]? = some n := ⟨_, List.getElem?_eq_getElem hlt⟩
      obtain ⟨o, rfl, -, -, -, hcn⟩ := HV.out.at (txts_at hn)
      have i1 : (0 : Int) ≤ (k : Int) := by omega
      have i2 : (k : Int) < (l.length : Int) := by omega
      have tn : (txt n).toList = n := txt_toList n
      have HG := Lib.hid hn
      clear hn
      by_cases e : n = s
      · have h1 : (n == s) = true := beq_iff_eq.2 e
        have HF : Hid (whichI l s = (k : Int)) := Lib.hid (by unfold whichI; rw [which_is (e ▸ HG.out) HL.out])
        clear e
        go_wp2
        go_ret
        exact ⟨by rw [HF.out]; rfl, rfl⟩
      · have h1 : (n == s) = false := beq_eq_false_iff_ne.2 e
        have HL2 : Hid (∀ (j : Nat) (y : List UInt8), j < k + 1 → l[j]? = some y → y ≠ s) := Lib.hid (fun j y hj hy => by
          by_cases ej : j = k
          · subst ej; rw [HG.out] at hy; injection hy with hy; subst hy; exact e
          · exact HL.out j y (by omega) hy)
        clear e
        go_wp2
        go_round
        case rel => exact ⟨k + 1, by omega, by go_num, HL2⟩
        case measure => simp [intOf]; omega
    · have HF : Hid (whichI l s = -1) := Lib.hid (by unfold whichI; rw [which_no (fun j y hy => HL.out j y (by have := (List.getElem?_eq_some_iff.1 hy).1; omega) hy)])
      have i2 : ¬ (k : Int) < (l.length : Int) := by omega
      go_wp2
      go_ret
      exact ⟨by rw [HF.out]; rfl, rfl⟩
set_option maxRecDepth 100000 in
set_option maxHeartbeats 1000000 in
theorem rright_kind (nm : List UInt8) (kd ty lo hi : Nat) (ns : List (List UInt8)) (mu : Bool) (mo : Nat) (vk : Int) (vn : Nat) (vt : List UInt8) (B : Option Addr) (L m d : Nat) (A : Option Addr) (K c : Nat) (w : World) (hv : Vals w d (.slice B ns.length m) (txts ns)) (hL : ns.length = L) (hn : L ≤ 1000000) (hok : VlOk ⟨vk, vn, vt⟩) (hkd : kd ≠ 1) :
    Calls Tryz.prog 49 #[.agg #[.string (txt nm), .int .i64 (kd : Int), .int .i64 (ty : Int), .int .u64 (lo : Int), .int .u64 (hi : Int), .slice B L m, .bool mu, .int .i64 (mo : Int), .slice A K c], .agg #[.int .i64 vk, .int .u64 (vn : Int), .string (txt vt)]] w (AnsP (.bool false) w) := by
  have HB : Hid (Below w.heap.size w ((w.alloc (.cells #[.string (txt nm), .int .i64 (kd : Int), .int .i64 (ty : Int), .int .u64 (lo : Int), .int .u64 (hi : Int), .slice B L m, .bool mu, .int .i64 (mo : Int), .slice A K c] 41)).alloc (.cells #[.int .i64 vk, .int .u64 (vn : Int), .string (txt vt)] 24))) := Lib.hid (((Below.refl _ _).alloc (Nat.le_refl _) _).alloc (by simp) _)
  have k1 : ((kd : Int) == 1) = false := beq_eq_false_iff_ne.2 (by omega)
  have k1' : ((kd : Int) != 1) = true := by unfold bne; rw [k1]; rfl
  clear hv hok hkd hn hL
  go_enter Tryz.func49, Tryz.ntmps49
  go_wp2
  go_ret
  exact ⟨rfl, HB.out⟩
set_option maxRecDepth 100000 in
set_option maxHeartbeats 1000000 in
theorem rright_vkind (nm : List UInt8) (kd ty lo hi : Nat) (ns : List (List UInt8)) (mu : Bool) (mo : Nat) (vk : Int) (vn : Nat) (vt : List UInt8) (B : Option Addr) (L m d : Nat) (A : Option Addr) (K c : Nat) (w : World) (hv : Vals w d (.slice B ns.length m) (txts ns)) (hL : ns.length = L) (hn : L ≤ 1000000) (hok : VlOk ⟨vk, vn, vt⟩) (hkd : kd = 1) (hvk : vk ≠ (ty : Int)) :
    Calls Tryz.prog 49 #[.agg #[.string (txt nm), .int .i64 (kd : Int), .int .i64 (ty : Int), .int .u64 (lo : Int), .int .u64 (hi : Int), .slice B L m, .bool mu, .int .i64 (mo : Int), .slice A K c], .agg #[.int .i64 vk, .int .u64 (vn : Int), .string (txt vt)]] w (AnsP (.bool false) w) := by
  have HB : Hid (Below w.heap.size w ((w.alloc (.cells #[.string (txt nm), .int .i64 (kd : Int), .int .i64 (ty : Int), .int .u64 (lo : Int), .int .u64 (hi : Int), .slice B L m, .bool mu, .int .i64 (mo : Int), .slice A K c] 41)).alloc (.cells #[.int .i64 vk, .int .u64 (vn : Int), .string (txt vt)] 24))) := Lib.hid (((Below.refl _ _).alloc (Nat.le_refl _) _).alloc (by simp) _)
  have k1 : ((kd : Int) == 1) = true := by rw [hkd]; rfl
  have k1' : ((kd : Int) != 1) = false := by rw [hkd]; rfl
  have v1 : (vk == (ty : Int)) = false := beq_eq_false_iff_ne.2 hvk
  have v1' : (vk != (ty : Int)) = true := by unfold bne; rw [v1]; rfl
  clear hv hok hkd hvk hn hL
  go_enter Tryz.func49, Tryz.ntmps49
  go_wp2
  go_ret
  exact ⟨rfl, HB.out⟩
set_option maxRecDepth 100000 in
set_option maxHeartbeats 1000000 in
theorem rright_low (nm : List UInt8) (kd ty lo hi : Nat) (ns : List (List UInt8)) (mu : Bool) (mo : Nat) (vk : Int) (vn : Nat) (vt : List UInt8) (B : Option Addr) (L m d : Nat) (A : Option Addr) (K c : Nat) (w : World) (hv : Vals w d (.slice B ns.length m) (txts ns)) (hL : ns.length = L) (hn : L ≤ 1000000) (hok : VlOk ⟨vk, vn, vt⟩) (hkd : kd = 1) (hvk : vk = (ty : Int)) (hty : ty = 1 ∨ ty = 2) (h : vn < lo) :
    Calls Tryz.prog 49 #[.agg #[.string (txt nm), .int .i64 (kd : Int), .int .i64 (ty : Int), .int .u64 (lo : Int), .int .u64 (hi : Int), .slice B L m, .bool mu, .int .i64 (mo : Int), .slice A K c], .agg #[.int .i64 vk, .int .u64 (vn : Int), .string (txt vt)]] w (AnsP (.bool false) w) := by
  have HB : Hid (Below w.heap.size w ((w.alloc (.cells #[.string (txt nm), .int .i64 (kd : Int), .int .i64 (ty : Int), .int .u64 (lo : Int), .int .u64 (hi : Int), .slice B L m, .bool mu, .int .i64 (mo : Int), .slice A K c] 41)).alloc (.cells #[.int .i64 vk, .int .u64 (vn : Int), .string (txt vt)] 24))) := Lib.hid (((Below.refl _ _).alloc (Nat.le_refl _) _).alloc (by simp) _)
  rcases hty with rfl | rfl
  all_goals
    obtain rfl := hvk
    obtain rfl := hkd
    obtain ⟨-, -, o3, -⟩ := hok
    clear hv hn hL
    have h1 : ¬ (lo : Int) ≤ (vn : Int) := by omega
    have h2 : decide (lo ≤ vn) = false := decide_eq_false (by omega)
    go_enter Tryz.func49, Tryz.ntmps49
    go_wp2
    go_ret
    exact ⟨rfl, HB.out⟩
set_option maxRecDepth 100000 in
set_option maxHeartbeats 1000000 in
theorem rright_high (nm : List UInt8) (kd ty lo hi : Nat) (ns : List (List UInt8)) (mu : Bool) (mo : Nat) (vk : Int) (vn : Nat) (vt : List UInt8) (B : Option Addr) (L m d : Nat) (A : Option Addr) (K c : Nat) (w : World) (hv : Vals w d (.slice B ns.length m) (txts ns)) (hL : ns.length = L) (hn : L ≤ 1000000) (hok : VlOk ⟨vk, vn, vt⟩) (hkd : kd = 1) (hvk : vk = (ty : Int)) (hty : ty = 1 ∨ ty = 2) (h : lo ≤ vn) (h' : hi < vn) :
    Calls Tryz.prog 49 #[.agg #[.string (txt nm), .int .i64 (kd : Int), .int .i64 (ty : Int), .int .u64 (lo : Int), .int .u64 (hi : Int), .slice B L m, .bool mu, .int .i64 (mo : Int), .slice A K c], .agg #[.int .i64 vk, .int .u64 (vn : Int), .string (txt vt)]] w (AnsP (.bool false) w) := by
  have HB : Hid (Below w.heap.size w ((w.alloc (.cells #[.string (txt nm), .int .i64 (kd : Int), .int .i64 (ty : Int), .int .u64 (lo : Int), .int .u64 (hi : Int), .slice B L m, .bool mu, .int .i64 (mo : Int), .slice A K c] 41)).alloc (.cells #[.int .i64 vk, .int .u64 (vn : Int), .string (txt vt)] 24))) := Lib.hid (((Below.refl _ _).alloc (Nat.le_refl _) _).alloc (by simp) _)
  rcases hty with rfl | rfl
  all_goals
    obtain rfl := hvk
    obtain rfl := hkd
    obtain ⟨-, -, o3, -⟩ := hok
    clear hv hn hL
    have h1 : (lo : Int) ≤ (vn : Int) := by omega
    have h2 : decide (lo ≤ vn) = true := decide_eq_true (by omega)
    have h3 : ¬ (vn : Int) ≤ (hi : Int) := by omega
    have h4 : decide (vn ≤ hi) = false := decide_eq_false (by omega)
    go_enter Tryz.func49, Tryz.ntmps49
    go_wp2
    go_ret
    exact ⟨rfl, HB.out⟩
set_option maxRecDepth 100000 in
set_option maxHeartbeats 1000000 in
theorem rright_ntext (nm : List UInt8) (kd ty lo hi : Nat) (ns : List (List UInt8)) (mu : Bool) (mo : Nat) (vk : Int) (vn : Nat) (vt : List UInt8) (B : Option Addr) (L m d : Nat) (A : Option Addr) (K c : Nat) (w : World) (hv : Vals w d (.slice B ns.length m) (txts ns)) (hL : ns.length = L) (hn : L ≤ 1000000) (hok : VlOk ⟨vk, vn, vt⟩) (hkd : kd = 1) (hvk : vk = (ty : Int)) (hty : ty = 1 ∨ ty = 2) (h : lo ≤ vn) (h' : vn ≤ hi) (ht : vt ≠ []) :
    Calls Tryz.prog 49 #[.agg #[.string (txt nm), .int .i64 (kd : Int), .int .i64 (ty : Int), .int .u64 (lo : Int), .int .u64 (hi : Int), .slice B L m, .bool mu, .int .i64 (mo : Int), .slice A K c], .agg #[.int .i64 vk, .int .u64 (vn : Int), .string (txt vt)]] w (AnsP (.bool false) w) := by
  have HB : Hid (Below w.heap.size w ((w.alloc (.cells #[.string (txt nm), .int .i64 (kd : Int), .int .i64 (ty : Int), .int .u64 (lo : Int), .int .u64 (hi : Int), .slice B L m, .bool mu, .int .i64 (mo : Int), .slice A K c] 41)).alloc (.cells #[.int .i64 vk, .int .u64 (vn : Int), .string (txt vt)] 24))) := Lib.hid (((Below.refl _ _).alloc (Nat.le_refl _) _).alloc (by simp) _)
  rcases hty with rfl | rfl
  all_goals
    obtain rfl := hvk
    obtain rfl := hkd
    obtain ⟨-, -, o3, -⟩ := hok
    clear hv hn hL
    have h1 : (lo : Int) ≤ (vn : Int) := by omega
    have h2 : decide (lo ≤ vn) = true := decide_eq_true (by omega)
    have h3 : (vn : Int) ≤ (hi : Int) := by omega
    have h4 : decide (vn ≤ hi) = true := decide_eq_true (by omega)
    have h5 : (txt vt).toList.isEmpty = false := by rw [txt_toList]; simpa using ht
    have h6 : (vt == []) = false := beq_eq_false_iff_ne.2 ht
    have tt : (txt vt).toList = vt := txt_toList vt
    clear ht
    go_enter Tryz.func49, Tryz.ntmps49
    go_wp2
    go_ret
    exact ⟨rfl, HB.out⟩
set_option maxRecDepth 100000 in
set_option maxHeartbeats 1000000 in
theorem rright_num (nm : List UInt8) (kd ty lo hi : Nat) (ns : List (List UInt8)) (mu : Bool) (mo : Nat) (vk : Int) (vn : Nat) (vt : List UInt8) (B : Option Addr) (L m d : Nat) (A : Option Addr) (K c : Nat) (w : World) (hv : Vals w d (.slice B ns.length m) (txts ns)) (hL : ns.length = L) (hn : L ≤ 1000000) (hok : VlOk ⟨vk, vn, vt⟩) (hkd : kd = 1) (hvk : vk = (ty : Int)) (hty : ty = 1 ∨ ty = 2) (h : lo ≤ vn) (h' : vn ≤ hi) (ht : vt = []) :
    Calls Tryz.prog 49 #[.agg #[.string (txt nm), .int .i64 (kd : Int), .int .i64 (ty : Int), .int .u64 (lo : Int), .int .u64 (hi : Int), .slice B L m, .bool mu, .int .i64 (mo : Int), .slice A K c], .agg #[.int .i64 vk, .int .u64 (vn : Int), .string (txt vt)]] w (AnsP (.bool true) w) := by
  have HB : Hid (Below w.heap.size w ((w.alloc (.cells #[.string (txt nm), .int .i64 (kd : Int), .int .i64 (ty : Int), .int .u64 (lo : Int), .int .u64 (hi : Int), .slice B L m, .bool mu, .int .i64 (mo : Int), .slice A K c] 41)).alloc (.cells #[.int .i64 vk, .int .u64 (vn : Int), .string (txt vt)] 24))) := Lib.hid (((Below.refl _ _).alloc (Nat.le_refl _) _).alloc (by simp) _)
  rcases hty with rfl | rfl
  all_goals
    obtain rfl := hvk
    obtain rfl := hkd
    obtain ⟨-, -, o3, -⟩ := hok
    clear hv hn hL
    have h1 : (lo : Int) ≤ (vn : Int) := by omega
    have h2 : decide (lo ≤ vn) = true := decide_eq_true (by omega)
    have h3 : (vn : Int) ≤ (hi : Int) := by omega
    have h4 : decide (vn ≤ hi) = true := decide_eq_true (by omega)
    have h5 : (txt vt).toList.isEmpty = true := by rw [ht, txt_toList]; rfl
    have h5b : (!(txt vt).toList.isEmpty) = false := by rw [h5]; rfl
    have h6 : (vt == []) = true := by rw [ht]; rfl
    have tt : (txt vt).toList = vt := txt_toList vt
    clear ht
    go_enter Tryz.func49, Tryz.ntmps49
    go_wp2
    go_ret
    exact ⟨rfl, HB.out⟩
set_option maxRecDepth 100000 in
set_option maxHeartbeats 1000000 in
theorem rright_big (nm : List UInt8) (kd ty lo hi : Nat) (ns : List (List UInt8)) (mu : Bool) (mo : Nat) (vk : Int) (vn : Nat) (vt : List UInt8) (B : Option Addr) (L m d : Nat) (A : Option Addr) (K c : Nat) (w : World) (hv : Vals w d (.slice B ns.length m) (txts ns)) (hL : ns.length = L) (hn : L ≤ 1000000) (hok : VlOk ⟨vk, vn, vt⟩) (hkd : kd = 1) (hvk : vk = (ty : Int)) (hty : ty = 3) (h : 2 ≤ vn) :
    Calls Tryz.prog 49 #[.agg #[.string (txt nm), .int .i64 (kd : Int), .int .i64 (ty : Int), .int .u64 (lo : Int), .int .u64 (hi : Int), .slice B L m, .bool mu, .int .i64 (mo : Int), .slice A K c], .agg #[.int .i64 vk, .int .u64 (vn : Int), .string (txt vt)]] w (AnsP (.bool false) w) := by
  have HB : Hid (Below w.heap.size w ((w.alloc (.cells #[.string (txt nm), .int .i64 (kd : Int), .int .i64 (ty : Int), .int .u64 (lo : Int), .int .u64 (hi : Int), .slice B L m, .bool mu, .int .i64 (mo : Int), .slice A K c] 41)).alloc (.cells #[.int .i64 vk, .int .u64 (vn : Int), .string (txt vt)] 24))) := Lib.hid (((Below.refl _ _).alloc (Nat.le_refl _) _).alloc (by simp) _)
  subst hty
  obtain rfl := hvk
  obtain rfl := hkd
  clear hv hn hL hok
  have h1 : ¬ (vn : Int) < 2 := by omega
  go_enter Tryz.func49, Tryz.ntmps49
  go_wp2
  go_ret
  exact ⟨rfl, HB.out⟩
set_option maxRecDepth 100000 in
set_option maxHeartbeats 1000000 in
theorem rright_btext (nm : List UInt8) (kd ty lo hi : Nat) (ns : List (List UInt8)) (mu : Bool) (mo : Nat) (vk : Int) (vn : Nat) (vt : List UInt8) (B : Option Addr) (L m d : Nat) (A : Option Addr) (K c : Nat) (w : World) (hv : Vals w d (.slice B ns.length m) (txts ns)) (hL : ns.length = L) (hn : L ≤ 1000000) (hok : VlOk ⟨vk, vn, vt⟩) (hkd : kd = 1) (hvk : vk = (ty : Int)) (hty : ty = 3) (h : vn < 2) (ht : vt ≠ []) :
    Calls Tryz.prog 49 #[.agg #[.string (txt nm), .int .i64 (kd : Int), .int .i64 (ty : Int), .int .u64 (lo : Int), .int .u64 (hi : Int), .slice B L m, .bool mu, .int .i64 (mo : Int), .slice A K c], .agg #[.int .i64 vk, .int .u64 (vn : Int), .string (txt vt)]] w (AnsP (.bool false) w) := by
  have HB : Hid (Below w.heap.size w ((w.alloc (.cells #[.string (txt nm), .int .i64 (kd : Int), .int .i64 (ty : Int), .int .u64 (lo : Int), .int .u64 (hi : Int), .slice B L m, .bool mu, .int .i64 (mo : Int), .slice A K c] 41)).alloc (.cells #[.int .i64 vk, .int .u64 (vn : Int), .string (txt vt)] 24))) := Lib.hid (((Below.refl _ _).alloc (Nat.le_refl _) _).alloc (by simp) _)
  subst hty
  obtain rfl := hvk
  obtain rfl := hkd
  clear hv hn hL hok
  have h1 : (vn : Int) < 2 := by omega
  have h5 : (txt vt).toList.isEmpty = false := by rw [txt_toList]; simpa using ht
  have h6 : (vt == []) = false := beq_eq_false_iff_ne.2 ht
  have tt : (txt vt).toList = vt := txt_toList vt
  clear ht
  go_enter Tryz.func49, Tryz.ntmps49
  go_wp2
  go_ret
  exact ⟨rfl, HB.out⟩
set_option maxRecDepth 100000 in
set_option maxHeartbeats 1000000 in
theorem rright_bool (nm : List UInt8) (kd ty lo hi : Nat) (ns : List (List UInt8)) (mu : Bool) (mo : Nat) (vk : Int) (vn : Nat) (vt : List UInt8) (B : Option Addr) (L m d : Nat) (A : Option Addr) (K c : Nat) (w : World) (hv : Vals w d (.slice B ns.length m) (txts ns)) (hL : ns.length = L) (hn : L ≤ 1000000) (hok : VlOk ⟨vk, vn, vt⟩) (hkd : kd = 1) (hvk : vk = (ty : Int)) (hty : ty = 3) (h : vn < 2) (ht : vt = []) :
    Calls Tryz.prog 49 #[.agg #[.string (txt nm), .int .i64 (kd : Int), .int .i64 (ty : Int), .int .u64 (lo : Int), .int .u64 (hi : Int), .slice B L m, .bool mu, .int .i64 (mo : Int), .slice A K c], .agg #[.int .i64 vk, .int .u64 (vn : Int), .string (txt vt)]] w (AnsP (.bool true) w) := by
  have HB : Hid (Below w.heap.size w ((w.alloc (.cells #[.string (txt nm), .int .i64 (kd : Int), .int .i64 (ty : Int), .int .u64 (lo : Int), .int .u64 (hi : Int), .slice B L m, .bool mu, .int .i64 (mo : Int), .slice A K c] 41)).alloc (.cells #[.int .i64 vk, .int .u64 (vn : Int), .string (txt vt)] 24))) := Lib.hid (((Below.refl _ _).alloc (Nat.le_refl _) _).alloc (by simp) _)
  subst hty
  obtain rfl := hvk
  obtain rfl := hkd
  clear hv hn hL hok
  have h1 : (vn : Int) < 2 := by omega
  have h5 : (txt vt).toList.isEmpty = true := by rw [ht, txt_toList]; rfl
  have h5b : (!(txt vt).toList.isEmpty) = false := by rw [h5]; rfl
  have h6 : (vt == []) = true := by rw [ht]; rfl
  have tt : (txt vt).toList = vt := txt_toList vt
  clear ht
  go_enter Tryz.func49, Tryz.ntmps49
  go_wp2
  go_ret
  exact ⟨rfl, HB.out⟩
set_option maxRecDepth 100000 in
set_option maxHeartbeats 1000000 in
theorem rright_enone (nm : List UInt8) (kd ty lo hi : Nat) (ns : List (List UInt8)) (mu : Bool) (mo : Nat) (vk : Int) (vn : Nat) (vt : List UInt8) (B : Option Addr) (L m d : Nat) (A : Option Addr) (K c : Nat) (w : World) (hv : Vals w d (.slice B ns.length m) (txts ns)) (hL : ns.length = L) (hn : L ≤ 1000000) (hok : VlOk ⟨vk, vn, vt⟩) (hkd : kd = 1) (hvk : vk = (ty : Int)) (hty : ty = 4) (h : whichX ns vt = none) :
    Calls Tryz.prog 49 #[.agg #[.string (txt nm), .int .i64 (kd : Int), .int .i64 (ty : Int), .int .u64 (lo : Int), .int .u64 (hi : Int), .slice B L m, .bool mu, .int .i64 (mo : Int), .slice A K c], .agg #[.int .i64 vk, .int .u64 (vn : Int), .string (txt vt)]] w (AnsP (.bool false) w) := by
  have HB : Hid (Below w.heap.size w ((w.alloc (.cells #[.string (txt nm), .int .i64 (kd : Int), .int .i64 (ty : Int), .int .u64 (lo : Int), .int .u64 (hi : Int), .slice B L m, .bool mu, .int .i64 (mo : Int), .slice A K c] 41)).alloc (.cells #[.int .i64 vk, .int .u64 (vn : Int), .string (txt vt)] 24))) := Lib.hid (((Below.refl _ _).alloc (Nat.le_refl _) _).alloc (by simp) _)
  subst hty
  obtain rfl := hvk
  obtain rfl := hkd
  have HC : Hid (∀ W, Below w.heap.size w W → Calls Tryz.prog 70 #[.slice B L m, .string (txt vt)] W (fun r w' => r = .returned (.int .i64 (whichI ns vt)) ∧ W = w')) := Lib.hid (fun W hW => by
    have h := rwhich_any ns vt d B m W (hv.heap (fun h0 => hW.block d (by obtain ⟨A', c', _, _, h2⟩ := hv; exact (h2 h0).1))) (by omega)
    rw [hL] at h
    exact h)
  have HE : Hid (whichI ns vt = -1) := Lib.hid (by unfold whichI; rw [h])
  clear hv hn hL hok h
  go_enter Tryz.func49, Tryz.ntmps49
  go_wp2_with fail
  refine (HC.out _ HB.out).mono ?_
  rintro r w2 ⟨rfl, rfl⟩
  rw [HE.out]
  go_wp2
  go_ret
  exact ⟨rfl, HB.out⟩
set_option maxRecDepth 100000 in
set_option maxHeartbeats 1000000 in
theorem rright_enum (nm : List UInt8) (kd ty lo hi : Nat) (ns : List (List UInt8)) (mu : Bool) (mo : Nat) (vk : Int) (vn : Nat) (vt : List UInt8) (B : Option Addr) (L m d : Nat) (A : Option Addr) (K c : Nat) (w : World) (hv : Vals w d (.slice B ns.length m) (txts ns)) (hL : ns.length = L) (hn : L ≤ 1000000) (hok : VlOk ⟨vk, vn, vt⟩) (hkd : kd = 1) (hvk : vk = (ty : Int)) (hty : ty = 4) (i : Nat) (h : whichX ns vt = some i) (hz : vn = 0) :
    Calls Tryz.prog 49 #[.agg #[.string (txt nm), .int .i64 (kd : Int), .int .i64 (ty : Int), .int .u64 (lo : Int), .int .u64 (hi : Int), .slice B L m, .bool mu, .int .i64 (mo : Int), .slice A K c], .agg #[.int .i64 vk, .int .u64 (vn : Int), .string (txt vt)]] w (AnsP (.bool true) w) := by
  have HB : Hid (Below w.heap.size w ((w.alloc (.cells #[.string (txt nm), .int .i64 (kd : Int), .int .i64 (ty : Int), .int .u64 (lo : Int), .int .u64 (hi : Int), .slice B L m, .bool mu, .int .i64 (mo : Int), .slice A K c] 41)).alloc (.cells #[.int .i64 vk, .int .u64 (vn : Int), .string (txt vt)] 24))) := Lib.hid (((Below.refl _ _).alloc (Nat.le_refl _) _).alloc (by simp) _)
  subst hty
  obtain rfl := hvk
  obtain rfl := hkd
  have HC : Hid (∀ W, Below w.heap.size w W → Calls Tryz.prog 70 #[.slice B L m, .string (txt vt)] W (fun r w' => r = .returned (.int .i64 (whichI ns vt)) ∧ W = w')) := Lib.hid (fun W hW => by
    have h := rwhich_any ns vt d B m W (hv.heap (fun h0 => hW.block d (by obtain ⟨A', c', _, _, h2⟩ := hv; exact (h2 h0).1))) (by omega)
    rw [hL] at h
    exact h)
  have HE : Hid (whichI ns vt = (i : Int)) := Lib.hid (by unfold whichI; rw [h])
  clear hv hn hL hok h
  subst hz
  have i1 : (0 : Int) ≤ (i : Int) := by omega
  go_enter Tryz.func49, Tryz.ntmps49
  go_wp2_with fail
  refine (HC.out _ HB.out).mono ?_
  rintro r w2 ⟨rfl, rfl⟩
  rw [HE.out]
  go_wp2
  go_ret
  exact ⟨rfl, HB.out⟩
set_option maxRecDepth 100000 in
set_option maxHeartbeats 1000000 in
theorem rright_enumN (nm : List UInt8) (kd ty lo hi : Nat) (ns : List (List UInt8)) (mu : Bool) (mo : Nat) (vk : Int) (vn : Nat) (vt : List UInt8) (B : Option Addr) (L m d : Nat) (A : Option Addr) (K c : Nat) (w : World) (hv : Vals w d (.slice B ns.length m) (txts ns)) (hL : ns.length = L) (hn : L ≤ 1000000) (hok : VlOk ⟨vk, vn, vt⟩) (hkd : kd = 1) (hvk : vk = (ty : Int)) (hty : ty = 4) (i : Nat) (h : whichX ns vt = some i) (hz : vn ≠ 0) :
    Calls Tryz.prog 49 #[.agg #[.string (txt nm), .int .i64 (kd : Int), .int .i64 (ty : Int), .int .u64 (lo : Int), .int .u64 (hi : Int), .slice B L m, .bool mu, .int .i64 (mo : Int), .slice A K c], .agg #[.int .i64 vk, .int .u64 (vn : Int), .string (txt vt)]] w (AnsP (.bool false) w) := by
  have HB : Hid (Below w.heap.size w ((w.alloc (.cells #[.string (txt nm), .int .i64 (kd : Int), .int .i64 (ty : Int), .int .u64 (lo : Int), .int .u64 (hi : Int), .slice B L m, .bool mu, .int .i64 (mo : Int), .slice A K c] 41)).alloc (.cells #[.int .i64 vk, .int .u64 (vn : Int), .string (txt vt)] 24))) := Lib.hid (((Below.refl _ _).alloc (Nat.le_refl _) _).alloc (by simp) _)
  subst hty
  obtain rfl := hvk
  obtain rfl := hkd
  have HC : Hid (∀ W, Below w.heap.size w W → Calls Tryz.prog 70 #[.slice B L m, .string (txt vt)] W (fun r w' => r = .returned (.int .i64 (whichI ns vt)) ∧ W = w')) := Lib.hid (fun W hW => by
    have h := rwhich_any ns vt d B m W (hv.heap (fun h0 => hW.block d (by obtain ⟨A', c', _, _, h2⟩ := hv; exact (h2 h0).1))) (by omega)
    rw [hL] at h
    exact h)
  have HE : Hid (whichI ns vt = (i : Int)) := Lib.hid (by unfold whichI; rw [h])
  have z1 : ((vn : Int) == 0) = false := beq_eq_false_iff_ne.2 (by omega)
  clear hv hn hL hok h hz
  have i1 : (0 : Int) ≤ (i : Int) := by omega
  go_enter Tryz.func49, Tryz.ntmps49
  go_wp2_with fail
  refine (HC.out _ HB.out).mono ?_
  rintro r w2 ⟨rfl, rfl⟩
  rw [HE.out]
  go_wp2
  go_ret
  exact ⟨rfl, HB.out⟩
set_option maxRecDepth 100000 in
set_option maxHeartbeats 1000000 in
theorem rright_idno (nm : List UInt8) (kd ty lo hi : Nat) (ns : List (List UInt8)) (mu : Bool) (mo : Nat) (vk : Int) (vn : Nat) (vt : List UInt8) (B : Option Addr) (L m d : Nat) (A : Option Addr) (K c : Nat) (w : World) (hv : Vals w d (.slice B ns.length m) (txts ns)) (hL : ns.length = L) (hn : L ≤ 1000000) (hok : VlOk ⟨vk, vn, vt⟩) (hkd : kd = 1) (hvk : vk = (ty : Int)) (hty : ty = 5 ∨ ty = 6) (h : identX vt = false)  :
    Calls Tryz.prog 49 #[.agg #[.string (txt nm), .int .i64 (kd : Int), .int .i64 (ty : Int), .int .u64 (lo : Int), .int .u64 (hi : Int), .slice B L m, .bool mu, .int .i64 (mo : Int), .slice A K c], .agg #[.int .i64 vk, .int .u64 (vn : Int), .string (txt vt)]] w (AnsP (.bool false) w) := by
  have HB : Hid (Below w.heap.size w ((w.alloc (.cells #[.string (txt nm), .int .i64 (kd : Int), .int .i64 (ty : Int), .int .u64 (lo : Int), .int .u64 (hi : Int), .slice B L m, .bool mu, .int .i64 (mo : Int), .slice A K c] 41)).alloc (.cells #[.int .i64 vk, .int .u64 (vn : Int), .string (txt vt)] 24))) := Lib.hid (((Below.refl _ _).alloc (Nat.le_refl _) _).alloc (by simp) _)
  rcases hty with rfl | rfl
  all_goals
    obtain rfl := hvk
    obtain rfl := hkd
    have HC : Hid (∀ W, Calls Tryz.prog 50 #[.string (txt vt)] W (fun r w' => r = .returned (.bool false) ∧ W = w')) := Lib.hid (fun W => by have h2 := rident_any vt (by have := hok.2.2.2; simp only at this; omega) W; unfold RIdentP at h2; rw [h] at h2; exact h2)
    clear hv hn hL hok h
    go_enter Tryz.func49, Tryz.ntmps49
    go_wp2_with fail
    refine (HC.out _).mono ?_
    rintro r w2 ⟨rfl, rfl⟩
    go_wp2
    go_ret
    exact ⟨rfl, HB.out⟩
set_option maxRecDepth 100000 in
set_option maxHeartbeats 1000000 in
theorem rright_ident (nm : List UInt8) (kd ty lo hi : Nat) (ns : List (List UInt8)) (mu : Bool) (mo : Nat) (vk : Int) (vn : Nat) (vt : List UInt8) (B : Option Addr) (L m d : Nat) (A : Option Addr) (K c : Nat) (w : World) (hv : Vals w d (.slice B ns.length m) (txts ns)) (hL : ns.length = L) (hn : L ≤ 1000000) (hok : VlOk ⟨vk, vn, vt⟩) (hkd : kd = 1) (hvk : vk = (ty : Int)) (hty : ty = 5 ∨ ty = 6) (h : identX vt = true) (hz : vn = 0) :
    Calls Tryz.prog 49 #[.agg #[.string (txt nm), .int .i64 (kd : Int), .int .i64 (ty : Int), .int .u64 (lo : Int), .int .u64 (hi : Int), .slice B L m, .bool mu, .int .i64 (mo : Int), .slice A K c], .agg #[.int .i64 vk, .int .u64 (vn : Int), .string (txt vt)]] w (AnsP (.bool true) w) := by
  have HB : Hid (Below w.heap.size w ((w.alloc (.cells #[.string (txt nm), .int .i64 (kd : Int), .int .i64 (ty : Int), .int .u64 (lo : Int), .int .u64 (hi : Int), .slice B L m, .bool mu, .int .i64 (mo : Int), .slice A K c] 41)).alloc (.cells #[.int .i64 vk, .int .u64 (vn : Int), .string (txt vt)] 24))) := Lib.hid (((Below.refl _ _).alloc (Nat.le_refl _) _).alloc (by simp) _)
  rcases hty with rfl | rfl
  all_goals
    obtain rfl := hvk
    obtain rfl := hkd
    have HC : Hid (∀ W, Calls Tryz.prog 50 #[.string (txt vt)] W (fun r w' => r = .returned (.bool true) ∧ W = w')) := Lib.hid (fun W => by have h2 := rident_any vt (by have := hok.2.2.2; simp only at this; omega) W; unfold RIdentP at h2; rw [h] at h2; exact h2)
    clear hv hn hL hok h
    subst hz
    go_enter Tryz.func49, Tryz.ntmps49
    go_wp2_with fail
    refine (HC.out _).mono ?_
    rintro r w2 ⟨rfl, rfl⟩
    go_wp2
    go_ret
    exact ⟨rfl, HB.out⟩
set_option maxRecDepth 100000 in
set_option maxHeartbeats 1000000 in
theorem rright_identN (nm : List UInt8) (kd ty lo hi : Nat) (ns : List (List UInt8)) (mu : Bool) (mo : Nat) (vk : Int) (vn : Nat) (vt : List UInt8) (B : Option Addr) (L m d : Nat) (A : Option Addr) (K c : Nat) (w : World) (hv : Vals w d (.slice B ns.length m) (txts ns)) (hL : ns.length = L) (hn : L ≤ 1000000) (hok : VlOk ⟨vk, vn, vt⟩) (hkd : kd = 1) (hvk : vk = (ty : Int)) (hty : ty = 5 ∨ ty = 6) (h : identX vt = true) (hz : vn ≠ 0) :
    Calls Tryz.prog 49 #[.agg #[.string (txt nm), .int .i64 (kd : Int), .int .i64 (ty : Int), .int .u64 (lo : Int), .int .u64 (hi : Int), .slice B L m, .bool mu, .int .i64 (mo : Int), .slice A K c], .agg #[.int .i64 vk, .int .u64 (vn : Int), .string (txt vt)]] w (AnsP (.bool false) w) := by
  have HB : Hid (Below w.heap.size w ((w.alloc (.cells #[.string (txt nm), .int .i64 (kd : Int), .int .i64 (ty : Int), .int .u64 (lo : Int), .int .u64 (hi : Int), .slice B L m, .bool mu, .int .i64 (mo : Int), .slice A K c] 41)).alloc (.cells #[.int .i64 vk, .int .u64 (vn : Int), .string (txt vt)] 24))) := Lib.hid (((Below.refl _ _).alloc (Nat.le_refl _) _).alloc (by simp) _)
  rcases hty with rfl | rfl
  all_goals
    obtain rfl := hvk
    obtain rfl := hkd
    have HC : Hid (∀ W, Calls Tryz.prog 50 #[.string (txt vt)] W (fun r w' => r = .returned (.bool true) ∧ W = w')) := Lib.hid (fun W => by have h2 := rident_any vt (by have := hok.2.2.2; simp only at this; omega) W; unfold RIdentP at h2; rw [h] at h2; exact h2)
    clear hv hn hL hok h
    have z1 : ((vn : Int) == 0) = false := beq_eq_false_iff_ne.2 (by omega)
    clear hz
    go_enter Tryz.func49, Tryz.ntmps49
    go_wp2_with fail
    refine (HC.out _).mono ?_
    rintro r w2 ⟨rfl, rfl⟩
    go_wp2
    go_ret
    exact ⟨rfl, HB.out⟩
set_option maxRecDepth 100000 in
set_option maxHeartbeats 1000000 in
theorem rright_other (nm : List UInt8) (kd ty lo hi : Nat) (ns : List (List UInt8)) (mu : Bool) (mo : Nat) (vk : Int) (vn : Nat) (vt : List UInt8) (B : Option Addr) (L m d : Nat) (A : Option Addr) (K c : Nat) (w : World) (hv : Vals w d (.slice B ns.length m) (txts ns)) (hL : ns.length = L) (hn : L ≤ 1000000) (hok : VlOk ⟨vk, vn, vt⟩) (hkd : kd = 1) (hvk : vk = (ty : Int)) (hty : ty = 0 ∨ 6 < ty) :
    Calls Tryz.prog 49 #[.agg #[.string (txt nm), .int .i64 (kd : Int), .int .i64 (ty : Int), .int .u64 (lo : Int), .int .u64 (hi : Int), .slice B L m, .bool mu, .int .i64 (mo : Int), .slice A K c], .agg #[.int .i64 vk, .int .u64 (vn : Int), .string (txt vt)]] w (AnsP (.bool false) w) := by
  have HB : Hid (Below w.heap.size w ((w.alloc (.cells #[.string (txt nm), .int .i64 (kd : Int), .int .i64 (ty : Int), .int .u64 (lo : Int), .int .u64 (hi : Int), .slice B L m, .bool mu, .int .i64 (mo : Int), .slice A K c] 41)).alloc (.cells #[.int .i64 vk, .int .u64 (vn : Int), .string (txt vt)] 24))) := Lib.hid (((Below.refl _ _).alloc (Nat.le_refl _) _).alloc (by simp) _)
  have k1 : ((kd : Int) == 1) = true := by rw [hkd]; rfl
  have k1' : ((kd : Int) != 1) = false := by rw [hkd]; rfl
  have v1 : (vk == (ty : Int)) = true := by rw [hvk]; exact beq_iff_eq.2 rfl
  have v1' : (vk != (ty : Int)) = false := by rw [hvk]; unfold bne; rw [beq_iff_eq.2 rfl]; rfl
  have t1 : ((ty : Int) == 1) = false := beq_eq_false_iff_ne.2 (by omega)
  have t2 : ((ty : Int) == 2) = false := beq_eq_false_iff_ne.2 (by omega)
  have t3 : ((ty : Int) == 3) = false := beq_eq_false_iff_ne.2 (by omega)
  have t4 : ((ty : Int) == 4) = false := beq_eq_false_iff_ne.2 (by omega)
  have t5 : ((ty : Int) == 5) = false := beq_eq_false_iff_ne.2 (by omega)
  have t6 : ((ty : Int) == 6) = false := beq_eq_false_iff_ne.2 (by omega)
  clear hv hok hkd hvk hn hL hty
  go_enter Tryz.func49, Tryz.ntmps49
  go_wp2
  go_ret
  exact ⟨rfl, HB.out⟩
theorem vrright_any (a : SpD) (v : Vl) (B : Option Addr) (m d : Nat) (A : Option Addr) (K c : Nat) (w : World) (hv : Vals w d (.slice B a.names.length m) (txts a.names)) (hn : a.names.length ≤ 1000000) (hok : VlOk v) :
    Calls Tryz.prog 49 #[.agg (spC a (.slice B a.names.length m) (.slice A K c)).toArray, .agg (vC v).toArray] w (AnsP (.bool (rightX a v)) w) := by
  obtain ⟨nm, kd, ty, lo, hi, ns, mu, mo⟩ := a
  obtain ⟨vk, vn, vt⟩ := v
  have key : ∀ b : Bool, rightX ⟨nm, kd, ty, lo, hi, ns, mu, mo⟩ ⟨vk, vn, vt⟩ = b → Calls Tryz.prog 49 #[.agg (spC ⟨nm, kd, ty, lo, hi, ns, mu, mo⟩ (.slice B ns.length m) (.slice A K c)).toArray, .agg (vC ⟨vk, vn, vt⟩).toArray] w (AnsP (.bool b) w) →
      Calls Tryz.prog 49 #[.agg (spC ⟨nm, kd, ty, lo, hi, ns, mu, mo⟩ (.slice B ns.length m) (.slice A K c)).toArray, .agg (vC ⟨vk, vn, vt⟩).toArray] w (AnsP (.bool (rightX ⟨nm, kd, ty, lo, hi, ns, mu, mo⟩ ⟨vk, vn, vt⟩)) w) := fun b h hc => by rw [h]; exact hc
  refine Decidable.byCases (p := kd = 1) (fun hkd => ?_) (fun hkd => key false (by unfold rightX; simp [hkd]) (rright_kind nm kd ty lo hi ns mu mo vk vn vt B ns.length m d A K c w hv rfl hn hok hkd))
  refine Decidable.byCases (p := vk = (ty : Int)) (fun hvk => ?_) (fun hvk => key false (by unfold rightX; simp [hvk]) (rright_vkind nm kd ty lo hi ns mu mo vk vn vt B ns.length m d A K c w hv rfl hn hok hkd hvk))
  by_cases t12 : ty = 1 ∨ ty = 2
  · refine Decidable.byCases (p := lo ≤ vn) (fun h1 => ?_) (fun h1 => key false (by unfold rightX; simp [t12, h1]) (rright_low nm kd ty lo hi ns mu mo vk vn vt B ns.length m d A K c w hv rfl hn hok hkd hvk t12 (by omega)))
    refine Decidable.byCases (p := vn ≤ hi) (fun h2 => ?_) (fun h2 => key false (by unfold rightX; simp [t12, h2]) (rright_high nm kd ty lo hi ns mu mo vk vn vt B ns.length m d A K c w hv rfl hn hok hkd hvk t12 h1 (by omega)))
    by_cases h3 : vt = []
    · exact key true (by unfold rightX; simp [hkd, hvk, t12, h1, h2, h3]) (rright_num nm kd ty lo hi ns mu mo vk vn vt B ns.length m d A K c w hv rfl hn hok hkd hvk t12 h1 h2 h3)
    · exact key false (by unfold rightX; simp [t12, h3]) (rright_ntext nm kd ty lo hi ns mu mo vk vn vt B ns.length m d A K c w hv rfl hn hok hkd hvk t12 h1 h2 h3)
  by_cases t3 : ty = 3
  · refine Decidable.byCases (p := vn < 2) (fun h1 => ?_) (fun h1 => key false (by unfold rightX; simp [t3, h1]) (rright_big nm kd ty lo hi ns mu mo vk vn vt B ns.length m d A K c w hv rfl hn hok hkd hvk t3 (by omega)))
    by_cases h3 : vt = []
    · exact key true (by unfold rightX; simp [hkd, hvk, t3, h1, h3]) (rright_bool nm kd ty lo hi ns mu mo vk vn vt B ns.length m d A K c w hv rfl hn hok hkd hvk t3 h1 h3)
    · exact key false (by unfold rightX; simp [t3, h3]) (rright_btext nm kd ty lo hi ns mu mo vk vn vt B ns.length m d A K c w hv rfl hn hok hkd hvk t3 h1 h3)
  by_cases t4 : ty = 4
  · cases hw : whichX ns vt with
    | none => exact key false (by unfold rightX; simp [t4, hw]) (rright_enone nm kd ty lo hi ns mu mo vk vn vt B ns.length m d A K c w hv rfl hn hok hkd hvk t4 hw)
    | some i =>
      by_cases hz : vn = 0
      · exact key true (by unfold rightX; simp [hkd, hvk, t4, hw, hz]) (rright_enum nm kd ty lo hi ns mu mo vk vn vt B ns.length m d A K c w hv rfl hn hok hkd hvk t4 i hw hz)
      · exact key false (by unfold rightX; simp [t4, hw, hz]) (rright_enumN nm kd ty lo hi ns mu mo vk vn vt B ns.length m d A K c w hv rfl hn hok hkd hvk t4 i hw hz)
  by_cases t56 : ty = 5 ∨ ty = 6
  · cases hi' : identX vt with
    | false => exact key false (by unfold rightX; simp [t12, t3, t4, t56, hi']) (rright_idno nm kd ty lo hi ns mu mo vk vn vt B ns.length m d A K c w hv rfl hn hok hkd hvk t56 hi')
    | true =>
      by_cases hz : vn = 0
      · exact key true (by unfold rightX; simp [hkd, hvk, t12, t3, t4, t56, hi', hz]) (rright_ident nm kd ty lo hi ns mu mo vk vn vt B ns.length m d A K c w hv rfl hn hok hkd hvk t56 hi' hz)
      · exact key false (by unfold rightX; simp [t12, t3, t4, t56, hi', hz]) (rright_identN nm kd ty lo hi ns mu mo vk vn vt B ns.length m d A K c w hv rfl hn hok hkd hvk t56 hi' hz)
  · exact key false (by unfold rightX; simp [t12, t3, t4, t56]) (rright_other nm kd ty lo hi ns mu mo vk vn vt B ns.length m d A K c w hv rfl hn hok hkd hvk (by omega))
end Go.Proofs.YtljjaikejfoanaaGreat
namespace Go.Proofs.YtljjaikejfoanaaGreat
open Go.RowKit
structure OkD (a : NdD) : Prop where
  name : a.name.length ≤ 1048576
  key : a.key.length ≤ 1048576
  lo : -9223372036854775808 ≤ a.kind
  hi : a.kind ≤ 9223372036854775807
  num : a.num < 18446744073709551616
  text : a.text.length ≤ 1048576
theorem OkD.vl {a : NdD} (h : OkD a) : VlOk (vlOf a) := ⟨h.lo, h.hi, h.num, h.text⟩
def OkF : NdF → Prop
  | .nil => True
  | .cons a k r => OkD a ∧ OkF k ∧ OkF r
abbrev OkN (x : Nd) : Prop := OkD x.1 ∧ OkF x.2
theorem OkF.at {f : NdF} : ∀ {i : Nat} {y : Nd}, OkF f → f.get? i = some y → OkN y := by
  induction f with
  | nil => intro i y _ h; cases h
  | cons a k r _ ih =>
    intro i y hf h
    cases i with
    | zero => injection h with h; subst h; exact ⟨hf.1, hf.2.1⟩
    | succ i => exact ih hf.2.2 h
theorem OkF.of {f : NdF} : (∀ i y, f.get? i = some y → OkN y) → OkF f := by
  induction f with
  | nil => intro _; trivial
  | cons a k r _ ih => intro h; exact ⟨(h 0 _ rfl).1, (h 0 _ rfl).2, ih fun i y hy => h (i + 1) y hy⟩
theorem OkD.zero : OkD zeroT := ⟨by decide, by decide, by decide, by decide, by decide, by decide⟩
end Go.Proofs.YtljjaikejfoanaaGreat
