/- SclRef SclRefC VlrA -/
import Derived.Test.YtleidkpdpabkpaaGreatDoorBM5
set_option linter.unusedSimpArgs false
set_option linter.unusedVariables false
set_option maxRecDepth 100000
set_option maxHeartbeats 8000000
namespace Go.Proofs.YtleidkpdpabkpaaGreatDoor
open Go.RowKit
theorem txt_catS (a b : List UInt8) : txt a ++ txt b = txt (a ++ b) := by
 apply txt_ext
 rw [ByteArray.data_append, Array.toList_append, txt_data, txt_data, txt_data]
def RIdentP (s : List UInt8) (w : World) (r : Ending) (w' : World) : Prop := r = .returned (.bool (identX s)) ∧ w = w'
def idL (s : List UInt8) (k : Nat) : Prop := (∀ c, 0 < k → s[0]? = some c → smB c = true) ∧ ∀ j c, j < k → s[j]? = some c → nmB c = true
theorem idL_all {s : List UInt8} (h : idL s s.length) : identX s = (!s.isEmpty && decide (s.length ≤ 12)) := by
 cases s with
 | nil => rfl
 | cons c r =>
  have h1 := h.1 c (by simp) rfl
  have h2 : r.all nmB = true := List.all_eq_true.2 (fun d hd => by
   obtain ⟨j, hj, rfl⟩ := List.getElem_of_mem hd
   exact h.2 (j + 1) _ (by simp; omega) (by rw [List.getElem?_cons_succ]; exact List.getElem?_eq_getElem hj))
  simp [identX, h1, h2]
theorem id_bad {s : List UInt8} {k : Nat} {c : UInt8} (hc : s[k]? = some c) (h : smB c = false) (h2 : k = 0 ∨ nmB c = false) : identX s = false := by
 cases s with
 | nil => rfl
 | cons d r =>
  cases k with
  | zero =>
   simp at hc
   subst hc
   simp [identX, h]
  | succ k =>
   have h3 : nmB c = false := by rcases h2 with h2 | h2; cases h2; exact h2
   have h4 : r.all nmB = false := List.all_eq_false.2 ⟨c, List.mem_of_getElem? (by simpa using hc), by rw [h3]; decide⟩
   simp [identX, h4]
theorem idL_step {s : List UInt8} {k : Nat} {c : UInt8} (hc : s[k]? = some c) (h : idL s k) (h1 : smB c = true ∨ (k ≠ 0 ∧ nmB c = true)) : idL s (k + 1) := by
 have hn : nmB c = true := by rcases h1 with h1 | h1; exact sm_nm h1; exact h1.2
 refine ⟨fun d _ hd => ?_, fun j d hj hd => ?_⟩
 ·by_cases e : k = 0
  ·subst e
   rw [hc] at hd
   injection hd with hd
   rcases h1 with h1 | h1
   ·rw [← hd]; exact h1
   ·exact absurd rfl h1.1
  ·exact h.1 d (by omega) hd
 ·by_cases e : j = k
  ·subst e
   rw [hc] at hd
   injection hd with hd
   rw [← hd]; exact hn
  ·exact h.2 j d (by omega) hd
theorem sm_cases (c : UInt8) : (smB c = true ∧ 97 ≤ (c.toNat : Int) ∧ (c.toNat : Int) ≤ 122) ∨ (smB c = false ∧ (¬ 97 ≤ (c.toNat : Int) ∨ (97 ≤ (c.toNat : Int) ∧ ¬ (c.toNat : Int) ≤ 122))) := by
 unfold smB
 by_cases h1 : 97 ≤ c.toNat
 ·by_cases h2 : c.toNat ≤ 122
  ·exact .inl ⟨by simp [h1, h2], by omega, by omega⟩
  ·exact .inr ⟨by simp [h2], .inr ⟨by omega, by omega⟩⟩
 ·exact .inr ⟨by simp [h1], .inl (by omega)⟩
theorem nm_cases {c : UInt8} (h : smB c = false) : (nmB c = true ∧ (((c.toNat : Int) == 45) = true ∨ (((c.toNat : Int) == 45) = false ∧ ¬ (c.toNat : Int) < 48 ∧ ¬ 57 < (c.toNat : Int)))) ∨
  (nmB c = false ∧ ((c.toNat : Int) == 45) = false ∧ ((c.toNat : Int) < 48 ∨ (¬ (c.toNat : Int) < 48 ∧ 57 < (c.toNat : Int)))) := by
 have e45 : c = 45 ↔ c.toNat = 45 := by
  rw [← UInt8.toNat_inj]
  rfl
 unfold nmB
 rw [h]
 by_cases h0 : c = 45
 ·have h45 := e45.1 h0
  exact .inl ⟨by simp [h0], .inl (by simp; omega)⟩
 ·have hn : (c == 45) = false := beq_eq_false_iff_ne.2 h0
  have hm : ((c.toNat : Int) == 45) = false := beq_eq_false_iff_ne.2 (fun e => h0 (e45.2 (by omega)))
  by_cases h1 : 48 ≤ c.toNat
  ·by_cases h2 : c.toNat ≤ 57
   ·exact .inl ⟨by simp [h1, h2], .inr ⟨hm, by omega, by omega⟩⟩
   ·exact .inr ⟨by simp [h2, hn], hm, .inr ⟨by omega, by omega⟩⟩
  ·exact .inr ⟨by simp [h1, hn], hm, .inl (by omega)⟩
theorem rident_any (s : List UInt8) (hs : s.length ≤ 9223372036854775807) (w : World) : Calls Tryz.prog 54 #[.string (txt s)] w (RIdentP s w) := by
 have hsz := txt_size s
 have ts : (txt s).toList = s := txt_toList s
 go_enter Tryz.func54, Tryz.ntmps54
 go_wp2
 go_loop [3] (fun i => ∃ k : Nat, k ≤ s.length ∧ i = .int .i64 (k : Int) ∧ Hid (idL s k)) (fun i => s.length - (intOf i).toNat)
 case atStart => exact ⟨0, by omega, rfl, hHd ⟨fun c h => by omega, fun j c h => by omega⟩⟩
 case round =>
  obtain ⟨k, hk, rfl, HK⟩ := hrel
  by_cases h1 : k < s.length
  ·have d1 : (k : Int) < (s.length : Int) := by omega
   obtain ⟨c, hc⟩ : ∃ c, s[k]? = some c := ⟨_, List.getElem?_eq_getElem h1⟩
   have hin : k < (txt s).size := by rw [hsz]; exact h1
   have hix : (((txt s)[k]'hin).toNat : Int) = (c.toNat : Int) := by rw [txt_get s k h1 hin]; rw [List.getElem?_eq_getElem h1] at hc; injection hc with hc; rw [hc]
   have HC := hHd hc
   rcases sm_cases c with ⟨hb, g1, g2⟩ | ⟨hb, g⟩
   ·have HS := hHd (idL_step hc HK.out (.inl hb))
    clear hc hb HK
    generalize c.toNat = m at hix g1 g2
    go_wp2
    go_round
    case rel => exact ⟨k + 1, by omega, by go_num, HS⟩
    case measure => simp [intOf]; omega
   ·have hk0 : (k = 0 ∧ Hid (identX s = false)) ∨ (((k : Int) == 0) = false ∧ Hid (k ≠ 0)) := by
     by_cases e : k = 0
     ·exact .inl ⟨e, hHd (id_bad hc hb (.inl e))⟩
     ·exact .inr ⟨beq_eq_false_iff_ne.2 (by omega), hHd e⟩
    rcases hk0 with ⟨rfl, HF⟩ | ⟨n0, HN0⟩
    ·clear hc hb HK
     generalize c.toNat = m at hix g
     rcases g with g | ⟨g, g'⟩
     all_goals
      go_wp2
      go_ret
      exact ⟨by rw [HF.out]; rfl, rfl⟩
    rcases nm_cases hb with ⟨hn, q⟩ | ⟨hn, q1, q⟩
    ·have HS := hHd (idL_step hc HK.out (.inr ⟨HN0.out, hn⟩))
     clear hc hb HK hn
     generalize c.toNat = m at hix g q
     have qq : (((m : Int) == 45) = true ∧ ((m : Int) != 45) = false) ∨ ((((m : Int) == 45) = false ∧ ((m : Int) != 45) = true) ∧ ¬ (m : Int) < 48 ∧ ¬ 57 < (m : Int)) := by
      rcases q with q | ⟨q, q'⟩
      ·exact .inl ⟨q, by unfold bne; rw [q]; rfl⟩
      ·exact .inr ⟨⟨q, by unfold bne; rw [q]; rfl⟩, q'⟩
     clear q
     rcases g with g | ⟨g, g'⟩ <;> rcases qq with ⟨q0, q⟩ | ⟨⟨q0, q⟩, q', q''⟩
     all_goals
      go_wp2
      go_round
      case rel => exact ⟨k + 1, by omega, by go_num, HS⟩
      case measure => simp [intOf]; omega
    ·have HF : Hid (identX s = false) := hHd (id_bad hc hb (.inr hn))
     clear hc hb HK hn
     generalize c.toNat = m at hix g q q1
     have q2 : ((m : Int) != 45) = true := by unfold bne; rw [q1]; rfl
     rcases g with g | ⟨g, g'⟩ <;> rcases q with q | ⟨q, q'⟩
     all_goals
      go_wp2
      go_ret
      exact ⟨by rw [HF.out]; rfl, rfl⟩
  ·obtain rfl : k = s.length := by omega
   have HV := hHd (idL_all HK.out)
   have hw : (s = []) ∨ (s.isEmpty = false ∧ ¬ (s.length : Int) ≤ 12) ∨ (s.isEmpty = false ∧ (s.length : Int) ≤ 12) := by
    cases s with
    | nil => exact .inl rfl
    | cons a r =>
     by_cases h : (a :: r).length ≤ 12
     ·exact .inr (.inr ⟨rfl, by omega⟩)
     ·exact .inr (.inl ⟨rfl, by omega⟩)
   clear HK h1
   rcases hw with rfl | ⟨hE, d⟩ | ⟨hE, d⟩
   ·go_wp2
    go_ret
    exact ⟨by rw [HV.out]; rfl, rfl⟩
   ·have HV2 : Hid (identX s = false) := hHd (by rw [HV.out, hE, Bool.not_false, Bool.true_and]; exact decide_eq_false (by omega))
    clear HV
    go_wp2
    go_ret
    exact ⟨by rw [HV2.out]; rfl, rfl⟩
   ·have HV2 : Hid (identX s = true) := hHd (by rw [HV.out, hE, Bool.not_false, Bool.true_and]; exact decide_eq_true (by omega))
    clear HV
    go_wp2
    go_ret
    exact ⟨by rw [HV2.out]; rfl, rfl⟩
abbrev vC (v : Vl) : List Value := [.int .i64 v.kind, .int .u64 (v.num : Int), .string (txt v.text)]
def VlOk (v : Vl) : Prop := -9223372036854775808 ≤ v.kind ∧ v.kind ≤ 9223372036854775807 ∧ v.num < 18446744073709551616 ∧ v.text.length ≤ 1048576
theorem rwhich_any (l : List (List UInt8)) (s : List UInt8) (d : Nat) (A : Option Addr) (c : Nat) (w : World) (hv : Vals w d (.slice A l.length c) (txts l)) (hl : l.length ≤ 1000000) :
  Calls Tryz.prog 120 #[.slice A l.length c, .string (txt s)] w (fun r w' => r = .returned (.int .i64 (whichI l s)) ∧ w = w') := by
 have HV := hHd hv
 have ts : (txt s).toList = s := txt_toList s
 clear hv
 go_enter Tryz.func120, Tryz.ntmps120
 go_wp2
 go_loop [5] (fun i => ∃ k : Nat, k ≤ l.length ∧ i = .int .i64 (k : Int) ∧ Hid (∀ (j : Nat) (y : List UInt8), j < k → l[j]? = some y → y ≠ s)) (fun i => l.length - (intOf i).toNat)
 case atStart => exact ⟨0, Nat.zero_le _, rfl, hHd (fun j y h => by omega)⟩
 case round =>
  obtain ⟨k, hk, rfl, HL⟩ := hrel
  by_cases hlt : k < l.length
  ·obtain ⟨n, hn⟩ : ∃ n, l[k]? = some n := ⟨_, List.getElem?_eq_getElem hlt⟩
   obtain ⟨o, rfl, -, -, -, hcn⟩ := HV.out.at (txts_at hn)
   have i1 : (0 : Int) ≤ (k : Int) := by omega
   have i2 : (k : Int) < (l.length : Int) := by omega
   have tn : (txt n).toList = n := txt_toList n
   have HG := hHd hn
   clear hn
   by_cases e : n = s
   ·have h1 : (n == s) = true := beq_iff_eq.2 e
    have HF : Hid (whichI l s = (k : Int)) := hHd (by unfold whichI; rw [which_is (e ▸ HG.out) HL.out])
    clear e
    go_wp2
    go_ret
    exact ⟨by rw [HF.out]; rfl, rfl⟩
   ·have h1 : (n == s) = false := beq_eq_false_iff_ne.2 e
    have HL2 : Hid (∀ (j : Nat) (y : List UInt8), j < k + 1 → l[j]? = some y → y ≠ s) := hHd (fun j y hj hy => by
     by_cases ej : j = k
     ·subst ej; rw [HG.out] at hy; injection hy with hy; subst hy; exact e
     ·exact HL.out j y (by omega) hy)
    clear e
    go_wp2
    go_round
    case rel => exact ⟨k + 1, by omega, by go_num, HL2⟩
    case measure => simp [intOf]; omega
  ·have HF : Hid (whichI l s = -1) := hHd (by unfold whichI; rw [which_no (fun j y hy => HL.out j y (by have := (List.getElem?_eq_some_iff.1 hy).1; omega) hy)])
   have i2 : ¬ (k : Int) < (l.length : Int) := by omega
   go_wp2
   go_ret
   exact ⟨by rw [HF.out]; rfl, rfl⟩
theorem rright_kind (nm : List UInt8) (kd ty lo hi : Nat) (ns : List (List UInt8)) (mu : Bool) (mo : Nat) (vk : Int) (vn : Nat) (vt : List UInt8) (B : Option Addr) (L m d : Nat) (A : Option Addr) (K c : Nat) (w : World) (hv : Vals w d (.slice B ns.length m) (txts ns)) (hL : ns.length = L) (hn : L ≤ 1000000) (hok : VlOk ⟨vk, vn, vt⟩) (hkd : kd ≠ 1) :
  Calls Tryz.prog 112 #[.agg (cS (txt nm) kd ty lo hi (.slice B L m) mu mo (.slice A K c)), .agg #[.int .i64 vk, .int .u64 (vn : Int), .string (txt vt)]] w (AnsP (.bool false) w) := by
 have HB : Hid (Below w.heap.size w ((w.alloc (.cells (cS (txt nm) kd ty lo hi (.slice B L m) mu mo (.slice A K c)) 109)).alloc (.cells #[.int .i64 vk, .int .u64 (vn : Int), .string (txt vt)] 39))) := hHd (bAl.alloc (by simp) _)
 have k1 : ((kd : Int) == 1) = false := beq_eq_false_iff_ne.2 (by omega)
 have k1' : ((kd : Int) != 1) = true := by unfold bne; rw [k1]; rfl
 clear hv hok hkd hn hL
 go_enter Tryz.func112, Tryz.ntmps112
 go_wp2
 go_ret
 exact ⟨rfl, HB.out⟩
theorem rright_vkind (nm : List UInt8) (kd ty lo hi : Nat) (ns : List (List UInt8)) (mu : Bool) (mo : Nat) (vk : Int) (vn : Nat) (vt : List UInt8) (B : Option Addr) (L m d : Nat) (A : Option Addr) (K c : Nat) (w : World) (hv : Vals w d (.slice B ns.length m) (txts ns)) (hL : ns.length = L) (hn : L ≤ 1000000) (hok : VlOk ⟨vk, vn, vt⟩) (hkd : kd = 1) (hvk : vk ≠ (ty : Int)) :
  Calls Tryz.prog 112 #[.agg (cS (txt nm) kd ty lo hi (.slice B L m) mu mo (.slice A K c)), .agg #[.int .i64 vk, .int .u64 (vn : Int), .string (txt vt)]] w (AnsP (.bool false) w) := by
 have HB : Hid (Below w.heap.size w ((w.alloc (.cells (cS (txt nm) kd ty lo hi (.slice B L m) mu mo (.slice A K c)) 109)).alloc (.cells #[.int .i64 vk, .int .u64 (vn : Int), .string (txt vt)] 39))) := hHd (bAl.alloc (by simp) _)
 have k1 : ((kd : Int) == 1) = true := by rw [hkd]; rfl
 have k1' : ((kd : Int) != 1) = false := by rw [hkd]; rfl
 have v1 : (vk == (ty : Int)) = false := beq_eq_false_iff_ne.2 hvk
 have v1' : (vk != (ty : Int)) = true := by unfold bne; rw [v1]; rfl
 clear hv hok hkd hvk hn hL
 go_enter Tryz.func112, Tryz.ntmps112
 go_wp2
 go_ret
 exact ⟨rfl, HB.out⟩
theorem rright_low (nm : List UInt8) (kd ty lo hi : Nat) (ns : List (List UInt8)) (mu : Bool) (mo : Nat) (vk : Int) (vn : Nat) (vt : List UInt8) (B : Option Addr) (L m d : Nat) (A : Option Addr) (K c : Nat) (w : World) (hv : Vals w d (.slice B ns.length m) (txts ns)) (hL : ns.length = L) (hn : L ≤ 1000000) (hok : VlOk ⟨vk, vn, vt⟩) (hkd : kd = 1) (hvk : vk = (ty : Int)) (hty : ty = 1 ∨ ty = 2) (h : vn < lo) :
  Calls Tryz.prog 112 #[.agg (cS (txt nm) kd ty lo hi (.slice B L m) mu mo (.slice A K c)), .agg #[.int .i64 vk, .int .u64 (vn : Int), .string (txt vt)]] w (AnsP (.bool false) w) := by
 have HB : Hid (Below w.heap.size w ((w.alloc (.cells (cS (txt nm) kd ty lo hi (.slice B L m) mu mo (.slice A K c)) 109)).alloc (.cells #[.int .i64 vk, .int .u64 (vn : Int), .string (txt vt)] 39))) := hHd (bAl.alloc (by simp) _)
 rcases hty with rfl | rfl
 all_goals
  obtain rfl := hvk
  obtain rfl := hkd
  obtain ⟨-, -, o3, -⟩ := hok
  clear hv hn hL
  have h1 : ¬ (lo : Int) ≤ (vn : Int) := by omega
  have h2 : decide (lo ≤ vn) = false := decide_eq_false (by omega)
  go_enter Tryz.func112, Tryz.ntmps112
  go_wp2
  go_ret
  exact ⟨rfl, HB.out⟩
theorem rright_high (nm : List UInt8) (kd ty lo hi : Nat) (ns : List (List UInt8)) (mu : Bool) (mo : Nat) (vk : Int) (vn : Nat) (vt : List UInt8) (B : Option Addr) (L m d : Nat) (A : Option Addr) (K c : Nat) (w : World) (hv : Vals w d (.slice B ns.length m) (txts ns)) (hL : ns.length = L) (hn : L ≤ 1000000) (hok : VlOk ⟨vk, vn, vt⟩) (hkd : kd = 1) (hvk : vk = (ty : Int)) (hty : ty = 1 ∨ ty = 2) (h : lo ≤ vn) (h' : hi < vn) :
  Calls Tryz.prog 112 #[.agg (cS (txt nm) kd ty lo hi (.slice B L m) mu mo (.slice A K c)), .agg #[.int .i64 vk, .int .u64 (vn : Int), .string (txt vt)]] w (AnsP (.bool false) w) := by
 have HB : Hid (Below w.heap.size w ((w.alloc (.cells (cS (txt nm) kd ty lo hi (.slice B L m) mu mo (.slice A K c)) 109)).alloc (.cells #[.int .i64 vk, .int .u64 (vn : Int), .string (txt vt)] 39))) := hHd (bAl.alloc (by simp) _)
 rcases hty with rfl | rfl
 all_goals
  obtain rfl := hvk
  obtain rfl := hkd
  obtain ⟨-, -, o3, -⟩ := hok
  clear hv hn hL
  have h1 : (lo : Int) ≤ (vn : Int) := by omega
  have h2 : decide (lo ≤ vn) = true := decide_eq_true (by omega)
  have h3 : ¬ (vn : Int) ≤ (hi : Int) := by omega
  have h4 : decide (vn ≤ hi) = false := decide_eq_false (by omega)
  go_enter Tryz.func112, Tryz.ntmps112
  go_wp2
  go_ret
  exact ⟨rfl, HB.out⟩
theorem rright_ntext (nm : List UInt8) (kd ty lo hi : Nat) (ns : List (List UInt8)) (mu : Bool) (mo : Nat) (vk : Int) (vn : Nat) (vt : List UInt8) (B : Option Addr) (L m d : Nat) (A : Option Addr) (K c : Nat) (w : World) (hv : Vals w d (.slice B ns.length m) (txts ns)) (hL : ns.length = L) (hn : L ≤ 1000000) (hok : VlOk ⟨vk, vn, vt⟩) (hkd : kd = 1) (hvk : vk = (ty : Int)) (hty : ty = 1 ∨ ty = 2) (h : lo ≤ vn) (h' : vn ≤ hi) (ht : vt ≠ []) :
  Calls Tryz.prog 112 #[.agg (cS (txt nm) kd ty lo hi (.slice B L m) mu mo (.slice A K c)), .agg #[.int .i64 vk, .int .u64 (vn : Int), .string (txt vt)]] w (AnsP (.bool false) w) := by
 have HB : Hid (Below w.heap.size w ((w.alloc (.cells (cS (txt nm) kd ty lo hi (.slice B L m) mu mo (.slice A K c)) 109)).alloc (.cells #[.int .i64 vk, .int .u64 (vn : Int), .string (txt vt)] 39))) := hHd (bAl.alloc (by simp) _)
 rcases hty with rfl | rfl
 all_goals
  obtain rfl := hvk
  obtain rfl := hkd
  obtain ⟨-, -, o3, -⟩ := hok
  clear hv hn hL
  have h1 : (lo : Int) ≤ (vn : Int) := by omega
  have h2 : decide (lo ≤ vn) = true := decide_eq_true (by omega)
  have h3 : (vn : Int) ≤ (hi : Int) := by omega
  have h4 : decide (vn ≤ hi) = true := decide_eq_true (by omega)
  have h5 : (txt vt).toList.isEmpty = false := by rw [txt_toList]; simpa using ht
  have h6 : (vt == []) = false := beq_eq_false_iff_ne.2 ht
  have tt : (txt vt).toList = vt := txt_toList vt
  clear ht
  go_enter Tryz.func112, Tryz.ntmps112
  go_wp2
  go_ret
  exact ⟨rfl, HB.out⟩
theorem rright_num (nm : List UInt8) (kd ty lo hi : Nat) (ns : List (List UInt8)) (mu : Bool) (mo : Nat) (vk : Int) (vn : Nat) (vt : List UInt8) (B : Option Addr) (L m d : Nat) (A : Option Addr) (K c : Nat) (w : World) (hv : Vals w d (.slice B ns.length m) (txts ns)) (hL : ns.length = L) (hn : L ≤ 1000000) (hok : VlOk ⟨vk, vn, vt⟩) (hkd : kd = 1) (hvk : vk = (ty : Int)) (hty : ty = 1 ∨ ty = 2) (h : lo ≤ vn) (h' : vn ≤ hi) (ht : vt = []) :
  Calls Tryz.prog 112 #[.agg (cS (txt nm) kd ty lo hi (.slice B L m) mu mo (.slice A K c)), .agg #[.int .i64 vk, .int .u64 (vn : Int), .string (txt vt)]] w (AnsP (.bool true) w) := by
 have HB : Hid (Below w.heap.size w ((w.alloc (.cells (cS (txt nm) kd ty lo hi (.slice B L m) mu mo (.slice A K c)) 109)).alloc (.cells #[.int .i64 vk, .int .u64 (vn : Int), .string (txt vt)] 39))) := hHd (bAl.alloc (by simp) _)
 rcases hty with rfl | rfl
 all_goals
  obtain rfl := hvk
  obtain rfl := hkd
  obtain ⟨-, -, o3, -⟩ := hok
  clear hv hn hL
  have h1 : (lo : Int) ≤ (vn : Int) := by omega
  have h2 : decide (lo ≤ vn) = true := decide_eq_true (by omega)
  have h3 : (vn : Int) ≤ (hi : Int) := by omega
  have h4 : decide (vn ≤ hi) = true := decide_eq_true (by omega)
  have h5 : (txt vt).toList.isEmpty = true := by rw [ht, txt_toList]; rfl
  have h5b : (!(txt vt).toList.isEmpty) = false := by rw [h5]; rfl
  have h6 : (vt == []) = true := by rw [ht]; rfl
  have tt : (txt vt).toList = vt := txt_toList vt
  clear ht
  go_enter Tryz.func112, Tryz.ntmps112
  go_wp2
  go_ret
  exact ⟨rfl, HB.out⟩
theorem rright_big (nm : List UInt8) (kd ty lo hi : Nat) (ns : List (List UInt8)) (mu : Bool) (mo : Nat) (vk : Int) (vn : Nat) (vt : List UInt8) (B : Option Addr) (L m d : Nat) (A : Option Addr) (K c : Nat) (w : World) (hv : Vals w d (.slice B ns.length m) (txts ns)) (hL : ns.length = L) (hn : L ≤ 1000000) (hok : VlOk ⟨vk, vn, vt⟩) (hkd : kd = 1) (hvk : vk = (ty : Int)) (hty : ty = 3) (h : 2 ≤ vn) :
  Calls Tryz.prog 112 #[.agg (cS (txt nm) kd ty lo hi (.slice B L m) mu mo (.slice A K c)), .agg #[.int .i64 vk, .int .u64 (vn : Int), .string (txt vt)]] w (AnsP (.bool false) w) := by
 have HB : Hid (Below w.heap.size w ((w.alloc (.cells (cS (txt nm) kd ty lo hi (.slice B L m) mu mo (.slice A K c)) 109)).alloc (.cells #[.int .i64 vk, .int .u64 (vn : Int), .string (txt vt)] 39))) := hHd (bAl.alloc (by simp) _)
 subst hty
 obtain rfl := hvk
 obtain rfl := hkd
 clear hv hn hL hok
 have h1 : ¬ (vn : Int) < 2 := by omega
 go_enter Tryz.func112, Tryz.ntmps112
 go_wp2
 go_ret
 exact ⟨rfl, HB.out⟩
theorem rright_btext (nm : List UInt8) (kd ty lo hi : Nat) (ns : List (List UInt8)) (mu : Bool) (mo : Nat) (vk : Int) (vn : Nat) (vt : List UInt8) (B : Option Addr) (L m d : Nat) (A : Option Addr) (K c : Nat) (w : World) (hv : Vals w d (.slice B ns.length m) (txts ns)) (hL : ns.length = L) (hn : L ≤ 1000000) (hok : VlOk ⟨vk, vn, vt⟩) (hkd : kd = 1) (hvk : vk = (ty : Int)) (hty : ty = 3) (h : vn < 2) (ht : vt ≠ []) :
  Calls Tryz.prog 112 #[.agg (cS (txt nm) kd ty lo hi (.slice B L m) mu mo (.slice A K c)), .agg #[.int .i64 vk, .int .u64 (vn : Int), .string (txt vt)]] w (AnsP (.bool false) w) := by
 have HB : Hid (Below w.heap.size w ((w.alloc (.cells (cS (txt nm) kd ty lo hi (.slice B L m) mu mo (.slice A K c)) 109)).alloc (.cells #[.int .i64 vk, .int .u64 (vn : Int), .string (txt vt)] 39))) := hHd (bAl.alloc (by simp) _)
 subst hty
 obtain rfl := hvk
 obtain rfl := hkd
 clear hv hn hL hok
 have h1 : (vn : Int) < 2 := by omega
 have h5 : (txt vt).toList.isEmpty = false := by rw [txt_toList]; simpa using ht
 have h6 : (vt == []) = false := beq_eq_false_iff_ne.2 ht
 have tt : (txt vt).toList = vt := txt_toList vt
 clear ht
 go_enter Tryz.func112, Tryz.ntmps112
 go_wp2
 go_ret
 exact ⟨rfl, HB.out⟩
theorem rright_bool (nm : List UInt8) (kd ty lo hi : Nat) (ns : List (List UInt8)) (mu : Bool) (mo : Nat) (vk : Int) (vn : Nat) (vt : List UInt8) (B : Option Addr) (L m d : Nat) (A : Option Addr) (K c : Nat) (w : World) (hv : Vals w d (.slice B ns.length m) (txts ns)) (hL : ns.length = L) (hn : L ≤ 1000000) (hok : VlOk ⟨vk, vn, vt⟩) (hkd : kd = 1) (hvk : vk = (ty : Int)) (hty : ty = 3) (h : vn < 2) (ht : vt = []) :
  Calls Tryz.prog 112 #[.agg (cS (txt nm) kd ty lo hi (.slice B L m) mu mo (.slice A K c)), .agg #[.int .i64 vk, .int .u64 (vn : Int), .string (txt vt)]] w (AnsP (.bool true) w) := by
 have HB : Hid (Below w.heap.size w ((w.alloc (.cells (cS (txt nm) kd ty lo hi (.slice B L m) mu mo (.slice A K c)) 109)).alloc (.cells #[.int .i64 vk, .int .u64 (vn : Int), .string (txt vt)] 39))) := hHd (bAl.alloc (by simp) _)
 subst hty
 obtain rfl := hvk
 obtain rfl := hkd
 clear hv hn hL hok
 have h1 : (vn : Int) < 2 := by omega
 have h5 : (txt vt).toList.isEmpty = true := by rw [ht, txt_toList]; rfl
 have h5b : (!(txt vt).toList.isEmpty) = false := by rw [h5]; rfl
 have h6 : (vt == []) = true := by rw [ht]; rfl
 have tt : (txt vt).toList = vt := txt_toList vt
 clear ht
 go_enter Tryz.func112, Tryz.ntmps112
 go_wp2
 go_ret
 exact ⟨rfl, HB.out⟩
theorem rright_enone (nm : List UInt8) (kd ty lo hi : Nat) (ns : List (List UInt8)) (mu : Bool) (mo : Nat) (vk : Int) (vn : Nat) (vt : List UInt8) (B : Option Addr) (L m d : Nat) (A : Option Addr) (K c : Nat) (w : World) (hv : Vals w d (.slice B ns.length m) (txts ns)) (hL : ns.length = L) (hn : L ≤ 1000000) (hok : VlOk ⟨vk, vn, vt⟩) (hkd : kd = 1) (hvk : vk = (ty : Int)) (hty : ty = 4) (h : whichX ns vt = none) :
  Calls Tryz.prog 112 #[.agg (cS (txt nm) kd ty lo hi (.slice B L m) mu mo (.slice A K c)), .agg #[.int .i64 vk, .int .u64 (vn : Int), .string (txt vt)]] w (AnsP (.bool false) w) := by
 have HB : Hid (Below w.heap.size w ((w.alloc (.cells (cS (txt nm) kd ty lo hi (.slice B L m) mu mo (.slice A K c)) 109)).alloc (.cells #[.int .i64 vk, .int .u64 (vn : Int), .string (txt vt)] 39))) := hHd (bAl.alloc (by simp) _)
 subst hty
 obtain rfl := hvk
 obtain rfl := hkd
 have HC : Hid (∀ W, Below w.heap.size w W → Calls Tryz.prog 120 #[.slice B L m, .string (txt vt)] W (fun r w' => r = .returned (.int .i64 (whichI ns vt)) ∧ W = w')) := hHd (fun W hW => by
  have h := rwhich_any ns vt d B m W (hv.heap (fun h0 => hW.block d (by obtain ⟨A', c', _, _, h2⟩ := hv; exact (h2 h0).1))) (by omega)
  rw [hL] at h
  exact h)
 have HE : Hid (whichI ns vt = -1) := hHd (by unfold whichI; rw [h])
 clear hv hn hL hok h
 go_enter Tryz.func112, Tryz.ntmps112
 go_wp2_with fail
 refine (HC.out _ HB.out).mono ?_
 rintro r w2 ⟨rfl, rfl⟩
 rw [HE.out]
 go_wp2
 go_ret
 exact ⟨rfl, HB.out⟩
theorem rright_enum (nm : List UInt8) (kd ty lo hi : Nat) (ns : List (List UInt8)) (mu : Bool) (mo : Nat) (vk : Int) (vn : Nat) (vt : List UInt8) (B : Option Addr) (L m d : Nat) (A : Option Addr) (K c : Nat) (w : World) (hv : Vals w d (.slice B ns.length m) (txts ns)) (hL : ns.length = L) (hn : L ≤ 1000000) (hok : VlOk ⟨vk, vn, vt⟩) (hkd : kd = 1) (hvk : vk = (ty : Int)) (hty : ty = 4) (i : Nat) (h : whichX ns vt = some i) (hz : vn = 0) :
  Calls Tryz.prog 112 #[.agg (cS (txt nm) kd ty lo hi (.slice B L m) mu mo (.slice A K c)), .agg #[.int .i64 vk, .int .u64 (vn : Int), .string (txt vt)]] w (AnsP (.bool true) w) := by
 have HB : Hid (Below w.heap.size w ((w.alloc (.cells (cS (txt nm) kd ty lo hi (.slice B L m) mu mo (.slice A K c)) 109)).alloc (.cells #[.int .i64 vk, .int .u64 (vn : Int), .string (txt vt)] 39))) := hHd (bAl.alloc (by simp) _)
 subst hty
 obtain rfl := hvk
 obtain rfl := hkd
 have HC : Hid (∀ W, Below w.heap.size w W → Calls Tryz.prog 120 #[.slice B L m, .string (txt vt)] W (fun r w' => r = .returned (.int .i64 (whichI ns vt)) ∧ W = w')) := hHd (fun W hW => by
  have h := rwhich_any ns vt d B m W (hv.heap (fun h0 => hW.block d (by obtain ⟨A', c', _, _, h2⟩ := hv; exact (h2 h0).1))) (by omega)
  rw [hL] at h
  exact h)
 have HE : Hid (whichI ns vt = (i : Int)) := hHd (by unfold whichI; rw [h])
 clear hv hn hL hok h
 subst hz
 have i1 : (0 : Int) ≤ (i : Int) := by omega
 go_enter Tryz.func112, Tryz.ntmps112
 go_wp2_with fail
 refine (HC.out _ HB.out).mono ?_
 rintro r w2 ⟨rfl, rfl⟩
 rw [HE.out]
 go_wp2
 go_ret
 exact ⟨rfl, HB.out⟩
theorem rright_enumN (nm : List UInt8) (kd ty lo hi : Nat) (ns : List (List UInt8)) (mu : Bool) (mo : Nat) (vk : Int) (vn : Nat) (vt : List UInt8) (B : Option Addr) (L m d : Nat) (A : Option Addr) (K c : Nat) (w : World) (hv : Vals w d (.slice B ns.length m) (txts ns)) (hL : ns.length = L) (hn : L ≤ 1000000) (hok : VlOk ⟨vk, vn, vt⟩) (hkd : kd = 1) (hvk : vk = (ty : Int)) (hty : ty = 4) (i : Nat) (h : whichX ns vt = some i) (hz : vn ≠ 0) :
  Calls Tryz.prog 112 #[.agg (cS (txt nm) kd ty lo hi (.slice B L m) mu mo (.slice A K c)), .agg #[.int .i64 vk, .int .u64 (vn : Int), .string (txt vt)]] w (AnsP (.bool false) w) := by
 have HB : Hid (Below w.heap.size w ((w.alloc (.cells (cS (txt nm) kd ty lo hi (.slice B L m) mu mo (.slice A K c)) 109)).alloc (.cells #[.int .i64 vk, .int .u64 (vn : Int), .string (txt vt)] 39))) := hHd (bAl.alloc (by simp) _)
 subst hty
 obtain rfl := hvk
 obtain rfl := hkd
 have HC : Hid (∀ W, Below w.heap.size w W → Calls Tryz.prog 120 #[.slice B L m, .string (txt vt)] W (fun r w' => r = .returned (.int .i64 (whichI ns vt)) ∧ W = w')) := hHd (fun W hW => by
  have h := rwhich_any ns vt d B m W (hv.heap (fun h0 => hW.block d (by obtain ⟨A', c', _, _, h2⟩ := hv; exact (h2 h0).1))) (by omega)
  rw [hL] at h
  exact h)
 have HE : Hid (whichI ns vt = (i : Int)) := hHd (by unfold whichI; rw [h])
 have z1 : ((vn : Int) == 0) = false := beq_eq_false_iff_ne.2 (by omega)
 clear hv hn hL hok h hz
 have i1 : (0 : Int) ≤ (i : Int) := by omega
 go_enter Tryz.func112, Tryz.ntmps112
 go_wp2_with fail
 refine (HC.out _ HB.out).mono ?_
 rintro r w2 ⟨rfl, rfl⟩
 rw [HE.out]
 go_wp2
 go_ret
 exact ⟨rfl, HB.out⟩
theorem rright_idno (nm : List UInt8) (kd ty lo hi : Nat) (ns : List (List UInt8)) (mu : Bool) (mo : Nat) (vk : Int) (vn : Nat) (vt : List UInt8) (B : Option Addr) (L m d : Nat) (A : Option Addr) (K c : Nat) (w : World) (hv : Vals w d (.slice B ns.length m) (txts ns)) (hL : ns.length = L) (hn : L ≤ 1000000) (hok : VlOk ⟨vk, vn, vt⟩) (hkd : kd = 1) (hvk : vk = (ty : Int)) (hty : ty = 5 ∨ ty = 6) (h : identX vt = false)  :
  Calls Tryz.prog 112 #[.agg (cS (txt nm) kd ty lo hi (.slice B L m) mu mo (.slice A K c)), .agg #[.int .i64 vk, .int .u64 (vn : Int), .string (txt vt)]] w (AnsP (.bool false) w) := by
 have HB : Hid (Below w.heap.size w ((w.alloc (.cells (cS (txt nm) kd ty lo hi (.slice B L m) mu mo (.slice A K c)) 109)).alloc (.cells #[.int .i64 vk, .int .u64 (vn : Int), .string (txt vt)] 39))) := hHd (bAl.alloc (by simp) _)
 rcases hty with rfl | rfl
 all_goals
  obtain rfl := hvk
  obtain rfl := hkd
  have HC : Hid (∀ W, Calls Tryz.prog 54 #[.string (txt vt)] W (fun r w' => r = .returned (.bool false) ∧ W = w')) := hHd (fun W => by have h2 := rident_any vt (by have := hok.2.2.2; simp only at this; omega) W; unfold RIdentP at h2; rw [h] at h2; exact h2)
  clear hv hn hL hok h
  go_enter Tryz.func112, Tryz.ntmps112
  go_wp2_with fail
  refine (HC.out _).mono ?_
  rintro r w2 ⟨rfl, rfl⟩
  go_wp2
  go_ret
  exact ⟨rfl, HB.out⟩
theorem rright_ident (nm : List UInt8) (kd ty lo hi : Nat) (ns : List (List UInt8)) (mu : Bool) (mo : Nat) (vk : Int) (vn : Nat) (vt : List UInt8) (B : Option Addr) (L m d : Nat) (A : Option Addr) (K c : Nat) (w : World) (hv : Vals w d (.slice B ns.length m) (txts ns)) (hL : ns.length = L) (hn : L ≤ 1000000) (hok : VlOk ⟨vk, vn, vt⟩) (hkd : kd = 1) (hvk : vk = (ty : Int)) (hty : ty = 5 ∨ ty = 6) (h : identX vt = true) (hz : vn = 0) :
  Calls Tryz.prog 112 #[.agg (cS (txt nm) kd ty lo hi (.slice B L m) mu mo (.slice A K c)), .agg #[.int .i64 vk, .int .u64 (vn : Int), .string (txt vt)]] w (AnsP (.bool true) w) := by
 have HB : Hid (Below w.heap.size w ((w.alloc (.cells (cS (txt nm) kd ty lo hi (.slice B L m) mu mo (.slice A K c)) 109)).alloc (.cells #[.int .i64 vk, .int .u64 (vn : Int), .string (txt vt)] 39))) := hHd (bAl.alloc (by simp) _)
 rcases hty with rfl | rfl
 all_goals
  obtain rfl := hvk
  obtain rfl := hkd
  have HC : Hid (∀ W, Calls Tryz.prog 54 #[.string (txt vt)] W (fun r w' => r = .returned (.bool true) ∧ W = w')) := hHd (fun W => by have h2 := rident_any vt (by have := hok.2.2.2; simp only at this; omega) W; unfold RIdentP at h2; rw [h] at h2; exact h2)
  clear hv hn hL hok h
  subst hz
  go_enter Tryz.func112, Tryz.ntmps112
  go_wp2_with fail
  refine (HC.out _).mono ?_
  rintro r w2 ⟨rfl, rfl⟩
  go_wp2
  go_ret
  exact ⟨rfl, HB.out⟩
theorem rright_identN (nm : List UInt8) (kd ty lo hi : Nat) (ns : List (List UInt8)) (mu : Bool) (mo : Nat) (vk : Int) (vn : Nat) (vt : List UInt8) (B : Option Addr) (L m d : Nat) (A : Option Addr) (K c : Nat) (w : World) (hv : Vals w d (.slice B ns.length m) (txts ns)) (hL : ns.length = L) (hn : L ≤ 1000000) (hok : VlOk ⟨vk, vn, vt⟩) (hkd : kd = 1) (hvk : vk = (ty : Int)) (hty : ty = 5 ∨ ty = 6) (h : identX vt = true) (hz : vn ≠ 0) :
  Calls Tryz.prog 112 #[.agg (cS (txt nm) kd ty lo hi (.slice B L m) mu mo (.slice A K c)), .agg #[.int .i64 vk, .int .u64 (vn : Int), .string (txt vt)]] w (AnsP (.bool false) w) := by
 have HB : Hid (Below w.heap.size w ((w.alloc (.cells (cS (txt nm) kd ty lo hi (.slice B L m) mu mo (.slice A K c)) 109)).alloc (.cells #[.int .i64 vk, .int .u64 (vn : Int), .string (txt vt)] 39))) := hHd (bAl.alloc (by simp) _)
 rcases hty with rfl | rfl
 all_goals
  obtain rfl := hvk
  obtain rfl := hkd
  have HC : Hid (∀ W, Calls Tryz.prog 54 #[.string (txt vt)] W (fun r w' => r = .returned (.bool true) ∧ W = w')) := hHd (fun W => by have h2 := rident_any vt (by have := hok.2.2.2; simp only at this; omega) W; unfold RIdentP at h2; rw [h] at h2; exact h2)
  clear hv hn hL hok h
  have z1 : ((vn : Int) == 0) = false := beq_eq_false_iff_ne.2 (by omega)
  clear hz
  go_enter Tryz.func112, Tryz.ntmps112
  go_wp2_with fail
  refine (HC.out _).mono ?_
  rintro r w2 ⟨rfl, rfl⟩
  go_wp2
  go_ret
  exact ⟨rfl, HB.out⟩
theorem rright_other (nm : List UInt8) (kd ty lo hi : Nat) (ns : List (List UInt8)) (mu : Bool) (mo : Nat) (vk : Int) (vn : Nat) (vt : List UInt8) (B : Option Addr) (L m d : Nat) (A : Option Addr) (K c : Nat) (w : World) (hv : Vals w d (.slice B ns.length m) (txts ns)) (hL : ns.length = L) (hn : L ≤ 1000000) (hok : VlOk ⟨vk, vn, vt⟩) (hkd : kd = 1) (hvk : vk = (ty : Int)) (hty : ty = 0 ∨ 6 < ty) :
  Calls Tryz.prog 112 #[.agg (cS (txt nm) kd ty lo hi (.slice B L m) mu mo (.slice A K c)), .agg #[.int .i64 vk, .int .u64 (vn : Int), .string (txt vt)]] w (AnsP (.bool false) w) := by
 have HB : Hid (Below w.heap.size w ((w.alloc (.cells (cS (txt nm) kd ty lo hi (.slice B L m) mu mo (.slice A K c)) 109)).alloc (.cells #[.int .i64 vk, .int .u64 (vn : Int), .string (txt vt)] 39))) := hHd (bAl.alloc (by simp) _)
 have k1 : ((kd : Int) == 1) = true := by rw [hkd]; rfl
 have k1' : ((kd : Int) != 1) = false := by rw [hkd]; rfl
 have v1 : (vk == (ty : Int)) = true := by rw [hvk]; exact beq_iff_eq.2 rfl
 have v1' : (vk != (ty : Int)) = false := by rw [hvk]; unfold bne; rw [beq_iff_eq.2 rfl]; rfl
 have t1 : ((ty : Int) == 1) = false := beq_eq_false_iff_ne.2 (by omega)
 have t2 : ((ty : Int) == 2) = false := beq_eq_false_iff_ne.2 (by omega)
 have t3 : ((ty : Int) == 3) = false := beq_eq_false_iff_ne.2 (by omega)
 have t4 : ((ty : Int) == 4) = false := beq_eq_false_iff_ne.2 (by omega)
 have t5 : ((ty : Int) == 5) = false := beq_eq_false_iff_ne.2 (by omega)
 have t6 : ((ty : Int) == 6) = false := beq_eq_false_iff_ne.2 (by omega)
 clear hv hok hkd hvk hn hL hty
 go_enter Tryz.func112, Tryz.ntmps112
 go_wp2
 go_ret
 exact ⟨rfl, HB.out⟩
theorem vrright_any (a : SpD) (v : Vl) (B : Option Addr) (m d : Nat) (A : Option Addr) (K c : Nat) (w : World) (hv : Vals w d (.slice B a.names.length m) (txts a.names)) (hn : a.names.length ≤ 1000000) (hok : VlOk v) :
  Calls Tryz.prog 112 #[.agg (spC a (.slice B a.names.length m) (.slice A K c)).toArray, .agg (vC v).toArray] w (AnsP (.bool (rightX a v)) w) := by
 obtain ⟨nm, kd, ty, lo, hi, ns, mu, mo⟩ := a
 obtain ⟨vk, vn, vt⟩ := v
 have key : ∀ b : Bool, rightX ⟨nm, kd, ty, lo, hi, ns, mu, mo⟩ ⟨vk, vn, vt⟩ = b → Calls Tryz.prog 112 #[.agg (spC ⟨nm, kd, ty, lo, hi, ns, mu, mo⟩ (.slice B ns.length m) (.slice A K c)).toArray, .agg (vC ⟨vk, vn, vt⟩).toArray] w (AnsP (.bool b) w) →
   Calls Tryz.prog 112 #[.agg (spC ⟨nm, kd, ty, lo, hi, ns, mu, mo⟩ (.slice B ns.length m) (.slice A K c)).toArray, .agg (vC ⟨vk, vn, vt⟩).toArray] w (AnsP (.bool (rightX ⟨nm, kd, ty, lo, hi, ns, mu, mo⟩ ⟨vk, vn, vt⟩)) w) := fun b h hc => by rw [h]; exact hc
 refine Decidable.byCases (p := kd = 1) (fun hkd => ?_) (fun hkd => key false (by unfold rightX; simp [hkd]) (rright_kind nm kd ty lo hi ns mu mo vk vn vt B ns.length m d A K c w hv rfl hn hok hkd))
 refine Decidable.byCases (p := vk = (ty : Int)) (fun hvk => ?_) (fun hvk => key false (by unfold rightX; simp [hvk]) (rright_vkind nm kd ty lo hi ns mu mo vk vn vt B ns.length m d A K c w hv rfl hn hok hkd hvk))
 by_cases t12 : ty = 1 ∨ ty = 2
 ·refine Decidable.byCases (p := lo ≤ vn) (fun h1 => ?_) (fun h1 => key false (by unfold rightX; simp [t12, h1]) (rright_low nm kd ty lo hi ns mu mo vk vn vt B ns.length m d A K c w hv rfl hn hok hkd hvk t12 (by omega)))
  refine Decidable.byCases (p := vn ≤ hi) (fun h2 => ?_) (fun h2 => key false (by unfold rightX; simp [t12, h2]) (rright_high nm kd ty lo hi ns mu mo vk vn vt B ns.length m d A K c w hv rfl hn hok hkd hvk t12 h1 (by omega)))
  by_cases h3 : vt = []
  ·exact key true (by unfold rightX; simp [hkd, hvk, t12, h1, h2, h3]) (rright_num nm kd ty lo hi ns mu mo vk vn vt B ns.length m d A K c w hv rfl hn hok hkd hvk t12 h1 h2 h3)
  ·exact key false (by unfold rightX; simp [t12, h3]) (rright_ntext nm kd ty lo hi ns mu mo vk vn vt B ns.length m d A K c w hv rfl hn hok hkd hvk t12 h1 h2 h3)
 by_cases t3 : ty = 3
 ·refine Decidable.byCases (p := vn < 2) (fun h1 => ?_) (fun h1 => key false (by unfold rightX; simp [t3, h1]) (rright_big nm kd ty lo hi ns mu mo vk vn vt B ns.length m d A K c w hv rfl hn hok hkd hvk t3 (by omega)))
  by_cases h3 : vt = []
  ·exact key true (by unfold rightX; simp [hkd, hvk, t3, h1, h3]) (rright_bool nm kd ty lo hi ns mu mo vk vn vt B ns.length m d A K c w hv rfl hn hok hkd hvk t3 h1 h3)
  ·exact key false (by unfold rightX; simp [t3, h3]) (rright_btext nm kd ty lo hi ns mu mo vk vn vt B ns.length m d A K c w hv rfl hn hok hkd hvk t3 h1 h3)
 by_cases t4 : ty = 4
 ·cases hw : whichX ns vt with
  | none => exact key false (by unfold rightX; simp [t4, hw]) (rright_enone nm kd ty lo hi ns mu mo vk vn vt B ns.length m d A K c w hv rfl hn hok hkd hvk t4 hw)
  | some i =>
   by_cases hz : vn = 0
   ·exact key true (by unfold rightX; simp [hkd, hvk, t4, hw, hz]) (rright_enum nm kd ty lo hi ns mu mo vk vn vt B ns.length m d A K c w hv rfl hn hok hkd hvk t4 i hw hz)
   ·exact key false (by unfold rightX; simp [t4, hw, hz]) (rright_enumN nm kd ty lo hi ns mu mo vk vn vt B ns.length m d A K c w hv rfl hn hok hkd hvk t4 i hw hz)
 by_cases t56 : ty = 5 ∨ ty = 6
 ·cases hi' : identX vt with
  | false => exact key false (by unfold rightX; simp [t12, t3, t4, t56, hi']) (rright_idno nm kd ty lo hi ns mu mo vk vn vt B ns.length m d A K c w hv rfl hn hok hkd hvk t56 hi')
  | true =>
   by_cases hz : vn = 0
   ·exact key true (by unfold rightX; simp [hkd, hvk, t12, t3, t4, t56, hi', hz]) (rright_ident nm kd ty lo hi ns mu mo vk vn vt B ns.length m d A K c w hv rfl hn hok hkd hvk t56 hi' hz)
   ·exact key false (by unfold rightX; simp [t12, t3, t4, t56, hi', hz]) (rright_identN nm kd ty lo hi ns mu mo vk vn vt B ns.length m d A K c w hv rfl hn hok hkd hvk t56 hi' hz)
 ·exact key false (by unfold rightX; simp [t12, t3, t4, t56]) (rright_other nm kd ty lo hi ns mu mo vk vn vt B ns.length m d A K c w hv rfl hn hok hkd hvk (by omega))
end Go.Proofs.YtleidkpdpabkpaaGreatDoor
