/- What ValidClasses stands on: VadVal, VadRgt. -/
import Derived.Test.YtljjaikejfoanaaGreatXM0
import Derived.Test.YtljjaikejfoanaaGreatXM2
import Derived.Test.YtljjaikejfoanaaGreatXM14
import Derived.Test.YtljjaikejfoanaaGreatXM15
set_option linter.unusedSimpArgs false
set_option linter.unusedVariables false
namespace Go.Proofs.YtljjaikejfoanaaGreat
open Go.RowKit
theorem sindex_any (l : List (List UInt8)) (s : List UInt8) (d : Nat) (A : Option Addr) (c : Nat) (w : World) (hv : Vals w d (.slice A l.length c) (txts l)) (hl : l.length ≤ 1000000) :
  Calls Tryz.prog 140 #[.slice A l.length c, .string (txt s)] w (fun r w' => r = .returned (.int .i64 (whichI l s)) ∧ w = w') := by
 have HV := Lib.hid hv
 have ts : (txt s).toList = s := txt_toList s
 clear hv
 go_enter Tryz.func140, Tryz.ntmps140
 go_wp2
 go_loop [8] (fun i => ∃ k : Nat, k ≤ l.length ∧ i = .int .i64 (k : Int) ∧ Hid (∀ (j : Nat) (y : List UInt8), j < k → l[j]? = some y → y ≠ s)) (fun i => l.length - (intOf i).toNat)
 case atStart => exact ⟨0, Nat.zero_le _, rfl, Lib.hid (fun j y h => by omega)⟩
 case round =>
  obtain ⟨k, hk, rfl, HL⟩ := hrel
  by_cases hlt : k < l.length
  ·obtain ⟨n, hn⟩ : ∃ n, l[k]? = some n := ⟨_, List.getElem?_eq_getElem hlt⟩
   obtain ⟨o, rfl, -, -, -, hcn⟩ := HV.out.at (txts_at hn)
   have i1 : (0 : Int) ≤ (k : Int) := by omega
   have i2 : (k : Int) < (l.length : Int) := by omega
   have tn : (txt n).toList = n := txt_toList n
   have HG := Lib.hid hn
   clear hn
   by_cases e : n = s
   ·have h1 : (n == s) = true := beq_iff_eq.2 e
    have h1' : (s == n) = true := beq_iff_eq.2 e.symm
    have HF : Hid (whichI l s = (k : Int)) := Lib.hid (by unfold whichI; rw [which_is (e ▸ HG.out) HL.out])
    clear e
    go_wp2
    go_ret
    exact ⟨by rw [HF.out]; rfl, rfl⟩
   ·have h1 : (n == s) = false := beq_eq_false_iff_ne.2 e
    have h1' : (s == n) = false := beq_eq_false_iff_ne.2 (fun h => e h.symm)
    have HL2 : Hid (∀ (j : Nat) (y : List UInt8), j < k + 1 → l[j]? = some y → y ≠ s) := Lib.hid (fun j y hj hy => by
     by_cases ej : j = k
     ·subst ej; rw [HG.out] at hy; injection hy with hy; subst hy; exact e
     ·exact HL.out j y (by omega) hy)
    clear e
    go_wp2
    go_round
    case rel => exact ⟨k + 1, by omega, by go_num, HL2⟩
    case measure => simp [intOf]; omega
  ·have HF : Hid (whichI l s = -1) := Lib.hid (by unfold whichI; rw [which_no (fun j y hy => HL.out j y (by have := (List.getElem?_eq_some_iff.1 hy).1; omega) hy)])
   have i2 : ¬ (k : Int) < (l.length : Int) := by omega
   go_wp2
   go_ret
   exact ⟨by rw [HF.out]; rfl, rfl⟩
theorem which_bool (l : List (List UInt8)) (s : List UInt8) : decide (0 ≤ whichI l s) = (whichX l s).isSome := by
 unfold whichI
 cases whichX l s with
 | none => rfl
 | some i => simp
theorem scontains_any (l : List (List UInt8)) (s : List UInt8) (d : Nat) (A : Option Addr) (c : Nat) (w : World) (hv : Vals w d (.slice A l.length c) (txts l)) (hl : l.length ≤ 1000000) :
  Calls Tryz.prog 139 #[.slice A l.length c, .string (txt s)] w (fun r w' => r = .returned (.bool (whichX l s).isSome) ∧ w = w') := by
 have HC := Lib.hid (sindex_any l s d A c w hv hl)
 have HB := Lib.hid (which_bool l s)
 obtain ⟨z, hz⟩ : ∃ z, z = whichI l s := ⟨_, rfl⟩
 rw [← hz] at HC HB
 clear hv hl hz
 go_enter Tryz.func139, Tryz.ntmps139
 go_wp2_with fail
 refine HC.out.mono ?_
 rintro r w2 ⟨rfl, rfl⟩
 go_wp2
 go_ret
 exact ⟨congrArg (fun b => Ending.returned (Value.bool b)) HB.out, rfl⟩
def NumB (lo hi vn : Nat) (vt : List UInt8) : Bool := decide (lo ≤ vn) && decide (vn ≤ hi) && decide (vt = [])
set_option maxRecDepth 100000 in
set_option maxHeartbeats 1000000 in
theorem numright_any (lo hi : Nat) (vk : Int) (vn : Nat) (vt : List UInt8) (w : World) (hn : vn < 18446744073709551616) :
  Calls Tryz.prog 125 #[.agg #[.int .u64 (lo : Int), .int .u64 (hi : Int)], .agg #[.int .i64 vk, .int .u64 (vn : Int), .string (txt vt)]] w (AnsP (.bool (NumB lo hi vn vt)) w) := by
 have HB : Hid (Below w.heap.size w ((w.alloc (.cells #[.int .u64 (lo : Int), .int .u64 (hi : Int)] 140)).alloc (.cells #[.int .i64 vk, .int .u64 (vn : Int), .string (txt vt)] 24))) := Lib.hid (((Below.refl _ _).alloc (Nat.le_refl _) _).alloc (by simp) _)
 have tt : (txt vt).toList = vt := txt_toList vt
 by_cases h1 : lo ≤ vn
 ·have g1 : (lo : Int) ≤ (vn : Int) := by omega
  have g2 : decide (lo ≤ vn) = true := decide_eq_true h1
  by_cases h3 : vn ≤ hi
  ·have g3 : (vn : Int) ≤ (hi : Int) := by omega
   have g4 : decide (vn ≤ hi) = true := decide_eq_true h3
   by_cases h5 : vt = []
   ·have HN : Hid (NumB lo hi vn vt = true) := Lib.hid (by unfold NumB; simp [h1, h3, h5])
    have g5 : (txt vt).toList.isEmpty = true := by rw [h5, txt_toList]; rfl
    have g5b : (!(txt vt).toList.isEmpty) = false := by rw [g5]; rfl
    have g6 : (vt == []) = true := by rw [h5]; rfl
    clear h1 h3 h5
    go_enter Tryz.func125, Tryz.ntmps125
    go_wp2
    go_ret
    exact ⟨by rw [HN.out]; rfl, HB.out⟩
   ·have HN : Hid (NumB lo hi vn vt = false) := Lib.hid (by unfold NumB; simp [h5])
    have g5 : (txt vt).toList.isEmpty = false := by rw [txt_toList]; simpa using h5
    have g6 : (vt == []) = false := beq_eq_false_iff_ne.2 h5
    clear h1 h3 h5
    go_enter Tryz.func125, Tryz.ntmps125
    go_wp2
    go_ret
    exact ⟨by rw [HN.out]; rfl, HB.out⟩
  ·have HN : Hid (NumB lo hi vn vt = false) := Lib.hid (by unfold NumB; simp [h3])
   have g3 : ¬ (vn : Int) ≤ (hi : Int) := by omega
   have g4 : decide (vn ≤ hi) = false := decide_eq_false h3
   clear h1 h3
   go_enter Tryz.func125, Tryz.ntmps125
   go_wp2
   go_ret
   exact ⟨by rw [HN.out]; rfl, HB.out⟩
 ·have HN : Hid (NumB lo hi vn vt = false) := Lib.hid (by unfold NumB; simp [h1])
  have g1 : ¬ (lo : Int) ≤ (vn : Int) := by omega
  have g2 : decide (lo ≤ vn) = false := decide_eq_false h1
  clear h1
  go_enter Tryz.func125, Tryz.ntmps125
  go_wp2
  go_ret
  exact ⟨by rw [HN.out]; rfl, HB.out⟩
set_option maxRecDepth 100000 in
set_option maxHeartbeats 1000000 in
theorem choiceright_any (ns : List (List UInt8)) (d : Nat) (A : Option Addr) (c : Nat) (vk : Int) (vn : Nat) (vt : List UInt8) (w : World) (hv : Vals w d (.slice A ns.length c) (txts ns)) (hl : ns.length ≤ 1000000) :
  Calls Tryz.prog 136 #[.agg #[.slice A ns.length c], .agg #[.int .i64 vk, .int .u64 (vn : Int), .string (txt vt)]] w (AnsP (.bool (decide (vn = 0) && (whichX ns vt).isSome)) w) := by
 have hb : Below w.heap.size w ((w.alloc (.cells #[.slice A ns.length c] 146)).alloc (.cells #[.int .i64 vk, .int .u64 (vn : Int), .string (txt vt)] 24)) := ((Below.refl _ _).alloc (Nat.le_refl _) _).alloc (by simp) _
 have HB := Lib.hid hb
 have HC := Lib.hid (scontains_any ns vt d A c ((w.alloc (.cells #[.slice A ns.length c] 146)).alloc (.cells #[.int .i64 vk, .int .u64 (vn : Int), .string (txt vt)] 24)) (hv.heap (fun h0 => hb.block d (by obtain ⟨A', c', _, _, h2⟩ := hv; exact (h2 h0).1))) hl)
 obtain ⟨z, hz⟩ : ∃ z, z = (whichX ns vt).isSome := ⟨_, rfl⟩
 rw [← hz] at HC ⊢
 clear hb hv hz
 by_cases h : vn = 0
 ·subst h
  go_enter Tryz.func136, Tryz.ntmps136
  go_wp2_with fail
  refine HC.out.mono ?_
  rintro r w2 ⟨rfl, rfl⟩
  go_wp2
  go_ret
  exact ⟨by simp, HB.out⟩
 ·have z1 : ((vn : Int) == 0) = false := beq_eq_false_iff_ne.2 (by omega)
  have HD : Hid (decide (vn = 0) = false) := Lib.hid (decide_eq_false h)
  clear h
  go_enter Tryz.func136, Tryz.ntmps136
  go_wp2
  go_ret
  exact ⟨by rw [HD.out]; rfl, HB.out⟩
set_option maxRecDepth 100000 in
set_option maxHeartbeats 1000000 in
theorem nameright_any (vk : Int) (vn : Nat) (vt : List UInt8) (w : World) (ht : vt.length ≤ 1048576) :
  Calls Tryz.prog 143 #[.agg #[], .agg #[.int .i64 vk, .int .u64 (vn : Int), .string (txt vt)]] w (AnsP (.bool (decide (vn = 0) && identX vt)) w) := by
 have HB : Hid (Below w.heap.size w ((w.alloc (.cells #[] 147)).alloc (.cells #[.int .i64 vk, .int .u64 (vn : Int), .string (txt vt)] 24))) := Lib.hid (((Below.refl _ _).alloc (Nat.le_refl _) _).alloc (by simp) _)
 have HC : Hid (∀ W, Calls Tryz.prog 82 #[.string (txt vt)] W (IdentP vt W)) := Lib.hid (fun W => ident_any vt ht W)
 unfold IdentP at HC
 obtain ⟨z, hz⟩ : ∃ z, z = identX vt := ⟨_, rfl⟩
 rw [← hz] at HC ⊢
 clear hz
 by_cases h : vn = 0
 ·subst h
  go_enter Tryz.func143, Tryz.ntmps143
  go_wp2_with fail
  refine (HC.out _).mono ?_
  rintro r w2 ⟨rfl, rfl⟩
  go_wp2
  go_ret
  exact ⟨by simp, HB.out⟩
 ·have z1 : ((vn : Int) == 0) = false := beq_eq_false_iff_ne.2 (by omega)
  have HD : Hid (decide (vn = 0) = false) := Lib.hid (decide_eq_false h)
  clear h
  go_enter Tryz.func143, Tryz.ntmps143
  go_wp2
  go_ret
  exact ⟨by rw [HD.out]; rfl, HB.out⟩
theorem noneright_any (vk : Int) (vn : Nat) (vt : List UInt8) (w : World) :
  Calls Tryz.prog 121 #[.agg #[], .agg #[.int .i64 vk, .int .u64 (vn : Int), .string (txt vt)]] w (AnsP (.bool false) w) := by
 have HB : Hid (Below w.heap.size w ((w.alloc (.cells #[] 138)).alloc (.cells #[.int .i64 vk, .int .u64 (vn : Int), .string (txt vt)] 24))) := Lib.hid (((Below.refl _ _).alloc (Nat.le_refl _) _).alloc (by simp) _)
 go_enter Tryz.func121, Tryz.ntmps121
 go_wp2
 go_ret
 exact ⟨rfl, HB.out⟩
def ofV (kd ty lo hi : Nat) (nv : Value) : Value :=
 if kd ≠ 1 then .iface 138 (.agg #[]) else if ty = 1 then .iface 142 (.agg #[.int .u64 (lo : Int), .int .u64 (hi : Int)]) else if ty = 2 then .iface 143 (.agg #[.int .u64 (lo : Int), .int .u64 (hi : Int)])
 else if ty = 3 then .iface 144 (.agg #[.int .u64 0, .int .u64 1]) else if ty = 4 then .iface 146 (.agg #[nv]) else if ty = 5 then .iface 149 (.agg #[]) else if ty = 6 then .iface 150 (.agg #[]) else .iface 138 (.agg #[])
set_option maxRecDepth 100000 in
set_option maxHeartbeats 2000000 in
theorem of_any (nm : List UInt8) (kd ty lo hi : Nat) (mu : Bool) (mo : Nat) (B : Option Addr) (L m : Nat) (A : Option Addr) (K c : Nat) (w : World) :
  Calls Tryz.prog 90 #[.agg #[.string (txt nm), .int .i64 (kd : Int), .int .i64 (ty : Int), .int .u64 (lo : Int), .int .u64 (hi : Int), .slice B L m, .bool mu, .int .i64 (mo : Int), .slice A K c]] w (AnsP (ofV kd ty lo hi (.slice B L m)) w) := by
 have HB : Hid (Below w.heap.size w (w.alloc (.cells #[.string (txt nm), .int .i64 (kd : Int), .int .i64 (ty : Int), .int .u64 (lo : Int), .int .u64 (hi : Int), .slice B L m, .bool mu, .int .i64 (mo : Int), .slice A K c] 72))) := Lib.hid ((Below.refl _ _).alloc (Nat.le_refl _) _)
 by_cases h : kd = 1
 ·subst h
  by_cases h1 : ty = 1
  ·subst h1
   go_enter Tryz.func90, Tryz.ntmps90
   go_wp2
   go_ret
   exact ⟨rfl, HB.out⟩
  have e1 : ((ty : Int) == 1) = false := beq_eq_false_iff_ne.2 (by omega)
  by_cases h2 : ty = 2
  ·subst h2
   clear e1 h1
   go_enter Tryz.func90, Tryz.ntmps90
   go_wp2
   go_ret
   exact ⟨rfl, HB.out⟩
  have e2 : ((ty : Int) == 2) = false := beq_eq_false_iff_ne.2 (by omega)
  by_cases h3 : ty = 3
  ·subst h3
   clear e1 h1 e2 h2
   go_enter Tryz.func90, Tryz.ntmps90
   go_wp2
   go_ret
   exact ⟨rfl, HB.out⟩
  have e3 : ((ty : Int) == 3) = false := beq_eq_false_iff_ne.2 (by omega)
  by_cases h4 : ty = 4
  ·subst h4
   clear e1 h1 e2 h2 e3 h3
   go_enter Tryz.func90, Tryz.ntmps90
   go_wp2
   go_ret
   exact ⟨rfl, HB.out⟩
  have e4 : ((ty : Int) == 4) = false := beq_eq_false_iff_ne.2 (by omega)
  by_cases h5 : ty = 5
  ·subst h5
   clear e1 h1 e2 h2 e3 h3 e4 h4
   go_enter Tryz.func90, Tryz.ntmps90
   go_wp2
   go_ret
   exact ⟨rfl, HB.out⟩
  have e5 : ((ty : Int) == 5) = false := beq_eq_false_iff_ne.2 (by omega)
  by_cases h6 : ty = 6
  ·subst h6
   clear e1 h1 e2 h2 e3 h3 e4 h4 e5 h5
   go_enter Tryz.func90, Tryz.ntmps90
   go_wp2
   go_ret
   exact ⟨rfl, HB.out⟩
  have e6 : ((ty : Int) == 6) = false := beq_eq_false_iff_ne.2 (by omega)
  have HV : Hid (ofV 1 ty lo hi (.slice B L m) = .iface 138 (.agg #[])) := Lib.hid (by simp [ofV, h1, h2, h3, h4, h5, h6])
  clear h1 h2 h3 h4 h5 h6
  go_enter Tryz.func90, Tryz.ntmps90
  go_wp2
  go_ret
  exact ⟨by rw [HV.out]; rfl, HB.out⟩
 ·have k1 : ((kd : Int) == 1) = false := beq_eq_false_iff_ne.2 (by omega)
  have k1' : ((kd : Int) != 1) = true := by unfold bne; rw [k1]; rfl
  have HV : Hid (ofV kd ty lo hi (.slice B L m) = .iface 138 (.agg #[])) := Lib.hid (by simp [ofV, h])
  clear h
  go_enter Tryz.func90, Tryz.ntmps90
  go_wp2
  go_ret
  exact ⟨by rw [HV.out]; rfl, HB.out⟩
end Go.Proofs.YtljjaikejfoanaaGreat
namespace Go.Proofs.YtljjaikejfoanaaGreat
open Go.RowKit
set_option maxRecDepth 100000 in
set_option maxHeartbeats 2000000 in
theorem vright_kind (nm : List UInt8) (kd ty lo hi : Nat) (mu : Bool) (mo : Nat) (B : Option Addr) (L m : Nat) (A : Option Addr) (kn c : Nat) (vk : Int) (vn : Nat) (vt : List UInt8) (w : World) (h : vk ≠ (ty : Int)) :
  Calls Tryz.prog 81 #[.agg #[.string (txt nm), .int .i64 (kd : Int), .int .i64 (ty : Int), .int .u64 (lo : Int), .int .u64 (hi : Int), .slice B L m, .bool mu, .int .i64 (mo : Int), .slice A kn c], .agg #[.int .i64 vk, .int .u64 (vn : Int), .string (txt vt)]] w (AnsP (.bool false) w) := by
 have hbx : Below w.heap.size w ((w.alloc (.cells #[.string (txt nm), .int .i64 (kd : Int), .int .i64 (ty : Int), .int .u64 (lo : Int), .int .u64 (hi : Int), .slice B L m, .bool mu, .int .i64 (mo : Int), .slice A kn c] 72)).alloc (.cells #[.int .i64 vk, .int .u64 (vn : Int), .string (txt vt)] 24)).drew := (((Below.refl _ _).alloc (Nat.le_refl _) _).alloc (by simp) _).drew
 have h0 : Blk ((w.alloc (.cells #[.string (txt nm), .int .i64 (kd : Int), .int .i64 (ty : Int), .int .u64 (lo : Int), .int .u64 (hi : Int), .slice B L m, .bool mu, .int .i64 (mo : Int), .slice A kn c] 72)).alloc (.cells #[.int .i64 vk, .int .u64 (vn : Int), .string (txt vt)] 24)).drew w.heap.size 72 #[.string (txt nm), .int .i64 (kd : Int), .int .i64 (ty : Int), .int .u64 (lo : Int), .int .u64 (hi : Int), .slice B L m, .bool mu, .int .i64 (mo : Int), .slice A kn c] := (Blk.new w 72 #[.string (txt nm), .int .i64 (kd : Int), .int .i64 (ty : Int), .int .u64 (lo : Int), .int .u64 (hi : Int), .slice B L m, .bool mu, .int .i64 (mo : Int), .slice A kn c]).alloc _
 have h1 : Blk ((w.alloc (.cells #[.string (txt nm), .int .i64 (kd : Int), .int .i64 (ty : Int), .int .u64 (lo : Int), .int .u64 (hi : Int), .slice B L m, .bool mu, .int .i64 (mo : Int), .slice A kn c] 72)).alloc (.cells #[.int .i64 vk, .int .u64 (vn : Int), .string (txt vt)] 24)).drew (w.heap.size + 1) 24 #[.int .i64 vk, .int .u64 (vn : Int), .string (txt vt)] := Blk.newA (w := w.alloc (.cells #[.string (txt nm), .int .i64 (kd : Int), .int .i64 (ty : Int), .int .u64 (lo : Int), .int .u64 (hi : Int), .slice B L m, .bool mu, .int .i64 (mo : Int), .slice A kn c] 72)) (by simp) _ _
 have HS0 := Lib.hid (And.intro h0 h1)
 have HBX := Lib.hid hbx
 clear hbx h0 h1
 have e1 : (vk == (ty : Int)) = false := beq_eq_false_iff_ne.2 h
 clear h
 go_enter Tryz.func81, Tryz.ntmps81
 go_wp2_with fail
 refine wp_region_noPanic ?_
 refine wp_region_held_drew (S := fun _ => True) (by kernel_rfl) trivial (fun hS => ?_)
 refine held_more (S' := fun w' => Blk w' w.heap.size 72 #[.string (txt nm), .int .i64 (kd : Int), .int .i64 (ty : Int), .int .u64 (lo : Int), .int .u64 (hi : Int), .slice B L m, .bool mu, .int .i64 (mo : Int), .slice A kn c] ∧ Blk w' (w.heap.size + 1) 24 #[.int .i64 vk, .int .u64 (vn : Int), .string (txt vt)]) (fun _ _ => trivial) _ _ _ _ ?_
 replace hS := HS0.out
 refine wpAnyH_take (i := 0) (oi := ?o_0) (v := ?v_0) ?i_0 (by kernel_rfl) (by kernel_rfl) (by kernel_rfl) (fun _ _ _ h => h) (Or.inl ⟨?g_0, ?y_0⟩) hS ?_
 case i_0 => simp only [layG]; rfl
 case g_0 => rfl
 case y_0 => (intro w hSw; (go_simp <;> with_reducible rfl))
 (try simp only [Act.put, layS])
 refine wpAnyH_take (i := 1) (oi := ?o_1) (v := ?v_1) ?i_1 (by kernel_rfl) (by kernel_rfl) (by kernel_rfl) (fun _ _ _ h => h) (Or.inl ⟨?g_1, ?y_1⟩) hS ?_
 case i_1 => simp only [layG]; rfl
 case g_1 => rfl
 case y_1 => (intro w hSw; have q0 := (hSw.2.cell 0).trans rfl; (go_simp <;> with_reducible rfl))
 (try simp only [Act.put, layS])
 refine wpAnyH_take (i := 2) (oi := ?o_2) (v := ?v_2) ?i_2 (by kernel_rfl) (by kernel_rfl) (by kernel_rfl) (fun _ _ _ h => h) (Or.inl ⟨?g_2, ?y_2⟩) hS ?_
 case i_2 => simp only [layG]; rfl
 case g_2 => rfl
 case y_2 => (intro w hSw; (go_simp <;> with_reducible rfl))
 (try simp only [Act.put, layS])
 refine wpAnyH_take (i := 3) (oi := ?o_3) (v := ?v_3) ?i_3 (by kernel_rfl) (by kernel_rfl) (by kernel_rfl) (fun _ _ _ h => h) (Or.inl ⟨?g_3, ?y_3⟩) hS ?_
 case i_3 => simp only [layG]; rfl
 case g_3 => rfl
 case y_3 => (intro w hSw; have q0 := (hSw.1.cell 2).trans rfl; (go_simp <;> with_reducible rfl))
 (try simp only [Act.put, layS])
 refine wpAnyH_take (i := 4) (oi := ?o_4) (v := ?v_4) ?i_4 (by kernel_rfl) (by kernel_rfl) (by kernel_rfl) (fun _ _ _ h => h) (Or.inl ⟨?g_4, ?y_4⟩) hS ?_
 case i_4 => simp only [layG]; rfl
 case g_4 => rfl
 case y_4 => (intro w hSw; (go_simp <;> with_reducible rfl))
 (try simp only [Act.put, layS])
 refine wpAnyH_take (i := 5) (oi := ?o_5) (v := ?v_5) ?i_5 (by kernel_rfl) (by kernel_rfl) (by kernel_rfl) (fun _ _ _ h => h) (Or.inl ⟨?g_5, ?y_5⟩) hS ?_
 case i_5 => simp only [layG]; rfl
 case g_5 => rfl
 case y_5 => (intro w hSw; (go_simp <;> with_reducible rfl))
 (try simp only [Act.put, layS])
 refine wpAnyH_take (i := 6) (oi := ?o_6) (v := undef) ?i_6 (by kernel_rfl) (by kernel_rfl) (by kernel_rfl) (fun _ _ _ h => h) (Or.inr ⟨?g_6, rfl⟩) hS ?_
 case i_6 => simp only [layG]; rfl
 case g_6 => rfl
 (try simp only [Act.put, layS])
 refine wpAnyH_take (i := 7) (oi := ?o_7) (v := undef) ?i_7 (by kernel_rfl) (by kernel_rfl) (by kernel_rfl) (fun _ _ _ h => h) (Or.inr ⟨?g_7, rfl⟩) hS ?_
 case i_7 => simp only [layG]; rfl
 case g_7 => rfl
 (try simp only [Act.put, layS])
 refine wpAnyH_take (i := 8) (oi := ?o_8) (v := undef) ?i_8 (by kernel_rfl) (by kernel_rfl) (by kernel_rfl) (fun _ _ _ h => h) (Or.inr ⟨?g_8, rfl⟩) hS ?_
 case i_8 => simp only [layG]; rfl
 case g_8 => rfl
 (try simp only [Act.put, layS])
 refine wpAnyH_take (i := 9) (oi := ?o_9) (v := undef) ?i_9 (by kernel_rfl) (by kernel_rfl) (by kernel_rfl) (fun _ _ _ h => h) (Or.inr ⟨?g_9, rfl⟩) hS ?_
 case i_9 => simp only [layG]; rfl
 case g_9 => rfl
 (try simp only [Act.put, layS])
 refine wpAnyH_take (i := 10) (oi := ?o_a) (v := ?v_a) ?i_a (by kernel_rfl) (by kernel_rfl) (by kernel_rfl) (fun _ _ _ h => h) (Or.inl ⟨?g_a, ?y_a⟩) hS ?_
 case i_a => simp only [layG]; rfl
 case g_a => rfl
 case y_a => (intro w hSw; (go_simp <;> with_reducible rfl))
 (try simp only [Act.put, layS])
 refine wpAnyH_take (i := 11) (oi := ?o_b) (v := ?v_b) ?i_b (by kernel_rfl) (by kernel_rfl) (by kernel_rfl) (fun _ _ _ h => h) (Or.inl ⟨?g_b, ?y_b⟩) hS ?_
 case i_b => simp only [layG]; rfl
 case g_b => rfl
 case y_b => (intro w hSw; (go_simp <;> with_reducible rfl))
 (try simp only [Act.put, layS])
 refine wpAnyH_done (by kernel_rfl) ?_ _
 refine NoPanic.normal ?_
 clear hS
 go_wp2
 go_ret
 exact ⟨rfl, HBX.out⟩
set_option maxRecDepth 100000 in
set_option maxHeartbeats 2000000 in
theorem vright_in (T : TypeId) (x recv : Value) (F : FuncId) (z : Bool) (nm : List UInt8) (kd ty lo hi : Nat) (mu : Bool) (mo : Nat) (B : Option Addr) (L m : Nat) (A : Option Addr) (kn c : Nat) (vk : Int) (vn : Nat) (vt : List UInt8) (w : World) (h : vk = (ty : Int))
  (hm : ∀ w, (method 275 T x "tollbar/value.right").run Tryz.prog w = .ok (F, recv) w) (heg : ∀ args w, (callFunc F args).run Tryz.prog w = .ok (.enter F args) w) (hof : ofV kd ty lo hi (.slice B L m) = .iface T x) (hF : ∀ W, Below w.heap.size w W → Calls Tryz.prog F #[recv, .agg #[.int .i64 vk, .int .u64 (vn : Int), .string (txt vt)]] W (AnsP (.bool z) W)) :
  Calls Tryz.prog 81 #[.agg #[.string (txt nm), .int .i64 (kd : Int), .int .i64 (ty : Int), .int .u64 (lo : Int), .int .u64 (hi : Int), .slice B L m, .bool mu, .int .i64 (mo : Int), .slice A kn c], .agg #[.int .i64 vk, .int .u64 (vn : Int), .string (txt vt)]] w (AnsP (.bool z) w) := by
 have hbx : Below w.heap.size w ((w.alloc (.cells #[.string (txt nm), .int .i64 (kd : Int), .int .i64 (ty : Int), .int .u64 (lo : Int), .int .u64 (hi : Int), .slice B L m, .bool mu, .int .i64 (mo : Int), .slice A kn c] 72)).alloc (.cells #[.int .i64 vk, .int .u64 (vn : Int), .string (txt vt)] 24)).drew := (((Below.refl _ _).alloc (Nat.le_refl _) _).alloc (by simp) _).drew
 have h0 : Blk ((w.alloc (.cells #[.string (txt nm), .int .i64 (kd : Int), .int .i64 (ty : Int), .int .u64 (lo : Int), .int .u64 (hi : Int), .slice B L m, .bool mu, .int .i64 (mo : Int), .slice A kn c] 72)).alloc (.cells #[.int .i64 vk, .int .u64 (vn : Int), .string (txt vt)] 24)).drew w.heap.size 72 #[.string (txt nm), .int .i64 (kd : Int), .int .i64 (ty : Int), .int .u64 (lo : Int), .int .u64 (hi : Int), .slice B L m, .bool mu, .int .i64 (mo : Int), .slice A kn c] := (Blk.new w 72 #[.string (txt nm), .int .i64 (kd : Int), .int .i64 (ty : Int), .int .u64 (lo : Int), .int .u64 (hi : Int), .slice B L m, .bool mu, .int .i64 (mo : Int), .slice A kn c]).alloc _
 have h1 : Blk ((w.alloc (.cells #[.string (txt nm), .int .i64 (kd : Int), .int .i64 (ty : Int), .int .u64 (lo : Int), .int .u64 (hi : Int), .slice B L m, .bool mu, .int .i64 (mo : Int), .slice A kn c] 72)).alloc (.cells #[.int .i64 vk, .int .u64 (vn : Int), .string (txt vt)] 24)).drew (w.heap.size + 1) 24 #[.int .i64 vk, .int .u64 (vn : Int), .string (txt vt)] := Blk.newA (w := w.alloc (.cells #[.string (txt nm), .int .i64 (kd : Int), .int .i64 (ty : Int), .int .u64 (lo : Int), .int .u64 (hi : Int), .slice B L m, .bool mu, .int .i64 (mo : Int), .slice A kn c] 72)) (by simp) _ _
 have HS0 := Lib.hid (And.intro h0 h1)
 have HBX := Lib.hid hbx
 clear hbx h0 h1
 have e1 : (vk == (ty : Int)) = true := beq_iff_eq.2 h
 have HOF : Hid (∀ W, Calls Tryz.prog 90 #[.agg #[.string (txt nm), .int .i64 (kd : Int), .int .i64 (ty : Int), .int .u64 (lo : Int), .int .u64 (hi : Int), .slice B L m, .bool mu, .int .i64 (mo : Int), .slice A kn c]] W (AnsP (.iface T x) W)) := Lib.hid (fun W => by rw [← hof]; exact of_any nm kd ty lo hi mu mo B L m A kn c W)
 have HF := Lib.hid hF
 have HM := Lib.hid hm
 have HE := Lib.hid heg
 clear h hof hF hm heg
 go_enter Tryz.func81, Tryz.ntmps81
 go_wp2_with fail
 refine wp_region_noPanic ?_
 refine wp_region_held_drew (S := fun _ => True) (by kernel_rfl) trivial (fun hS => ?_)
 refine held_more (S' := fun w' => Blk w' w.heap.size 72 #[.string (txt nm), .int .i64 (kd : Int), .int .i64 (ty : Int), .int .u64 (lo : Int), .int .u64 (hi : Int), .slice B L m, .bool mu, .int .i64 (mo : Int), .slice A kn c] ∧ Blk w' (w.heap.size + 1) 24 #[.int .i64 vk, .int .u64 (vn : Int), .string (txt vt)]) (fun _ _ => trivial) _ _ _ _ ?_
 replace hS := HS0.out
 refine wpAnyH_take (i := 0) (oi := ?o_c) (v := ?v_c) ?i_c (by kernel_rfl) (by kernel_rfl) (by kernel_rfl) (fun _ _ _ h => h) (Or.inl ⟨?g_c, ?y_c⟩) hS ?_
 case i_c => simp only [layG]; rfl
 case g_c => rfl
 case y_c => (intro w hSw; (go_simp <;> with_reducible rfl))
 (try simp only [Act.put, layS])
 refine wpAnyH_take (i := 1) (oi := ?o_d) (v := ?v_d) ?i_d (by kernel_rfl) (by kernel_rfl) (by kernel_rfl) (fun _ _ _ h => h) (Or.inl ⟨?g_d, ?y_d⟩) hS ?_
 case i_d => simp only [layG]; rfl
 case g_d => rfl
 case y_d => (intro w hSw; have q0 := (hSw.2.cell 0).trans rfl; (go_simp <;> with_reducible rfl))
 (try simp only [Act.put, layS])
 refine wpAnyH_take (i := 2) (oi := ?o_e) (v := ?v_e) ?i_e (by kernel_rfl) (by kernel_rfl) (by kernel_rfl) (fun _ _ _ h => h) (Or.inl ⟨?g_e, ?y_e⟩) hS ?_
 case i_e => simp only [layG]; rfl
 case g_e => rfl
 case y_e => (intro w hSw; (go_simp <;> with_reducible rfl))
 (try simp only [Act.put, layS])
 refine wpAnyH_take (i := 3) (oi := ?o_f) (v := ?v_f) ?i_f (by kernel_rfl) (by kernel_rfl) (by kernel_rfl) (fun _ _ _ h => h) (Or.inl ⟨?g_f, ?y_f⟩) hS ?_
 case i_f => simp only [layG]; rfl
 case g_f => rfl
 case y_f => (intro w hSw; have q0 := (hSw.1.cell 2).trans rfl; (go_simp <;> with_reducible rfl))
 (try simp only [Act.put, layS])
 refine wpAnyH_take (i := 4) (oi := ?o_g) (v := ?v_g) ?i_g (by kernel_rfl) (by kernel_rfl) (by kernel_rfl) (fun _ _ _ h => h) (Or.inl ⟨?g_g, ?y_g⟩) hS ?_
 case i_g => simp only [layG]; rfl
 case g_g => rfl
 case y_g => (intro w hSw; (go_simp <;> with_reducible rfl))
 (try simp only [Act.put, layS])
 refine wpAnyH_take (i := 5) (oi := ?o_h) (v := ?v_h) ?i_h (by kernel_rfl) (by kernel_rfl) (by kernel_rfl) (fun _ _ _ h => h) (Or.inl ⟨?g_h, ?y_h⟩) hS ?_
 case i_h => simp only [layG]; rfl
 case g_h => rfl
 case y_h => (intro w hSw; (go_simp <;> with_reducible rfl))
 (try simp only [Act.put, layS])
 refine wpAnyH_take (i := 6) (oi := ?o_i) (v := ?v_i) ?i_i (by kernel_rfl) (by kernel_rfl) (by kernel_rfl) (fun _ _ _ h => h) (Or.inl ⟨?g_i, ?y_i⟩) hS ?_
 case i_i => simp only [layG]; rfl
 case g_i => rfl
 case y_i => (intro w hSw; have q0 := (hSw.1.cell 0).trans rfl; have q1 := (hSw.1.cell 1).trans rfl; have q2 := (hSw.1.cell 2).trans rfl; have q3 := (hSw.1.cell 3).trans rfl; have q4 := (hSw.1.cell 4).trans rfl; have q5 := (hSw.1.cell 5).trans rfl; have q6 := (hSw.1.cell 6).trans rfl; have q7 := (hSw.1.cell 7).trans rfl; have q8 := (hSw.1.cell 8).trans rfl; (go_simp <;> with_reducible rfl))
 (try simp only [Act.put, layS])
 refine wpAnyH_take (i := 8) (oi := ?o_j) (v := ?v_j) ?i_j (by kernel_rfl) (by kernel_rfl) (by kernel_rfl) (fun _ _ _ h => h) (Or.inl ⟨?g_j, ?y_j⟩) hS ?_
 case i_j => simp only [layG]; rfl
 case g_j => rfl
 case y_j => (intro w hSw; have q0 := (hSw.2.cell 0).trans rfl; have q1 := (hSw.2.cell 1).trans rfl; have q2 := (hSw.2.cell 2).trans rfl; (go_simp <;> with_reducible rfl))
 (try simp only [Act.put, layS])
 refine wpAnyH_ready (rs := [7]) (by kernel_rfl) (by simp) ?_
 refine (AllReadyH.cons (o := ?or_k) ?ir_k (fun K hK => ?str_k) AllReadyH.nil)
 case ir_k => simp only [layG]; rfl
 rw [if_pos (by rfl)]
 go_simp
 refine (HOF.out _).mono ?_
 rintro r w7 ⟨rfl, hb⟩
 have HB7 := Lib.hid (HBX.out.trans (hb.mono HBX.out.size))
 have HS7 := Lib.hid (And.intro (HS0.out.1.below hb HS0.out.1.lt) (HS0.out.2.below hb HS0.out.2.lt))
 clear hb
 go_wp2_with fail
 refine hK.out _ _ ?sr_k (fun hS => ?_)
 case sr_k => (exact HS7.out)
 clear hK K
 (try simp only [Act.put, layS])
 refine wpAnyH_ready (rs := [9]) (by kernel_rfl) (by simp) ?_
 refine (AllReadyH.cons (o := ?or_l) ?ir_l (fun K hK => ?str_l) AllReadyH.nil)
 case ir_l => simp only [layG]; rfl
 rw [if_pos (by rfl)]
 go_simp
 rw [HM.out]
 simp only [Result.andThen]
 rw [HE.out]
 refine (HF.out _ HB7.out).mono ?_
 rintro r w9 ⟨rfl, hb⟩
 have HB9 := Lib.hid (HB7.out.trans (hb.mono HB7.out.size))
 have HS9 := Lib.hid (And.intro (HS7.out.1.below hb HS7.out.1.lt) (HS7.out.2.below hb HS7.out.2.lt))
 clear hb
 go_wp2_with fail
 refine hK.out _ _ ?sr_l (fun hS => ?_)
 case sr_l => (exact HS9.out)
 clear hK K
 (try simp only [Act.put, layS])
 refine wpAnyH_take (i := 10) (oi := ?o_m) (v := ?v_m) ?i_m (by kernel_rfl) (by kernel_rfl) (by kernel_rfl) (fun _ _ _ h => h) (Or.inl ⟨?g_m, ?y_m⟩) hS ?_
 case i_m => simp only [layG]; rfl
 case g_m => rfl
 case y_m => (intro w hSw; (go_simp <;> with_reducible rfl))
 (try simp only [Act.put, layS])
 refine wpAnyH_take (i := 11) (oi := ?o_n) (v := ?v_n) ?i_n (by kernel_rfl) (by kernel_rfl) (by kernel_rfl) (fun _ _ _ h => h) (Or.inl ⟨?g_n, ?y_n⟩) hS ?_
 case i_n => simp only [layG]; rfl
 case g_n => rfl
 case y_n => (intro w hSw; (go_simp <;> with_reducible rfl))
 (try simp only [Act.put, layS])
 refine wpAnyH_done (by kernel_rfl) ?_ _
 refine NoPanic.normal ?_
 clear hS
 go_wp2
 go_ret
 exact ⟨rfl, HB9.out⟩
theorem right_cases9 (nm : List UInt8) (kd ty lo hi : Nat) (ns : List (List UInt8)) (mu : Bool) (mo : Nat) (vk : Int) (vn : Nat) (vt : List UInt8) (h : vk = (ty : Int)) :
  rightX ⟨nm, kd, ty, lo, hi, ns, mu, mo⟩ ⟨vk, vn, vt⟩ = if kd ≠ 1 then false else if ty = 1 ∨ ty = 2 then NumB lo hi vn vt else if ty = 3 then NumB 0 1 vn vt else if ty = 4 then (decide (vn = 0) && (whichX ns vt).isSome) else if ty = 5 ∨ ty = 6 then (decide (vn = 0) && identX vt) else false := by
 unfold rightX NumB
 simp only [h]
 by_cases hk : kd = 1
 ·simp only [hk, ne_eq, not_true_eq_false, if_false, decide_true, Bool.true_and]
  by_cases h1 : ty = 1 ∨ ty = 2
  ·rw [if_pos h1, if_pos h1]
  ·rw [if_neg h1, if_neg h1]
   by_cases h3 : ty = 3
   ·rw [if_pos h3, if_pos h3]
    congr 1
    rw [Bool.eq_iff_iff]
    simp
    omega
   ·rw [if_neg h3, if_neg h3]
    by_cases h4 : ty = 4
    ·rw [if_pos h4, if_pos h4, Bool.and_comm]
    ·rw [if_neg h4, if_neg h4]
     by_cases h5 : ty = 5 ∨ ty = 6
     ·rw [if_pos h5, if_pos h5, Bool.and_comm]
     ·rw [if_neg h5, if_neg h5]
 ·simp [hk]
theorem vright_any (nm : List UInt8) (kd ty lo hi : Nat) (ns : List (List UInt8)) (mu : Bool) (mo : Nat) (B : Option Addr) (m d : Nat) (A : Option Addr) (kn c : Nat) (vk : Int) (vn : Nat) (vt : List UInt8) (w : World)
  (hv : Vals w d (.slice B ns.length m) (txts ns)) (hl : ns.length ≤ 1000000) (hn : vn < 18446744073709551616) (ht : vt.length ≤ 1048576) :
  Calls Tryz.prog 81 #[.agg #[.string (txt nm), .int .i64 (kd : Int), .int .i64 (ty : Int), .int .u64 (lo : Int), .int .u64 (hi : Int), .slice B ns.length m, .bool mu, .int .i64 (mo : Int), .slice A kn c], .agg #[.int .i64 vk, .int .u64 (vn : Int), .string (txt vt)]] w (AnsP (.bool (rightX ⟨nm, kd, ty, lo, hi, ns, mu, mo⟩ ⟨vk, vn, vt⟩)) w) := by
 by_cases h : vk = (ty : Int)
 ·rw [right_cases9 nm kd ty lo hi ns mu mo vk vn vt h]
  by_cases hk : kd = 1
  ·rw [if_neg (by simp [hk])]
   subst hk
   by_cases h1 : ty = 1 ∨ ty = 2
   ·rw [if_pos h1]
    rcases h1 with rfl | rfl
    ·exact vright_in 142 (.agg #[.int .u64 (lo : Int), .int .u64 (hi : Int)]) (.agg #[.int .u64 (lo : Int), .int .u64 (hi : Int)]) 125 _ nm _ _ lo hi mu mo B ns.length m A kn c vk vn vt w h (fun _ => by kernel_rfl) (Go.Proofs.enters_of Tryz.func125 (by kernel_rfl) rfl) rfl (fun W _ => numright_any lo hi vk vn vt W hn)
    ·exact vright_in 143 (.agg #[.int .u64 (lo : Int), .int .u64 (hi : Int)]) (.agg #[.int .u64 (lo : Int), .int .u64 (hi : Int)]) 125 _ nm _ _ lo hi mu mo B ns.length m A kn c vk vn vt w h (fun _ => by kernel_rfl) (Go.Proofs.enters_of Tryz.func125 (by kernel_rfl) rfl) rfl (fun W _ => numright_any lo hi vk vn vt W hn)
   ·rw [if_neg h1]
    by_cases h3 : ty = 3
    ·rw [if_pos h3]
     subst h3
     exact vright_in 144 (.agg #[.int .u64 0, .int .u64 1]) (.agg #[.int .u64 0, .int .u64 1]) 125 _ nm _ _ lo hi mu mo B ns.length m A kn c vk vn vt w h (fun _ => by kernel_rfl) (Go.Proofs.enters_of Tryz.func125 (by kernel_rfl) rfl) rfl (fun W _ => numright_any 0 1 vk vn vt W hn)
    ·rw [if_neg h3]
     by_cases h4 : ty = 4
     ·rw [if_pos h4]
      subst h4
      exact vright_in 146 (.agg #[.slice B ns.length m]) (.agg #[.slice B ns.length m]) 136 _ nm _ _ lo hi mu mo B ns.length m A kn c vk vn vt w h (fun _ => by kernel_rfl) (Go.Proofs.enters_of Tryz.func136 (by kernel_rfl) rfl) rfl (fun W hW => choiceright_any ns d B m vk vn vt W (hv.heap (fun h0 => hW.block d (by obtain ⟨A', c', _, _, h2⟩ := hv; exact (h2 h0).1))) hl)
     ·rw [if_neg h4]
      by_cases h5 : ty = 5 ∨ ty = 6
      ·rw [if_pos h5]
       rcases h5 with rfl | rfl
       ·exact vright_in 149 (.agg #[]) (.agg #[]) 143 _ nm _ _ lo hi mu mo B ns.length m A kn c vk vn vt w h (fun _ => by kernel_rfl) (Go.Proofs.enters_of Tryz.func143 (by kernel_rfl) rfl) rfl (fun W _ => nameright_any vk vn vt W ht)
       ·exact vright_in 150 (.agg #[]) (.agg #[]) 143 _ nm _ _ lo hi mu mo B ns.length m A kn c vk vn vt w h (fun _ => by kernel_rfl) (Go.Proofs.enters_of Tryz.func143 (by kernel_rfl) rfl) rfl (fun W _ => nameright_any vk vn vt W ht)
      ·rw [if_neg h5]
       exact vright_in 138 (.agg #[]) (.agg #[]) 121 _ nm _ _ lo hi mu mo B ns.length m A kn c vk vn vt w h (fun _ => by kernel_rfl) (Go.Proofs.enters_of Tryz.func121 (by kernel_rfl) rfl) (by simp only [not_or] at h1 h5; simp [ofV, h1, h3, h4, h5]) (fun W _ => noneright_any vk vn vt W)
  ·rw [if_pos hk]
   exact vright_in 138 (.agg #[]) (.agg #[]) 121 _ nm _ _ lo hi mu mo B ns.length m A kn c vk vn vt w h (fun _ => by kernel_rfl) (Go.Proofs.enters_of Tryz.func121 (by kernel_rfl) rfl) (by simp [ofV, hk]) (fun W _ => noneright_any vk vn vt W)
 ·have hz : rightX ⟨nm, kd, ty, lo, hi, ns, mu, mo⟩ ⟨vk, vn, vt⟩ = false := by unfold rightX; simp [h]
  rw [hz]
  exact vright_kind nm kd ty lo hi mu mo B ns.length m A kn c vk vn vt w h
end Go.Proofs.YtljjaikejfoanaaGreat
