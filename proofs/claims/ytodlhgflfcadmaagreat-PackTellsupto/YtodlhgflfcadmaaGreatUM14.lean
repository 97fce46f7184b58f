/- VadVal VadRgt VarNum TlvNum TlvMem -/
import Derived.Test.YtodlhgflfcadmaaGreatUM4
import Derived.Test.YtodlhgflfcadmaaGreatUM13
set_option linter.unusedSimpArgs false
set_option linter.unusedVariables false
set_option maxRecDepth 100000
set_option maxHeartbeats 8000000
namespace Go.Proofs.YtodlhgflfcadmaaGreat
open Go.RowKit
theorem sindex_any (l : List (List UInt8)) (s : List UInt8) (d : Nat) (A : Option Addr) (c : Nat) (w : World) (hv : Vals w d (.slice A l.length c) (txts l)) (hl : l.length ≤ 1000000) :
  Calls Tryz.prog 177 #[.slice A l.length c, .string (txt s)] w (fun r w' => r = .returned (.int .i64 (whichI l s)) ∧ w = w') := by
 have HV := hHd hv
 have ts : (txt s).toList = s := txt_toList s
 clear hv
 go_enter Tryz.func177, Tryz.ntmps177
 go_wp2
 go_loop [8] (fun i => ∃ k : Nat, k ≤ l.length ∧ i = .int .i64 (k : Int) ∧ Hid (∀ (j : Nat) (y : List UInt8), j < k → l[j]? = some y → y ≠ s)) (fun i => l.length - (intOf i).toNat)
 case atStart => exact ⟨0, Nat.zero_le _, rfl, hHd (fun j y h => by omega)⟩
 case round =>
  obtain ⟨k, hk, rfl, HL⟩ := hrel
  by_cases hlt : k < l.length
  ·obtain ⟨n, hn⟩ : ∃ n, l[k]? = some n := ⟨_, List.getElem?_eq_getElem hlt⟩
   obtain ⟨o, rfl, -, -, -, hcn⟩ := HV.out.at (txts_at hn)
   have i1 : (0 : Int) ≤ (k : Int) := by omega
   have i2 : (k : Int) < (l.length : Int) := by omega
   have tn : (txt n).toList = n := txt_toList n
   have HG := hHd hn
   clear hn
   by_cases e : n = s
   ·have h1 : (n == s) = true := beq_iff_eq.2 e
    have h1' : (s == n) = true := beq_iff_eq.2 e.symm
    have HF : Hid (whichI l s = (k : Int)) := hHd (by unfold whichI; rw [which_is (e ▸ HG.out) HL.out])
    clear e
    go_wp2
    go_ret
    exact ⟨by rw [HF.out]; rfl, rfl⟩
   ·have h1 : (n == s) = false := beq_eq_false_iff_ne.2 e
    have h1' : (s == n) = false := beq_eq_false_iff_ne.2 (fun h => e h.symm)
    have HL2 : Hid (∀ (j : Nat) (y : List UInt8), j < k + 1 → l[j]? = some y → y ≠ s) := hHd (fun j y hj hy => by
     by_cases ej : j = k
     ·subst ej; rw [HG.out] at hy; injection hy with hy; subst hy; exact e
     ·exact HL.out j y (by omega) hy)
    clear e
    go_wp2
    go_round
    case rel => exact ⟨k + 1, by omega, by go_num, HL2⟩
    case measure => simp [intOf]; omega
  ·have HF : Hid (whichI l s = -1) := hHd (by unfold whichI; rw [which_no (fun j y hy => HL.out j y (by have := (List.getElem?_eq_some_iff.1 hy).1; omega) hy)])
   have i2 : ¬ (k : Int) < (l.length : Int) := by omega
   go_wp2
   go_ret
   exact ⟨by rw [HF.out]; rfl, rfl⟩
theorem which_bool (l : List (List UInt8)) (s : List UInt8) : decide (0 ≤ whichI l s) = (whichX l s).isSome := by
 unfold whichI
 cases whichX l s with
 | none => rfl
 | some i => simp
theorem scontains_any (l : List (List UInt8)) (s : List UInt8) (d : Nat) (A : Option Addr) (c : Nat) (w : World) (hv : Vals w d (.slice A l.length c) (txts l)) (hl : l.length ≤ 1000000) :
  Calls Tryz.prog 178 #[.slice A l.length c, .string (txt s)] w (fun r w' => r = .returned (.bool (whichX l s).isSome) ∧ w = w') := by
 have HC := hHd (sindex_any l s d A c w hv hl)
 have HB := hHd (which_bool l s)
 obtain ⟨z, hz⟩ : ∃ z, z = whichI l s := ⟨_, rfl⟩
 rw [← hz] at HC HB
 clear hv hl hz
 go_enter Tryz.func178, Tryz.ntmps178
 go_wp2_with fail
 refine HC.out.mono ?_
 rintro r w2 ⟨rfl, rfl⟩
 go_wp2
 go_ret
 exact ⟨congrArg (fun b => Ending.returned (Value.bool b)) HB.out, rfl⟩
def NumB (lo hi vn : Nat) (vt : List UInt8) : Bool := decide (lo ≤ vn) && decide (vn ≤ hi) && decide (vt = [])
theorem numright_any (lo hi : Nat) (vk : Int) (vn : Nat) (vt : List UInt8) (w : World) (hn : vn < 18446744073709551616) :
  Calls Tryz.prog 160 #[.agg #[.int .u64 (lo : Int), .int .u64 (hi : Int)], .agg #[.int .i64 vk, .int .u64 (vn : Int), .string (txt vt)]] w (AnsP (.bool (NumB lo hi vn vt)) w) := by
 have HB : Hid (Below w.heap.size w ((w.alloc (.cells #[.int .u64 (lo : Int), .int .u64 (hi : Int)] 166)).alloc (.cells #[.int .i64 vk, .int .u64 (vn : Int), .string (txt vt)] 24))) := hHd (bAl.alloc (by simp) _)
 have tt : (txt vt).toList = vt := txt_toList vt
 by_cases h1 : lo ≤ vn
 ·have g1 : (lo : Int) ≤ (vn : Int) := by omega
  have g2 : decide (lo ≤ vn) = true := decide_eq_true h1
  by_cases h3 : vn ≤ hi
  ·have g3 : (vn : Int) ≤ (hi : Int) := by omega
   have g4 : decide (vn ≤ hi) = true := decide_eq_true h3
   by_cases h5 : vt = []
   ·have HN : Hid (NumB lo hi vn vt = true) := hHd (by unfold NumB; simp [h1, h3, h5])
    have g5 : (txt vt).toList.isEmpty = true := by rw [h5, txt_toList]; rfl
    have g5b : (!(txt vt).toList.isEmpty) = false := by rw [g5]; rfl
    have g6 : (vt == []) = true := by rw [h5]; rfl
    clear h1 h3 h5
    go_enter Tryz.func160, Tryz.ntmps160
    go_wp2
    go_ret
    exact ⟨by rw [HN.out]; rfl, HB.out⟩
   ·have HN : Hid (NumB lo hi vn vt = false) := hHd (by unfold NumB; simp [h5])
    have g5 : (txt vt).toList.isEmpty = false := by rw [txt_toList]; simpa using h5
    have g6 : (vt == []) = false := beq_eq_false_iff_ne.2 h5
    clear h1 h3 h5
    go_enter Tryz.func160, Tryz.ntmps160
    go_wp2
    go_ret
    exact ⟨by rw [HN.out]; rfl, HB.out⟩
  ·have HN : Hid (NumB lo hi vn vt = false) := hHd (by unfold NumB; simp [h3])
   have g3 : ¬ (vn : Int) ≤ (hi : Int) := by omega
   have g4 : decide (vn ≤ hi) = false := decide_eq_false h3
   clear h1 h3
   go_enter Tryz.func160, Tryz.ntmps160
   go_wp2
   go_ret
   exact ⟨by rw [HN.out]; rfl, HB.out⟩
 ·have HN : Hid (NumB lo hi vn vt = false) := hHd (by unfold NumB; simp [h1])
  have g1 : ¬ (lo : Int) ≤ (vn : Int) := by omega
  have g2 : decide (lo ≤ vn) = false := decide_eq_false h1
  clear h1
  go_enter Tryz.func160, Tryz.ntmps160
  go_wp2
  go_ret
  exact ⟨by rw [HN.out]; rfl, HB.out⟩
theorem choiceright_any (ns : List (List UInt8)) (d : Nat) (A : Option Addr) (c : Nat) (vk : Int) (vn : Nat) (vt : List UInt8) (w : World) (hv : Vals w d (.slice A ns.length c) (txts ns)) (hl : ns.length ≤ 1000000) :
  Calls Tryz.prog 174 #[.agg #[.slice A ns.length c], .agg #[.int .i64 vk, .int .u64 (vn : Int), .string (txt vt)]] w (AnsP (.bool (decide (vn = 0) && (whichX ns vt).isSome)) w) := by
 have hb : Below w.heap.size w ((w.alloc (.cells #[.slice A ns.length c] 172)).alloc (.cells #[.int .i64 vk, .int .u64 (vn : Int), .string (txt vt)] 24)) := bAl.alloc (by simp) _
 have HB := hHd hb
 have HC := hHd (scontains_any ns vt d A c ((w.alloc (.cells #[.slice A ns.length c] 172)).alloc (.cells #[.int .i64 vk, .int .u64 (vn : Int), .string (txt vt)] 24)) (hv.heap (fun h0 => hb.block d (by obtain ⟨A', c', _, _, h2⟩ := hv; exact (h2 h0).1))) hl)
 obtain ⟨z, hz⟩ : ∃ z, z = (whichX ns vt).isSome := ⟨_, rfl⟩
 rw [← hz] at HC ⊢
 clear hb hv hz
 by_cases h : vn = 0
 ·subst h
  go_enter Tryz.func174, Tryz.ntmps174
  go_wp2_with fail
  refine HC.out.mono ?_
  rintro r w2 ⟨rfl, rfl⟩
  go_wp2
  go_ret
  exact ⟨by simp, HB.out⟩
 ·have z1 : ((vn : Int) == 0) = false := beq_eq_false_iff_ne.2 (by omega)
  have HD : Hid (decide (vn = 0) = false) := hHd (decide_eq_false h)
  clear h
  go_enter Tryz.func174, Tryz.ntmps174
  go_wp2
  go_ret
  exact ⟨by rw [HD.out]; rfl, HB.out⟩
theorem nameright_any (vk : Int) (vn : Nat) (vt : List UInt8) (w : World) (ht : vt.length ≤ 1048576) :
  Calls Tryz.prog 181 #[.agg #[], .agg #[.int .i64 vk, .int .u64 (vn : Int), .string (txt vt)]] w (AnsP (.bool (decide (vn = 0) && identX vt)) w) := by
 have HB : Hid (Below w.heap.size w ((w.alloc (.cells #[] 173)).alloc (.cells #[.int .i64 vk, .int .u64 (vn : Int), .string (txt vt)] 24))) := hHd (bAl.alloc (by simp) _)
 have HC : Hid (∀ W, Calls Tryz.prog 117 #[.string (txt vt)] W (IdentP vt W)) := hHd (fun W => ident_any vt (by omega) W)
 unfold IdentP at HC
 obtain ⟨z, hz⟩ : ∃ z, z = identX vt := ⟨_, rfl⟩
 rw [← hz] at HC ⊢
 clear hz
 by_cases h : vn = 0
 ·subst h
  go_enter Tryz.func181, Tryz.ntmps181
  go_wp2_with fail
  refine (HC.out _).mono ?_
  rintro r w2 ⟨rfl, rfl⟩
  go_wp2
  go_ret
  exact ⟨by simp, HB.out⟩
 ·have z1 : ((vn : Int) == 0) = false := beq_eq_false_iff_ne.2 (by omega)
  have HD : Hid (decide (vn = 0) = false) := hHd (decide_eq_false h)
  clear h
  go_enter Tryz.func181, Tryz.ntmps181
  go_wp2
  go_ret
  exact ⟨by rw [HD.out]; rfl, HB.out⟩
theorem noneright_any (vk : Int) (vn : Nat) (vt : List UInt8) (w : World) :
  Calls Tryz.prog 156 #[.agg #[], .agg #[.int .i64 vk, .int .u64 (vn : Int), .string (txt vt)]] w (AnsP (.bool false) w) := by
 have HB : Hid (Below w.heap.size w ((w.alloc (.cells #[] 164)).alloc (.cells #[.int .i64 vk, .int .u64 (vn : Int), .string (txt vt)] 24))) := hHd (bAl.alloc (by simp) _)
 go_enter Tryz.func156, Tryz.ntmps156
 go_wp2
 go_ret
 exact ⟨rfl, HB.out⟩
def ofV (kd ty lo hi : Nat) (nv : Value) : Value :=
 if kd ≠ 1 then .iface 164 (.agg #[]) else if ty = 1 then .iface 168 (.agg #[.int .u64 (lo : Int), .int .u64 (hi : Int)]) else if ty = 2 then .iface 169 (.agg #[.int .u64 (lo : Int), .int .u64 (hi : Int)])
 else if ty = 3 then .iface 170 (.agg #[.int .u64 0, .int .u64 1]) else if ty = 4 then .iface 172 (.agg #[nv]) else if ty = 5 then .iface 175 (.agg #[]) else if ty = 6 then .iface 176 (.agg #[]) else .iface 164 (.agg #[])
theorem of_any (nm : List UInt8) (kd ty lo hi : Nat) (mu : Bool) (mo : Nat) (B : Option Addr) (L m : Nat) (A : Option Addr) (K c : Nat) (w : World) :
  Calls Tryz.prog 101 #[.agg (cS (txt nm) kd ty lo hi (.slice B L m) mu mo (.slice A K c))] w (AnsP (ofV kd ty lo hi (.slice B L m)) w) := by
 have HB : Hid (Below w.heap.size w (w.alloc (.cells (cS (txt nm) kd ty lo hi (.slice B L m) mu mo (.slice A K c)) 61))) := hHd bAl
 by_cases h : kd = 1
 ·subst h
  by_cases h1 : ty = 1
  ·subst h1
   go_enter Tryz.func101, Tryz.ntmps101
   go_wp2
   go_ret
   exact ⟨rfl, HB.out⟩
  have e1 : ((ty : Int) == 1) = false := beq_eq_false_iff_ne.2 (by omega)
  by_cases h2 : ty = 2
  ·subst h2
   clear e1 h1
   go_enter Tryz.func101, Tryz.ntmps101
   go_wp2
   go_ret
   exact ⟨rfl, HB.out⟩
  have e2 : ((ty : Int) == 2) = false := beq_eq_false_iff_ne.2 (by omega)
  by_cases h3 : ty = 3
  ·subst h3
   clear e1 h1 e2 h2
   go_enter Tryz.func101, Tryz.ntmps101
   go_wp2
   go_ret
   exact ⟨rfl, HB.out⟩
  have e3 : ((ty : Int) == 3) = false := beq_eq_false_iff_ne.2 (by omega)
  by_cases h4 : ty = 4
  ·subst h4
   clear e1 h1 e2 h2 e3 h3
   go_enter Tryz.func101, Tryz.ntmps101
   go_wp2
   go_ret
   exact ⟨rfl, HB.out⟩
  have e4 : ((ty : Int) == 4) = false := beq_eq_false_iff_ne.2 (by omega)
  by_cases h5 : ty = 5
  ·subst h5
   clear e1 h1 e2 h2 e3 h3 e4 h4
   go_enter Tryz.func101, Tryz.ntmps101
   go_wp2
   go_ret
   exact ⟨rfl, HB.out⟩
  have e5 : ((ty : Int) == 5) = false := beq_eq_false_iff_ne.2 (by omega)
  by_cases h6 : ty = 6
  ·subst h6
   clear e1 h1 e2 h2 e3 h3 e4 h4 e5 h5
   go_enter Tryz.func101, Tryz.ntmps101
   go_wp2
   go_ret
   exact ⟨rfl, HB.out⟩
  have e6 : ((ty : Int) == 6) = false := beq_eq_false_iff_ne.2 (by omega)
  have HV : Hid (ofV 1 ty lo hi (.slice B L m) = .iface 164 (.agg #[])) := hHd (by simp [ofV, h1, h2, h3, h4, h5, h6])
  clear h1 h2 h3 h4 h5 h6
  go_enter Tryz.func101, Tryz.ntmps101
  go_wp2
  go_ret
  exact ⟨by rw [HV.out]; rfl, HB.out⟩
 ·have k1 : ((kd : Int) == 1) = false := beq_eq_false_iff_ne.2 (by omega)
  have k1' : ((kd : Int) != 1) = true := by unfold bne; rw [k1]; rfl
  have HV : Hid (ofV kd ty lo hi (.slice B L m) = .iface 164 (.agg #[])) := hHd (by simp [ofV, h])
  clear h
  go_enter Tryz.func101, Tryz.ntmps101
  go_wp2
  go_ret
  exact ⟨by rw [HV.out]; rfl, HB.out⟩
theorem vright_kind (nm : List UInt8) (kd ty lo hi : Nat) (mu : Bool) (mo : Nat) (B : Option Addr) (L m : Nat) (A : Option Addr) (kn c : Nat) (vk : Int) (vn : Nat) (vt : List UInt8) (w : World) (h : vk ≠ (ty : Int)) :
  Calls Tryz.prog 100 #[.agg (cS (txt nm) kd ty lo hi (.slice B L m) mu mo (.slice A kn c)), .agg #[.int .i64 vk, .int .u64 (vn : Int), .string (txt vt)]] w (AnsP (.bool false) w) := by
 have hbx : Below w.heap.size w ((w.alloc (.cells (cS (txt nm) kd ty lo hi (.slice B L m) mu mo (.slice A kn c)) 61)).alloc (.cells #[.int .i64 vk, .int .u64 (vn : Int), .string (txt vt)] 24)).drew := (bAl.alloc (by simp) _).drew
 have h0 : Blk ((w.alloc (.cells (cS (txt nm) kd ty lo hi (.slice B L m) mu mo (.slice A kn c)) 61)).alloc (.cells #[.int .i64 vk, .int .u64 (vn : Int), .string (txt vt)] 24)).drew w.heap.size 61 (cS (txt nm) kd ty lo hi (.slice B L m) mu mo (.slice A kn c)) := (Blk.new w 61 (cS (txt nm) kd ty lo hi (.slice B L m) mu mo (.slice A kn c))).alloc _
 have h1 : Blk ((w.alloc (.cells (cS (txt nm) kd ty lo hi (.slice B L m) mu mo (.slice A kn c)) 61)).alloc (.cells #[.int .i64 vk, .int .u64 (vn : Int), .string (txt vt)] 24)).drew (w.heap.size + 1) 24 #[.int .i64 vk, .int .u64 (vn : Int), .string (txt vt)] := Blk.newA (w := w.alloc (.cells (cS (txt nm) kd ty lo hi (.slice B L m) mu mo (.slice A kn c)) 61)) (by simp) _ _
 have HS0 := hHd (And.intro h0 h1)
 have HBX := hHd hbx
 clear hbx h0 h1
 have e1 : (vk == (ty : Int)) = false := beq_eq_false_iff_ne.2 h
 clear h
 go_enter Tryz.func100, Tryz.ntmps100
 go_wp2_with fail
 refine wp_region_noPanic ?_
 refine wp_region_held_drew (S := fun _ => True) (by kernel_rfl) trivial (fun hS => ?_)
 refine held_more (S' := fun w' => Blk w' w.heap.size 61 (cS (txt nm) kd ty lo hi (.slice B L m) mu mo (.slice A kn c)) ∧ Blk w' (w.heap.size + 1) 24 #[.int .i64 vk, .int .u64 (vn : Int), .string (txt vt)]) (fun _ _ => trivial) _ _ _ _ ?_
 replace hS := HS0.out
 refine tkH 0 hS ?_
 refine tkH 1 hS ?_ (hy := fun w hSw => by have q0 := (hSw.2.cell 0).trans rfl; (go_simp <;> with_reducible rfl))
 refine tkH 2 hS ?_
 refine tkH 3 hS ?_ (hy := fun w hSw => by have q0 := (hSw.1.cell 2).trans rfl; (go_simp <;> with_reducible rfl))
 refine tkH 4 hS ?_
 refine tkH 5 hS ?_
 refine tkHo 6 hS ?_
 refine tkHo 7 hS ?_
 refine tkHo 8 hS ?_
 refine tkHo 9 hS ?_
 refine tkH 10 hS ?_
 refine tkH 11 hS ?_
 refine wpAnyH_done (by kernel_rfl) ?_ _
 refine NoPanic.normal ?_
 clear hS
 go_wp2
 go_ret
 exact ⟨rfl, HBX.out⟩
theorem vright_in (T : TypeId) (x recv : Value) (F : FuncId) (z : Bool) (nm : List UInt8) (kd ty lo hi : Nat) (mu : Bool) (mo : Nat) (B : Option Addr) (L m : Nat) (A : Option Addr) (kn c : Nat) (vk : Int) (vn : Nat) (vt : List UInt8) (w : World) (h : vk = (ty : Int))
  (hm : ∀ w, (method 313 T x "tollbar/value.right").run Tryz.prog w = .ok (F, recv) w) (heg : ∀ args w, (callFunc F args).run Tryz.prog w = .ok (.enter F args) w) (hof : ofV kd ty lo hi (.slice B L m) = .iface T x) (hF : ∀ W, Below w.heap.size w W → Calls Tryz.prog F #[recv, .agg #[.int .i64 vk, .int .u64 (vn : Int), .string (txt vt)]] W (AnsP (.bool z) W)) :
  Calls Tryz.prog 100 #[.agg (cS (txt nm) kd ty lo hi (.slice B L m) mu mo (.slice A kn c)), .agg #[.int .i64 vk, .int .u64 (vn : Int), .string (txt vt)]] w (AnsP (.bool z) w) := by
 have hbx : Below w.heap.size w ((w.alloc (.cells (cS (txt nm) kd ty lo hi (.slice B L m) mu mo (.slice A kn c)) 61)).alloc (.cells #[.int .i64 vk, .int .u64 (vn : Int), .string (txt vt)] 24)).drew := (bAl.alloc (by simp) _).drew
 have h0 : Blk ((w.alloc (.cells (cS (txt nm) kd ty lo hi (.slice B L m) mu mo (.slice A kn c)) 61)).alloc (.cells #[.int .i64 vk, .int .u64 (vn : Int), .string (txt vt)] 24)).drew w.heap.size 61 (cS (txt nm) kd ty lo hi (.slice B L m) mu mo (.slice A kn c)) := (Blk.new w 61 (cS (txt nm) kd ty lo hi (.slice B L m) mu mo (.slice A kn c))).alloc _
 have h1 : Blk ((w.alloc (.cells (cS (txt nm) kd ty lo hi (.slice B L m) mu mo (.slice A kn c)) 61)).alloc (.cells #[.int .i64 vk, .int .u64 (vn : Int), .string (txt vt)] 24)).drew (w.heap.size + 1) 24 #[.int .i64 vk, .int .u64 (vn : Int), .string (txt vt)] := Blk.newA (w := w.alloc (.cells (cS (txt nm) kd ty lo hi (.slice B L m) mu mo (.slice A kn c)) 61)) (by simp) _ _
 have HS0 := hHd (And.intro h0 h1)
 have HBX := hHd hbx
 clear hbx h0 h1
 have e1 : (vk == (ty : Int)) = true := beq_iff_eq.2 h
 have HOF : Hid (∀ W, Calls Tryz.prog 101 #[.agg (cS (txt nm) kd ty lo hi (.slice B L m) mu mo (.slice A kn c))] W (AnsP (.iface T x) W)) := hHd (fun W => by rw [← hof]; exact of_any nm kd ty lo hi mu mo B L m A kn c W)
 have HF := hHd hF
 have HM := hHd hm
 have HE := hHd heg
 clear h hof hF hm heg
 go_enter Tryz.func100, Tryz.ntmps100
 go_wp2_with fail
 refine wp_region_noPanic ?_
 refine wp_region_held_drew (S := fun _ => True) (by kernel_rfl) trivial (fun hS => ?_)
 refine held_more (S' := fun w' => Blk w' w.heap.size 61 (cS (txt nm) kd ty lo hi (.slice B L m) mu mo (.slice A kn c)) ∧ Blk w' (w.heap.size + 1) 24 #[.int .i64 vk, .int .u64 (vn : Int), .string (txt vt)]) (fun _ _ => trivial) _ _ _ _ ?_
 replace hS := HS0.out
 refine tkH 0 hS ?_
 refine tkH 1 hS ?_ (hy := fun w hSw => by have q0 := (hSw.2.cell 0).trans rfl; (go_simp <;> with_reducible rfl))
 refine tkH 2 hS ?_
 refine tkH 3 hS ?_ (hy := fun w hSw => by have q0 := (hSw.1.cell 2).trans rfl; (go_simp <;> with_reducible rfl))
 refine tkH 4 hS ?_
 refine tkH 5 hS ?_
 refine tkH 6 hS ?_ (hy := fun w hSw => by obtain ⟨q0, q1, q2, q3, q4, q5, q6, q7, q8⟩ := cl9 hSw.1; (go_simp <;> with_reducible rfl))
 refine tkH 8 hS ?_ (hy := fun w hSw => by obtain ⟨q0, q1, q2⟩ := cl3 hSw.2; (go_simp <;> with_reducible rfl))
 refine rdy1 7 fun K hK => ?_
 go_simp
 refine (HOF.out _).mono ?_
 rintro r w7 ⟨rfl, hb⟩
 have HB7 := hHd (HBX.out.trans (hb.mono HBX.out.size))
 have HS7 := hHd (And.intro (HS0.out.1.below hb HS0.out.1.lt) (HS0.out.2.below hb HS0.out.2.lt))
 clear hb
 go_wp2_with fail
 refine hK.out _ _ ?sr_0 (fun hS => ?_)
 case sr_0 => (exact HS7.out)
 clear hK K
 (try simp only [Act.put, layS])
 refine rdy1 9 fun K hK => ?_
 go_simp
 rw [HM.out]
 simp only [Result.andThen]
 rw [HE.out]
 refine (HF.out _ HB7.out).mono ?_
 rintro r w9 ⟨rfl, hb⟩
 have HB9 := hHd (HB7.out.trans (hb.mono HB7.out.size))
 have HS9 := hHd (And.intro (HS7.out.1.below hb HS7.out.1.lt) (HS7.out.2.below hb HS7.out.2.lt))
 clear hb
 go_wp2_with fail
 refine hK.out _ _ ?sr_1 (fun hS => ?_)
 case sr_1 => (exact HS9.out)
 clear hK K
 (try simp only [Act.put, layS])
 refine tkH 10 hS ?_
 refine tkH 11 hS ?_
 refine wpAnyH_done (by kernel_rfl) ?_ _
 refine NoPanic.normal ?_
 clear hS
 go_wp2
 go_ret
 exact ⟨rfl, HB9.out⟩
theorem right_cases9 (nm : List UInt8) (kd ty lo hi : Nat) (ns : List (List UInt8)) (mu : Bool) (mo : Nat) (vk : Int) (vn : Nat) (vt : List UInt8) (h : vk = (ty : Int)) :
  rightX ⟨nm, kd, ty, lo, hi, ns, mu, mo⟩ ⟨vk, vn, vt⟩ = if kd ≠ 1 then false else if ty = 1 ∨ ty = 2 then NumB lo hi vn vt else if ty = 3 then NumB 0 1 vn vt else if ty = 4 then (decide (vn = 0) && (whichX ns vt).isSome) else if ty = 5 ∨ ty = 6 then (decide (vn = 0) && identX vt) else false := by
 unfold rightX NumB
 simp only [h]
 by_cases hk : kd = 1
 ·simp only [hk, ne_eq, not_true_eq_false, if_false, decide_true, Bool.true_and]
  by_cases h1 : ty = 1 ∨ ty = 2
  ·rw [if_pos h1, if_pos h1]
  ·rw [if_neg h1, if_neg h1]
   by_cases h3 : ty = 3
   ·rw [if_pos h3, if_pos h3]
    congr 1
    rw [Bool.eq_iff_iff]
    simp
    omega
   ·rw [if_neg h3, if_neg h3]
    by_cases h4 : ty = 4
    ·rw [if_pos h4, if_pos h4, Bool.and_comm]
    ·rw [if_neg h4, if_neg h4]
     by_cases h5 : ty = 5 ∨ ty = 6
     ·rw [if_pos h5, if_pos h5, Bool.and_comm]
     ·rw [if_neg h5, if_neg h5]
 ·simp [hk]
theorem vright_any (nm : List UInt8) (kd ty lo hi : Nat) (ns : List (List UInt8)) (mu : Bool) (mo : Nat) (B : Option Addr) (m d : Nat) (A : Option Addr) (kn c : Nat) (vk : Int) (vn : Nat) (vt : List UInt8) (w : World)
  (hv : Vals w d (.slice B ns.length m) (txts ns)) (hl : ns.length ≤ 1000000) (hn : vn < 18446744073709551616) (ht : vt.length ≤ 1048576) :
  Calls Tryz.prog 100 #[.agg (cT nm kd ty lo hi ns mu mo B m A kn c), .agg #[.int .i64 vk, .int .u64 (vn : Int), .string (txt vt)]] w (AnsP (.bool (rightX ⟨nm, kd, ty, lo, hi, ns, mu, mo⟩ ⟨vk, vn, vt⟩)) w) := by
 by_cases h : vk = (ty : Int)
 ·rw [right_cases9 nm kd ty lo hi ns mu mo vk vn vt h]
  by_cases hk : kd = 1
  ·rw [if_neg (by simp [hk])]
   subst hk
   by_cases h1 : ty = 1 ∨ ty = 2
   ·rw [if_pos h1]
    rcases h1 with rfl | rfl
    ·exact vright_in 168 (.agg #[.int .u64 (lo : Int), .int .u64 (hi : Int)]) (.agg #[.int .u64 (lo : Int), .int .u64 (hi : Int)]) 160 _ nm _ _ lo hi mu mo B ns.length m A kn c vk vn vt w h (fun _ => by kernel_rfl) (Go.Proofs.enters_of Tryz.func160 (by kernel_rfl) rfl) rfl (fun W _ => numright_any lo hi vk vn vt W hn)
    ·exact vright_in 169 (.agg #[.int .u64 (lo : Int), .int .u64 (hi : Int)]) (.agg #[.int .u64 (lo : Int), .int .u64 (hi : Int)]) 160 _ nm _ _ lo hi mu mo B ns.length m A kn c vk vn vt w h (fun _ => by kernel_rfl) (Go.Proofs.enters_of Tryz.func160 (by kernel_rfl) rfl) rfl (fun W _ => numright_any lo hi vk vn vt W hn)
   ·rw [if_neg h1]
    by_cases h3 : ty = 3
    ·rw [if_pos h3]
     subst h3
     exact vright_in 170 (.agg #[.int .u64 0, .int .u64 1]) (.agg #[.int .u64 0, .int .u64 1]) 160 _ nm _ _ lo hi mu mo B ns.length m A kn c vk vn vt w h (fun _ => by kernel_rfl) (Go.Proofs.enters_of Tryz.func160 (by kernel_rfl) rfl) rfl (fun W _ => numright_any 0 1 vk vn vt W hn)
    ·rw [if_neg h3]
     by_cases h4 : ty = 4
     ·rw [if_pos h4]
      subst h4
      exact vright_in 172 (.agg #[.slice B ns.length m]) (.agg #[.slice B ns.length m]) 174 _ nm _ _ lo hi mu mo B ns.length m A kn c vk vn vt w h (fun _ => by kernel_rfl) (Go.Proofs.enters_of Tryz.func174 (by kernel_rfl) rfl) rfl (fun W hW => choiceright_any ns d B m vk vn vt W (hv.heap (fun h0 => hW.block d (by obtain ⟨A', c', _, _, h2⟩ := hv; exact (h2 h0).1))) hl)
     ·rw [if_neg h4]
      by_cases h5 : ty = 5 ∨ ty = 6
      ·rw [if_pos h5]
       rcases h5 with rfl | rfl
       ·exact vright_in 175 (.agg #[]) (.agg #[]) 181 _ nm _ _ lo hi mu mo B ns.length m A kn c vk vn vt w h (fun _ => by kernel_rfl) (Go.Proofs.enters_of Tryz.func181 (by kernel_rfl) rfl) rfl (fun W _ => nameright_any vk vn vt W ht)
       ·exact vright_in 176 (.agg #[]) (.agg #[]) 181 _ nm _ _ lo hi mu mo B ns.length m A kn c vk vn vt w h (fun _ => by kernel_rfl) (Go.Proofs.enters_of Tryz.func181 (by kernel_rfl) rfl) rfl (fun W _ => nameright_any vk vn vt W ht)
      ·rw [if_neg h5]
       exact vright_in 164 (.agg #[]) (.agg #[]) 156 _ nm _ _ lo hi mu mo B ns.length m A kn c vk vn vt w h (fun _ => by kernel_rfl) (Go.Proofs.enters_of Tryz.func156 (by kernel_rfl) rfl) (by simp only [not_or] at h1 h5; simp [ofV, h1, h3, h4, h5]) (fun W _ => noneright_any vk vn vt W)
  ·rw [if_pos hk]
   exact vright_in 164 (.agg #[]) (.agg #[]) 156 _ nm _ _ lo hi mu mo B ns.length m A kn c vk vn vt w h (fun _ => by kernel_rfl) (Go.Proofs.enters_of Tryz.func156 (by kernel_rfl) rfl) (by simp [ofV, hk]) (fun W _ => noneright_any vk vn vt W)
 ·have hz : rightX ⟨nm, kd, ty, lo, hi, ns, mu, mo⟩ ⟨vk, vn, vt⟩ = false := by unfold rightX; simp [h]
  rw [hz]
  exact vright_kind nm kd ty lo hi mu mo B ns.length m A kn c vk vn vt w h
def encV : Nat → Nat → List UInt8
 | 0, x => [UInt8.ofNat x]
 | f + 1, x => if x < 128 then [UInt8.ofNat x] else UInt8.ofNat (x % 128 + 128) :: encV f (x / 128)
theorem encV_small (f x : Nat) (h : x < 128) : encV f x = [UInt8.ofNat x] := by cases f <;> simp [encV, h]
theorem encV_big (f x : Nat) (h : ¬ x < 128) : encV (f + 1) x = UInt8.ofNat (x % 128 + 128) :: encV f (x / 128) := by simp [encV, h]
theorem encV_length (f x : Nat) : 1 ≤ (encV f x).length ∧ (encV f x).length ≤ f + 1 := by
 induction f generalizing x with
 | zero => simp [encV]
 | succ f ih =>
  by_cases h : x < 128
  ·rw [encV_small _ _ h]; simp
  ·rw [encV_big f x h, List.length_cons]
   have := ih (x / 128)
   omega
def lead : Nat → List UInt8 → Nat
 | 0, _ => 0
 | _ + 1, [] => 0
 | f + 1, b :: l => if 127 < b.toNat then lead f l + 1 else 0
def horner (l : List UInt8) : Nat := l.foldr (fun b a => a * 128 + b.toNat % 128) 0
def getV (s : List UInt8) : Nat × Nat × Int :=
 if lead 10 s = 10 then (0, 0, 14)
 else if lead 10 s = s.length then (0, 0, 10)
 else if 18446744073709551616 ≤ horner (s.take (lead 10 s + 1)) then (0, 0, 14)
 else if 0 < lead 10 s ∧ (s.getD (lead 10 s) 0).toNat = 0 then (0, 0, 11)
 else (horner (s.take (lead 10 s + 1)), lead 10 s + 1, 0)
inductive Fo where
 | nil : Fo
 | cons (tag : Nat) (data : List UInt8) (kids : Fo) (rest : Fo) : Fo
deriving DecidableEq
namespace Fo
def len : Fo → Nat
 | nil => 0
 | cons _ _ _ r => r.len + 1
def app : Fo → Fo → Fo
 | nil, g => g
 | cons t d k r, g => cons t d k (r.app g)
def wt : Fo → Nat
 | nil => 0
 | cons _ d k r => 1 + d.length / 100 + k.wt + r.wt
def sz : Fo → Nat
 | nil => 0
 | cons _ d k r => 1 + d.length + k.sz + r.sz
def inn (tag : Nat) (data kids : List UInt8) : List UInt8 := if tag % 2 = 1 then kids else data
def all : Fo → List UInt8
 | nil => []
 | cons t d k r => encV 9 t ++ (encV 9 (inn t d k.all).length ++ (inn t d k.all ++ r.all))
def right : Nat → Fo → Bool
 | _, nil => true
 | deep, cons t d k r => decide (deep ≤ 6) && (if t % 2 = 1 then d.isEmpty else k.len == 0) && right (deep + 1) k && right deep r
theorem app_nil (f : Fo) : f.app nil = f := by
 induction f with
 | nil => rfl
 | cons t d k r _ ih => simp only [app, ih]
theorem app_assoc (f g h : Fo) : (f.app g).app h = f.app (g.app h) := by
 induction f with
 | nil => rfl
 | cons t d k r _ ih => simp only [app, ih]
theorem len_app (f g : Fo) : (f.app g).len = f.len + g.len := by
 induction f with
 | nil => simp [app, len]
 | cons t d k r _ ih => simp only [app, len, ih]; omega
theorem sz_app (f g : Fo) : (f.app g).sz = f.sz + g.sz := by
 induction f with
 | nil => simp [app, sz]
 | cons t d k r _ ih => simp only [app, sz, ih]; omega
theorem all_app (f g : Fo) : (f.app g).all = f.all ++ g.all := by
 induction f with
 | nil => rfl
 | cons t d k r _ ih => simp only [app, all, ih, List.append_assoc]
theorem right_app (deep : Nat) (f g : Fo) : right deep (f.app g) = (right deep f && right deep g) := by
 induction f with
 | nil => simp [app, right]
 | cons t d k r _ ih => simp only [app, right, ih, Bool.and_assoc]
theorem len_le_wt (f : Fo) : f.len ≤ f.wt := by
 induction f with
 | nil => simp [len]
 | cons t d k r _ ih => simp only [len, wt]; omega
theorem wt_le_sz (f : Fo) : f.wt ≤ f.sz := by
 induction f with
 | nil => simp [wt]
 | cons t d k r ihk ih => simp only [wt, sz]; omega
theorem len_zero {f : Fo} (h : f.len = 0) : f = nil := by
 cases f with
 | nil => rfl
 | cons t d k r => simp [len] at h
theorem inn_length_le (t : Nat) (d k : List UInt8) : (inn t d k).length ≤ d.length + k.length := by
 unfold inn; split <;> omega
theorem all_le (f : Fo) : f.all.length ≤ 20 * f.sz := by
 induction f with
 | nil => simp [all]
 | cons t d k r ihk ih =>
  simp only [all, List.length_append, sz]
  have h1 := (encV_length 9 t).2
  have h2 := (encV_length 9 (inn t d k.all).length).2
  have h3 := inn_length_le t d k.all
  omega
end Fo
def fin (t : Nat) (d : List UInt8) (k r : Fo × Int × Nat) : Fo × Int × Nat :=
 if k.2.1 ≠ 0 then (.nil, k.2.1, k.2.2) else if r.2.1 ≠ 0 then (.nil, r.2.1, r.2.2) else (.cons t d k.1 r.1, 0, 0)
def gt : Nat → List UInt8 → Nat → Nat → Fo × Int × Nat
 | 0, _, _, _ => (.nil, 0, 0)
 | n + 1, s, deep, at_ =>
  if s = [] then (.nil, 0, 0) else
  if (getV s).2.2 ≠ 0 then (.nil, (getV s).2.2, at_) else
  if (getV (s.drop (getV s).2.1)).2.2 ≠ 0 then (.nil, (getV (s.drop (getV s).2.1)).2.2, at_ + (getV s).2.1) else
  if s.length - (getV s).2.1 - (getV (s.drop (getV s).2.1)).2.1 < (getV (s.drop (getV s).2.1)).1 then (.nil, 10, at_ + (getV s).2.1 + (getV (s.drop (getV s).2.1)).2.1) else
  if 6 < deep then (.nil, 13, at_) else
  fin (getV s).1 (if (getV s).1 % 2 = 0 then (s.drop ((getV s).2.1 + (getV (s.drop (getV s).2.1)).2.1)).take (getV (s.drop (getV s).2.1)).1 else [])
   (if (getV s).1 % 2 = 0 then (Fo.nil, (0 : Int), 0) else gt n ((s.drop ((getV s).2.1 + (getV (s.drop (getV s).2.1)).2.1)).take (getV (s.drop (getV s).2.1)).1) (deep + 1) (at_ + (getV s).2.1 + (getV (s.drop (getV s).2.1)).2.1))
   (gt n (s.drop ((getV s).2.1 + (getV (s.drop (getV s).2.1)).2.1 + (getV (s.drop (getV s).2.1)).1)) deep (at_ + ((getV s).2.1 + (getV (s.drop (getV s).2.1)).2.1 + (getV (s.drop (getV s).2.1)).1)))
namespace Fo
def drop : Nat → Fo → Fo
 | 0, f => f
 | _ + 1, nil => nil
 | n + 1, cons _ _ _ r => drop n r
def take : Nat → Fo → Fo
 | 0, _ => nil
 | _ + 1, nil => nil
 | n + 1, cons t d k r => cons t d k (take n r)
theorem take_app_drop (n : Nat) : ∀ f : Fo, (take n f).app (drop n f) = f := by
 induction n with
 | zero => intro f; rfl
 | succ n ih =>
  intro f
  cases f with
  | nil => rfl
  | cons t d k r => simp only [take, drop, app, ih]
theorem take_all (f : Fo) : take f.len f = f := by
 induction f with
 | nil => rfl
 | cons t d k r _ ih => simp only [len, take, ih]
theorem len_drop (n : Nat) : ∀ f : Fo, (drop n f).len = f.len - n := by
 induction n with
 | zero => intro f; rfl
 | succ n ih =>
  intro f
  cases f with
  | nil => simp [drop, len]
  | cons t d k r => simp only [drop, len, ih]; omega
theorem len_take (n : Nat) : ∀ f : Fo, n ≤ f.len → (take n f).len = n := by
 induction n with
 | zero => intro f _; rfl
 | succ n ih =>
  intro f h
  cases f with
  | nil => simp [len] at h
  | cons t d k r => simp only [take, len]; rw [ih r (by simp only [len] at h; omega)]
theorem drop_cons {n : Nat} : ∀ {f : Fo}, n < f.len → ∃ t d k, drop n f = cons t d k (drop (n + 1) f) ∧ take (n + 1) f = (take n f).app (cons t d k nil) := by
 induction n with
 | zero =>
  intro f h
  cases f with
  | nil => simp [len] at h
  | cons t d k r => exact ⟨t, d, k, rfl, rfl⟩
 | succ n ih =>
  intro f h
  cases f with
  | nil => simp [len] at h
  | cons t d k r =>
   obtain ⟨t', d', k', h1, h2⟩ := ih (f := r) (by simp only [len] at h; omega)
   refine ⟨t', d', k', h1, ?_⟩
   show cons t d k (take (n + 1) r) = cons t d k ((take n r).app _)
   rw [h2]
def kidsAll (P : Fo → Prop) : Fo → Prop
 | nil => True
 | cons _ _ k r => P k ∧ kidsAll P r
theorem kidsAll_drop {P : Fo → Prop} (n : Nat) : ∀ {f : Fo}, kidsAll P f → kidsAll P (drop n f) := by
 induction n with
 | zero => intro f h; exact h
 | succ n ih =>
  intro f h
  cases f with
  | nil => exact h
  | cons t d k r => exact ih h.2
theorem byKids {P : Fo → Prop} (h : ∀ f, kidsAll P f → P f) (f : Fo) : P f := by
 have both : ∀ f, P f ∧ kidsAll P f := by
  intro f
  induction f with
  | nil => exact ⟨h _ trivial, trivial⟩
  | cons t d k r ihk ihr => exact ⟨h _ ⟨ihk.1, ihr.2⟩, ⟨ihk.1, ihr.2⟩⟩
 exact (both f).1
end Fo
def FAt (D : World → (Nat → Prop) → Value → List UInt8 → Prop) (w : World) (S : Nat → Prop) : Fo → Nat → Nat → Prop
 | .nil, _, _ => True
 | .cons t d k r, b, o => w.cell? ⟨b, o, none⟩ = some (.int .u64 (t : Int)) ∧ t < 18446744073709551616 ∧ (∃ v, w.cell? ⟨b, o + 1, none⟩ = some v ∧ D w S v d) ∧
   (∃ A c, w.cell? ⟨b, o + 2, none⟩ = some (.slice A k.len c) ∧ k.len ≤ c ∧ (0 < k.len → ∃ b' o', A = some ⟨b', o', none⟩ ∧ S b' ∧ FAt D w S k b' o')) ∧ FAt D w S r b (o + 3)
def FV (D : World → (Nat → Prop) → Value → List UInt8 → Prop) (w : World) (S : Nat → Prop) (v : Value) (f : Fo) : Prop :=
 ∃ A c, v = .slice A f.len c ∧ f.len ≤ c ∧ (0 < f.len → ∃ b o, A = some ⟨b, o, none⟩ ∧ S b ∧ FAt D w S f b o)
def DataI (w : World) (S : Nat → Prop) (v : Value) (d : List UInt8) : Prop := ∃ db, Rd w db v d ∧ (0 < d.length → S db)
def DataR (_ : World) (_ : Nat → Prop) (v : Value) (d : List UInt8) : Prop := v = .string (txt d)
def Stays (D : World → (Nat → Prop) → Value → List UInt8 → Prop) : Prop :=
 ∀ (w w' : World) (S S' : Nat → Prop) v d, (∀ g, S g → w'.heap[g]? = w.heap[g]?) → (∀ g, S g → S' g) → D w S v d → D w' S' v d
theorem stays_I : Stays DataI := fun w w' S S' v d hk hS ⟨db, hr, hs⟩ => by
 by_cases h0 : 0 < d.length
 ·exact ⟨db, hr.heap (hk db (hs h0)), fun h => hS _ (hs h)⟩
 ·have hd : d = [] := List.eq_nil_of_length_eq_zero (by omega)
  subst hd
  obtain ⟨A, c, rfl, h1, h2, _⟩ := hr
  exact ⟨db, ⟨A, c, rfl, h1, h2, fun h => absurd h (by simp)⟩, fun h => absurd h (by simp)⟩
theorem stays_R : Stays DataR := fun _ _ _ _ _ _ _ _ h => h
section
variable {D : World → (Nat → Prop) → Value → List UInt8 → Prop} {w w' : World} {S S' : Nat → Prop}
theorem FAt.kept (hD : Stays D) (hk : ∀ g, S g → w'.heap[g]? = w.heap[g]?) (hS : ∀ g, S g → S' g) : ∀ {f : Fo} {b o : Nat}, S b → FAt D w S f b o → FAt D w' S' f b o := by
 intro f
 induction f with
 | nil => intro b o _ _; trivial
 | cons t d k r ihk ihr =>
  intro b o hb ⟨h1, ht, ⟨v, h2, h3⟩, ⟨A, c, h4, h5, h6⟩, h7⟩
  have hc : ∀ i, w'.cell? ⟨b, i, none⟩ = w.cell? ⟨b, i, none⟩ := fun i => World.cell?_of_block (w := w) (hk b hb)
  refine ⟨(hc _).trans h1, ht, ⟨v, (hc _).trans h2, hD _ _ _ _ _ _ hk hS h3⟩, ⟨A, c, (hc _).trans h4, h5, fun h0 => ?_⟩, ihr hb h7⟩
  obtain ⟨b', o', h8, h9, h10⟩ := h6 h0
  exact ⟨b', o', h8, hS _ h9, ihk h9 h10⟩
theorem FV.kept {v : Value} {f : Fo} (hD : Stays D) (h : FV D w S v f) (hk : ∀ g, S g → w'.heap[g]? = w.heap[g]?) (hS : ∀ g, S g → S' g) : FV D w' S' v f := by
 obtain ⟨A, c, rfl, h1, h2⟩ := h
 refine ⟨A, c, rfl, h1, fun h0 => ?_⟩
 obtain ⟨b, o, h3, h4, h5⟩ := h2 h0
 exact ⟨b, o, h3, hS _ h4, h5.kept hD hk hS h4⟩
theorem FV.nil (w : World) (S : Nat → Prop) : FV D w S (.slice none 0 0) .nil := ⟨none, 0, rfl, Nat.le_refl _, fun h => absurd h (by simp [Fo.len])⟩
theorem FAt.drop (n : Nat) : ∀ {f : Fo} {b o : Nat}, FAt D w S f b o → FAt D w S (Fo.drop n f) b (o + n * 3) := by
 induction n with
 | zero => intro f b o h; simpa [Fo.drop] using h
 | succ n ih =>
  intro f b o h
  cases f with
  | nil => trivial
  | cons t d k r =>
   have h7 := ih h.2.2.2.2
   have e : o + 3 + n * 3 = o + (n + 1) * 3 := by omega
   rw [e] at h7
   exact h7
theorem FV.at {v : Value} {f : Fo} (h : FV D w S v f) {n : Nat} (hn : n < f.len) :
  ∃ b o c t d k, v = .slice (some ⟨b, o, none⟩) f.len c ∧ f.len ≤ c ∧ S b ∧ Fo.drop n f = .cons t d k (Fo.drop (n + 1) f) ∧ Fo.take (n + 1) f = (Fo.take n f).app (.cons t d k .nil) ∧ t < 18446744073709551616 ∧
   w.cell? ⟨b, o + n * 3, none⟩ = some (.int .u64 (t : Int)) ∧ (∃ dv, w.cell? ⟨b, o + n * 3 + 1, none⟩ = some dv ∧ D w S dv d) ∧ (∃ kv, w.cell? ⟨b, o + n * 3 + 2, none⟩ = some kv ∧ FV D w S kv k) := by
 obtain ⟨A, c, rfl, h1, h2⟩ := h
 obtain ⟨b, o, rfl, h3, h4⟩ := h2 (by omega)
 obtain ⟨t, d, k, h5, h6⟩ := Fo.drop_cons hn
 have h7 := h4.drop n
 rw [h5] at h7
 obtain ⟨g1, gt, ⟨dv, g2, g3⟩, ⟨A', c', g4, g5, g6⟩, _⟩ := h7
 exact ⟨b, o, c, t, d, k, rfl, h1, h3, h5, h6, gt, g1, ⟨dv, g2, g3⟩, ⟨_, g4, A', c', rfl, g5, g6⟩⟩
theorem FV.shape {v : Value} {f : Fo} (h : FV D w S v f) : ∃ A c, v = .slice A f.len c := by
 obtain ⟨A, c, e, _⟩ := h
 exact ⟨A, c, e⟩
end
end Go.Proofs.YtodlhgflfcadmaaGreat
