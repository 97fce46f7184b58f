/- What ValidTells stands on: VadRgt, VadNam. -/
import Derived.Test.YtljjaikejfoanaaGreatZM0
import Derived.Test.YtljjaikejfoanaaGreatZM18
import Derived.Test.YtljjaikejfoanaaGreatZM16
set_option linter.unusedSimpArgs false
set_option linter.unusedVariables false
namespace Go.Proofs.YtljjaikejfoanaaGreat
open Go.RowKit
set_option maxRecDepth 100000 in
set_option maxHeartbeats 2000000 in
theorem vright_kind (nm : List UInt8) (kd ty lo hi : Nat) (mu : Bool) (mo : Nat) (B : Option Addr) (L m : Nat) (A : Option Addr) (kn c : Nat) (vk : Int) (vn : Nat) (vt : List UInt8) (w : World) (h : vk ≠ (ty : Int)) :
    Calls Tryz.prog 81 #[.agg #[.string (txt nm), .int .i64 (kd : Int), .int .i64 (ty : Int), .int .u64 (lo : Int), .int .u64 (hi : Int), .slice B L m, .bool mu, .int .i64 (mo : Int), .slice A kn c], .agg #[.int .i64 vk, .int .u64 (vn : Int), .string (txt vt)]] w (AnsP (.bool false) w) := by
  have hbx : Below w.heap.size w ((w.alloc (.cells #[.string (txt nm), .int .i64 (kd : Int), .int .i64 (ty : Int), .int .u64 (lo : Int), .int .u64 (hi : Int), .slice B L m, .bool mu, .int .i64 (mo : Int), .slice A kn c] 72)).alloc (.cells #[.int .i64 vk, .int .u64 (vn : Int), .string (txt vt)] 24)).drew := (((Below.refl _ _).alloc (Nat.le_refl _) _).alloc (by simp) _).drew
  have h0 : Blk ((w.alloc (.cells #[.string (txt nm), .int .i64 (kd : Int), .int .i64 (ty : Int), .int .u64 (lo : Int), .int .u64 (hi : Int), .slice B L m, .bool mu, .int .i64 (mo : Int), .slice A kn c] 72)).alloc (.cells #[.int .i64 vk, .int .u64 (vn : Int), .string (txt vt)] 24)).drew w.heap.size 72 #[.string (txt nm), .int .i64 (kd : Int), .int .i64 (ty : Int), .int .u64 (lo : Int), .int .u64 (hi : Int), .slice B L m, .bool mu, .int .i64 (mo : Int), .slice A kn c] := (Blk.new w 72 #[.string (txt nm), .int .i64 (kd : Int), .int .i64 (ty : Int), .int .u64 (lo : Int), .int .u64 (hi : Int), .slice B L m, .bool mu, .int .i64 (mo : Int), .slice A kn c]).alloc _
  have h1 : Blk ((w.alloc (.cells #[.string (txt nm), .int .i64 (kd : Int), .int .i64 (ty : Int), .int .u64 (lo : Int), .int .u64 (hi : Int), .slice B L m, .bool mu, .int .i64 (mo : Int), .slice A kn c] 72)).alloc (.cells #[.int .i64 vk, .int .u64 (vn : Int), .string (txt vt)] 24)).drew (w.heap.size + 1) 24 #[.int .i64 vk, .int .u64 (vn : Int), .string (txt vt)] := Blk.newA (w := w.alloc (.cells #[.string (txt nm), .int .i64 (kd : Int), .int .i64 (ty : Int), .int .u64 (lo : Int), .int .u64 (hi : Int), .slice B L m, .bool mu, .int .i64 (mo : Int), .slice A kn c] 72)) (by simp) _ _
  have HS0 := Lib.hid (And.intro h0 h1)
  have HBX := Lib.hid hbx
  clear hbx h0 h1
  have e1 : (vk == (ty : Int)) = false := beq_eq_false_iff_ne.2 h
  clear h
  go_enter Tryz.func81, Tryz.ntmps81
  go_wp2_with fail
  refine wp_region_noPanic ?_
  refine wp_region_held_drew (S := fun _ => True) (by kernel_rfl) trivial (fun hS => ?_)
  refine held_more (S' := fun w' => Blk w' w.heap.size 72 #[.string (txt nm), .int .i64 (kd : Int), .int .i64 (ty : Int), .int .u64 (lo : Int), .int .u64 (hi : Int), .slice B L m, .bool mu, .int .i64 (mo : Int), .slice A kn c] ∧ Blk w' (w.heap.size + 1) 24 #[.int .i64 vk, .int .u64 (vn : Int), .string (txt vt)]) (fun _ _ => trivial) _ _ _ _ ?_
  replace hS := HS0.out
  refine wpAnyH_take (i := 0) (oi := ?o_0) (v := ?v_0) ?i_0 (by kernel_rfl) (by kernel_rfl) (by kernel_rfl) (fun _ _ _ h => h) (Or.inl ⟨?g_0, ?y_0⟩) hS ?_
  case i_0 => simp only [layG]; rfl
  case g_0 => rfl
  case y_0 => (intro w hSw; (go_simp <;> with_reducible rfl))
  (try simp only [Act.put, layS])
  refine wpAnyH_take (i := 1) (oi := ?o_1) (v := ?v_1) ?i_1 (by kernel_rfl) (by kernel_rfl) (by kernel_rfl) (fun _ _ _ h => h) (Or.inl ⟨?g_1, ?y_1⟩) hS ?_
  case i_1 => simp only [layG]; rfl
  case g_1 => rfl
  case y_1 => (intro w hSw; have q0 := (hSw.2.cell 0).trans rfl; (go_simp <;> with_reducible rfl))
  (try simp only [Act.put, layS])
  refine wpAnyH_take (i := 2) (oi := ?o_2) (v := ?v_2) ?i_2 (by kernel_rfl) (by kernel_rfl) (by kernel_rfl) (fun _ _ _ h => h) (Or.inl ⟨?g_2, ?y_2⟩) hS ?_
  case i_2 => simp only [layG]; rfl
  case g_2 => rfl
  case y_2 => (intro w hSw; (go_simp <;> with_reducible rfl))
  (try simp only [Act.put, layS])
  refine wpAnyH_take (i := 3) (oi := ?o_3) (v := ?v_3) ?i_3 (by kernel_rfl) (by kernel_rfl) (by kernel_rfl) (fun _ _ _ h => h) (Or.inl ⟨?g_3, ?y_3⟩) hS ?_
  case i_3 => simp only [layG]; rfl
  case g_3 => rfl
  case y_3 => (intro w hSw; have q0 := (hSw.1.cell 2).trans rfl; (go_simp <;> with_reducible rfl))
  (try simp only [Act.put, layS])
  refine wpAnyH_take (i := 4) (oi := ?o_4) (v := ?v_4) ?i_4 (by kernel_rfl) (by kernel_rfl) (by kernel_rfl) (fun _ _ _ h => h) (Or.inl ⟨?g_4, ?y_4⟩) hS ?_
  case i_4 => simp only [layG]; rfl
  case g_4 => rfl
  case y_4 => (intro w hSw; (go_simp <;> with_reducible rfl))
  (try simp only [Act.put, layS])
  refine wpAnyH_take (i := 5) (oi := ?o_5) (v := ?v_5) ?i_5 (by kernel_rfl) (by kernel_rfl) (by kernel_rfl) (fun _ _ _ h => h) (Or.inl ⟨?g_5, ?y_5⟩) hS ?_
  case i_5 => simp only [layG]; rfl
  case g_5 => rfl
  case y_5 => (intro w hSw; (go_simp <;> with_reducible rfl))
  (try simp only [Act.put, layS])
  refine wpAnyH_take (i := 6) (oi := ?o_6) (v := undef) ?i_6 (by kernel_rfl) (by kernel_rfl) (by kernel_rfl) (fun _ _ _ h => h) (Or.inr ⟨?g_6, rfl⟩) hS ?_
  case i_6 => simp only [layG]; rfl
  case g_6 => rfl
  (try simp only [Act.put, layS])
  refine wpAnyH_take (i := 7) (oi := ?o_7) (v := undef) ?i_7 (by kernel_rfl) (by kernel_rfl) (by kernel_rfl) (fun _ _ _ h => h) (Or.inr ⟨?g_7, rfl⟩) hS ?_
  case i_7 => simp only [layG]; rfl
  case g_7 => rfl
  (try simp only [Act.put, layS])
  refine wpAnyH_take (i := 8) (oi := ?o_8) (v := undef) ?i_8 (by kernel_rfl) (by kernel_rfl) (by kernel_rfl) (fun _ _ _ h => h) (Or.inr ⟨?g_8, rfl⟩) hS ?_
  case i_8 => simp only [layG]; rfl
  case g_8 => rfl
  (try simp only [Act.put, layS])
  refine wpAnyH_take (i := 9) (oi := ?o_9) (v := undef) ?i_9 (by kernel_rfl) (by kernel_rfl) (by kernel_rfl) (fun _ _ _ h => h) (Or.inr ⟨?g_9, rfl⟩) hS ?_
  case i_9 => simp only [layG]; rfl
  case g_9 => rfl
  (try simp only [Act.put, layS])
  refine wpAnyH_take (i := 10) (oi := ?o_a) (v := ?v_a) ?i_a (by kernel_rfl) (by kernel_rfl) (by kernel_rfl) (fun _ _ _ h => h) (Or.inl ⟨?g_a, ?y_a⟩) hS ?_
  case i_a => simp only [layG]; rfl
  case g_a => rfl
  case y_a => (intro w hSw; (go_simp <;> with_reducible rfl))
  (try simp only [Act.put, layS])
  refine wpAnyH_take (i := 11) (oi := ?o_b) (v := ?v_b) ?i_b (by kernel_rfl) (by kernel_rfl) (by kernel_rfl) (fun _ _ _ h => h) (Or.inl ⟨?g_b, ?y_b⟩) hS ?_
  case i_b => simp only [layG]; rfl
  case g_b => rfl
  case y_b => (intro w hSw; (go_simp <;> with_reducible rfl))
  (try simp only [Act.put, layS])
  refine wpAnyH_done (by kernel_rfl) ?_ _
  refine NoPanic.normal ?_
  clear hS
  go_wp2
  go_ret
  exact ⟨rfl, HBX.out⟩
set_option maxRecDepth 100000 in
set_option maxHeartbeats 2000000 in
theorem vright_in (T : TypeId) (x recv : Value) (F : FuncId) (z : Bool) (nm : List UInt8) (kd ty lo hi : Nat) (mu : Bool) (mo : Nat) (B : Option Addr) (L m : Nat) (A : Option Addr) (kn c : Nat) (vk : Int) (vn : Nat) (vt : List UInt8) (w : World) (h : vk = (ty : Int))
    (hm : ∀ w, (method 275 T x "tollbar/value.right").run Tryz.prog w = .ok (F, recv) w) (heg : ∀ args w, (callFunc F args).run Tryz.prog w = .ok (.enter F args) w) (hof : ofV kd ty lo hi (.slice B L m) = .iface T x) (hF : ∀ W, Below w.heap.size w W → Calls Tryz.prog F #[recv, .agg #[.int .i64 vk, .int .u64 (vn : Int), .string (txt vt)]] W (AnsP (.bool z) W)) :
    Calls Tryz.prog 81 #[.agg #[.string (txt nm), .int .i64 (kd : Int), .int .i64 (ty : Int), .int .u64 (lo : Int), .int .u64 (hi : Int), .slice B L m, .bool mu, .int .i64 (mo : Int), .slice A kn c], .agg #[.int .i64 vk, .int .u64 (vn : Int), .string (txt vt)]] w (AnsP (.bool z) w) := by
  have hbx : Below w.heap.size w ((w.alloc (.cells #[.string (txt nm), .int .i64 (kd : Int), .int .i64 (ty : Int), .int .u64 (lo : Int), .int .u64 (hi : Int), .slice B L m, .bool mu, .int .i64 (mo : Int), .slice A kn c] 72)).alloc (.cells #[.int .i64 vk, .int .u64 (vn : Int), .string (txt vt)] 24)).drew := (((Below.refl _ _).alloc (Nat.le_refl _) _).alloc (by simp) _).drew
  have h0 : Blk ((w.alloc (.cells #[.string (txt nm), .int .i64 (kd : Int), .int .i64 (ty : Int), .int .u64 (lo : Int), .int .u64 (hi : Int), .slice B L m, .bool mu, .int .i64 (mo : Int), .slice A kn c] 72)).alloc (.cells #[.int .i64 vk, .int .u64 (vn : Int), .string (txt vt)] 24)).drew w.heap.size 72 #[.string (txt nm), .int .i64 (kd : Int), .int .i64 (ty : Int), .int .u64 (lo : Int), .int .u64 (hi : Int), .slice B L m, .bool mu, .int .i64 (mo : Int), .slice A kn c] := (Blk.new w 72 #[.string (txt nm), .int .i64 (kd : Int), .int .i64 (ty : Int), .int .u64 (lo : Int), .int .u64 (hi : Int), .slice B L m, .bool mu, .int .i64 (mo : Int), .slice A kn c]).alloc _
  have h1 : Blk ((w.alloc (.cells #[.string (txt nm), .int .i64 (kd : Int), .int .i64 (ty : Int), .int .u64 (lo : Int), .int .u64 (hi : Int), .slice B L m, .bool mu, .int .i64 (mo : Int), .slice A kn c] 72)).alloc (.cells #[.int .i64 vk, .int .u64 (vn : Int), .string (txt vt)] 24)).drew (w.heap.size + 1) 24 #[.int .i64 vk, .int .u64 (vn : Int), .string (txt vt)] := Blk.newA (w := w.alloc (.cells #[.string (txt nm), .int .i64 (kd : Int), .int .i64 (ty : Int), .int .u64 (lo : Int), .int .u64 (hi : Int), .slice B L m, .bool mu, .int .i64 (mo : Int), .slice A kn c] 72)) (by simp) _ _
  have HS0 := Lib.hid (And.intro h0 h1)
  have HBX := Lib.hid hbx
  clear hbx h0 h1
  have e1 : (vk == (ty : Int)) = true := beq_iff_eq.2 h
  have HOF : Hid (∀ W, Calls Tryz.prog 90 #[.agg #[.string (txt nm), .int .i64 (kd : Int), .int .i64 (ty : Int), .int .u64 (lo : Int), .int .u64 (hi : Int), .slice B L m, .bool mu, .int .i64 (mo : Int), .slice A kn c]] W (AnsP (.iface T x) W)) := Lib.hid (fun W => by rw [← hof]; exact of_any nm kd ty lo hi mu mo B L m A kn c W)
  have HF := Lib.hid hF
  have HM := Lib.hid hm
  have HE := Lib.hid heg
  clear h hof hF hm heg
  go_enter Tryz.func81, Tryz.ntmps81
  go_wp2_with fail
  refine wp_region_noPanic ?_
  refine wp_region_held_drew (S := fun _ => True) (by kernel_rfl) trivial (fun hS => ?_)
  refine held_more (S' := fun w' => Blk w' w.heap.size 72 #[.string (txt nm), .int .i64 (kd : Int), .int .i64 (ty : Int), .int .u64 (lo : Int), .int .u64 (hi : Int), .slice B L m, .bool mu, .int .i64 (mo : Int), .slice A kn c] ∧ Blk w' (w.heap.size + 1) 24 #[.int .i64 vk, .int .u64 (vn : Int), .string (txt vt)]) (fun _ _ => trivial) _ _ _ _ ?_
  replace hS := HS0.out
  refine wpAnyH_take (i := 0) (oi := ?o_c) (v := ?v_c) ?i_c (by kernel_rfl) (by kernel_rfl) (by kernel_rfl) (fun _ _ _ h => h) (Or.inl ⟨?g_c, ?y_c⟩) hS ?_
  case i_c => simp only [layG]; rfl
  case g_c => rfl
  case y_c => (intro w hSw; (go_simp <;> with_reducible rfl))
  (try simp only [Act.put, layS])
  refine wpAnyH_take (i := 1) (oi := ?o_d) (v := ?v_d) ?i_d (by kernel_rfl) (by kernel_rfl) (by kernel_rfl) (fun _ _ _ h => h) (Or.inl ⟨?g_d, ?y_d⟩) hS ?_
  case i_d => simp only [layG]; rfl
  case g_d => rfl
  case y_d => (intro w hSw; have q0 := (hSw.2.cell 0).trans rfl; (go_simp <;> with_reducible rfl))
  (try simp only [Act.put, layS])
  refine wpAnyH_take (i := 2) (oi := ?o_e) (v := ?v_e) ?i_e (by kernel_rfl) (by kernel_rfl) (by kernel_rfl) (fun _ _ _ h => h) (Or.inl ⟨?g_e, ?y_e⟩) hS ?_
  case i_e => simp only [layG]; rfl
  case g_e => rfl
  case y_e => (intro w hSw; (go_simp <;> with_reducible rfl))
  (try simp only [Act.put, layS])
  refine wpAnyH_take (i := 3) (oi := ?o_f) (v := ?v_f) ?i_f (by kernel_rfl) (by kernel_rfl) (by kernel_rfl) (fun _ _ _ h => h) (Or.inl ⟨?g_f, ?y_f⟩) hS ?_
  case i_f => simp only [layG]; rfl
  case g_f => rfl
  case y_f => (intro w hSw; have q0 := (hSw.1.cell 2).trans rfl; (go_simp <;> with_reducible rfl))
  (try simp only [Act.put, layS])
  refine wpAnyH_take (i := 4) (oi := ?o_g) (v := ?v_g) ?i_g (by kernel_rfl) (by kernel_rfl) (by kernel_rfl) (fun _ _ _ h => h) (Or.inl ⟨?g_g, ?y_g⟩) hS ?_
  case i_g => simp only [layG]; rfl
  case g_g => rfl
  case y_g => (intro w hSw; (go_simp <;> with_reducible rfl))
  (try simp only [Act.put, layS])
  refine wpAnyH_take (i := 5) (oi := ?o_h) (v := ?v_h) ?i_h (by kernel_rfl) (by kernel_rfl) (by kernel_rfl) (fun _ _ _ h => h) (Or.inl ⟨?g_h, ?y_h⟩) hS ?_
  case i_h => simp only [layG]; rfl
  case g_h => rfl
  case y_h => (intro w hSw; (go_simp <;> with_reducible rfl))
  (try simp only [Act.put, layS])
  refine wpAnyH_take (i := 6) (oi := ?o_i) (v := ?v_i) ?i_i (by kernel_rfl) (by kernel_rfl) (by kernel_rfl) (fun _ _ _ h => h) (Or.inl ⟨?g_i, ?y_i⟩) hS ?_
  case i_i => simp only [layG]; rfl
  case g_i => rfl
  case y_i => (intro w hSw; have q0 := (hSw.1.cell 0).trans rfl; have q1 := (hSw.1.cell 1).trans rfl; have q2 := (hSw.1.cell 2).trans rfl; have q3 := (hSw.1.cell 3).trans rfl; have q4 := (hSw.1.cell 4).trans rfl; have q5 := (hSw.1.cell 5).trans rfl; have q6 := (hSw.1.cell 6).trans rfl; have q7 := (hSw.1.cell 7).trans rfl; have q8 := (hSw.1.cell 8).trans rfl; (go_simp <;> with_reducible rfl))
  (try simp only [Act.put, layS])
  refine wpAnyH_take (i := 8) (oi := ?o_j) (v := ?v_j) ?i_j (by kernel_rfl) (by kernel_rfl) (by kernel_rfl) (fun _ _ _ h => h) (Or.inl ⟨?g_j, ?y_j⟩) hS ?_
  case i_j => simp only [layG]; rfl
  case g_j => rfl
  case y_j => (intro w hSw; have q0 := (hSw.2.cell 0).trans rfl; have q1 := (hSw.2.cell 1).trans rfl; have q2 := (hSw.2.cell 2).trans rfl; (go_simp <;> with_reducible rfl))
  (try simp only [Act.put, layS])
  refine wpAnyH_ready (rs := [7]) (by kernel_rfl) (by simp) ?_
  refine (AllReadyH.cons (o := ?or_k) ?ir_k (fun K hK => ?str_k) AllReadyH.nil)
  case ir_k => simp only [layG]; rfl
  rw [if_pos (by rfl)]
  go_simp
  refine (HOF.out _).mono ?_
  rintro r w7 ⟨rfl, hb⟩
  have HB7 := Lib.hid (HBX.out.trans (hb.mono HBX.out.size))
  have HS7 := Lib.hid (And.intro (HS0.out.1.below hb HS0.out.1.lt) (HS0.out.2.below hb HS0.out.2.lt))
  clear hb
  go_wp2_with fail
  refine hK.out _ _ ?sr_k (fun hS => ?_)
  case sr_k => (exact HS7.out)
  clear hK K
  (try simp only [Act.put, layS])
  refine wpAnyH_ready (rs := [9]) (by kernel_rfl) (by simp) ?_
  refine (AllReadyH.cons (o := ?or_l) ?ir_l (fun K hK => ?str_l) AllReadyH.nil)
  case ir_l => simp only [layG]; rfl
  rw [if_pos (by rfl)]
  go_simp
  rw [HM.out]
  simp only [Result.andThen]
  rw [HE.out]
  refine (HF.out _ HB7.out).mono ?_
  rintro r w9 ⟨rfl, hb⟩
  have HB9 := Lib.hid (HB7.out.trans (hb.mono HB7.out.size))
  have HS9 := Lib.hid (And.intro (HS7.out.1.below hb HS7.out.1.lt) (HS7.out.2.below hb HS7.out.2.lt))
  clear hb
  go_wp2_with fail
  refine hK.out _ _ ?sr_l (fun hS => ?_)
  case sr_l => (exact HS9.out)
  clear hK K
  (try simp only [Act.put, layS])
  refine wpAnyH_take (i := 10) (oi := ?o_m) (v := ?v_m) ?i_m (by kernel_rfl) (by kernel_rfl) (by kernel_rfl) (fun _ _ _ h => h) (Or.inl ⟨?g_m, ?y_m⟩) hS ?_
  case i_m => simp only [layG]; rfl
  case g_m => rfl
  case y_m => (intro w hSw; (go_simp <;> with_reducible rfl))
  (try simp only [Act.put, layS])
  refine wpAnyH_take (i := 11) (oi := ?o_n) (v := ?v_n) ?i_n (by kernel_rfl) (by kernel_rfl) (by kernel_rfl) (fun _ _ _ h => h) (Or.inl ⟨?g_n, ?y_n⟩) hS ?_
  case i_n => simp only [layG]; rfl
  case g_n => rfl
  case y_n => (intro w hSw; (go_simp <;> with_reducible rfl))
  (try simp only [Act.put, layS])
  refine wpAnyH_done (by kernel_rfl) ?_ _
  refine NoPanic.normal ?_
  clear hS
  go_wp2
  go_ret
  exact ⟨rfl, HB9.out⟩
theorem right_cases9 (nm : List UInt8) (kd ty lo hi : Nat) (ns : List (List UInt8)) (mu : Bool) (mo : Nat) (vk : Int) (vn : Nat) (vt : List UInt8) (h : vk = (ty : Int)) :
    rightX ⟨nm, kd, ty, lo, hi, ns, mu, mo⟩ ⟨vk, vn, vt⟩ = if kd ≠ 1 then false else if ty = 1 ∨ ty = 2 then NumB lo hi vn vt else if ty = 3 then NumB 0 1 vn vt else if ty = 4 then (decide (vn = 0) && (whichX ns vt).isSome) else if ty = 5 ∨ ty = 6 then (decide (vn = 0) && identX vt) else false := by
  unfold rightX NumB
  simp only [h]
  by_cases hk : kd = 1
  · simp only [hk, ne_eq, not_true_eq_false, if_false, decide_true, Bool.true_and]
    by_cases h1 : ty = 1 ∨ ty = 2
    · rw [if_pos h1, if_pos h1]
    · rw [if_neg h1, if_neg h1]
      by_cases h3 : ty = 3
      · rw [if_pos h3, if_pos h3]
        congr 1
        rw [Bool.eq_iff_iff]
        simp
        omega
      · rw [if_neg h3, if_neg h3]
        by_cases h4 : ty = 4
        · rw [if_pos h4, if_pos h4, Bool.and_comm]
        · rw [if_neg h4, if_neg h4]
          by_cases h5 : ty = 5 ∨ ty = 6
          · rw [if_pos h5, if_pos h5, Bool.and_comm]
          · rw [if_neg h5, if_neg h5]
  · simp [hk]
theorem vright_any (nm : List UInt8) (kd ty lo hi : Nat) (ns : List (List UInt8)) (mu : Bool) (mo : Nat) (B : Option Addr) (m d : Nat) (A : Option Addr) (kn c : Nat) (vk : Int) (vn : Nat) (vt : List UInt8) (w : World)
    (hv : Vals w d (.slice B ns.length m) (txts ns)) (hl : ns.length ≤ 1000000) (hn : vn < 18446744073709551616) (ht : vt.length ≤ 1048576) :
    Calls Tryz.prog 81 #[.agg #[.string (txt nm), .int .i64 (kd : Int), .int .i64 (ty : Int), .int .u64 (lo : Int), .int .u64 (hi : Int), .slice B ns.length m, .bool mu, .int .i64 (mo : Int), .slice A kn c], .agg #[.int .i64 vk, .int .u64 (vn : Int), .string (txt vt)]] w (AnsP (.bool (rightX ⟨nm, kd, ty, lo, hi, ns, mu, mo⟩ ⟨vk, vn, vt⟩)) w) := by
  by_cases h : vk = (ty : Int)
  · rw [right_cases9 nm kd ty lo hi ns mu mo vk vn vt h]
    by_cases hk : kd = 1
    · rw [if_neg (by simp [hk])]
      subst hk
      by_cases h1 : ty = 1 ∨ ty = 2
      · rw [if_pos h1]
        rcases h1 with rfl | rfl
        · exact vright_in 142 (.agg #[.int .u64 (lo : Int), .int .u64 (hi : Int)]) (.agg #[.int .u64 (lo : Int), .int .u64 (hi : Int)]) 125 _ nm _ _ lo hi mu mo B ns.length m A kn c vk vn vt w h (fun _ => by kernel_rfl) (Go.Proofs.enters_of Tryz.func125 (by kernel_rfl) rfl) rfl (fun W _ => numright_any lo hi vk vn vt W hn)
        · exact vright_in 143 (.agg #[.int .u64 (lo : Int), .int .u64 (hi : Int)]) (.agg #[.int .u64 (lo : Int), .int .u64 (hi : Int)]) 125 _ nm _ _ lo hi mu mo B ns.length m A kn c vk vn vt w h (fun _ => by kernel_rfl) (Go.Proofs.enters_of Tryz.func125 (by kernel_rfl) rfl) rfl (fun W _ => numright_any lo hi vk vn vt W hn)
      · rw [if_neg h1]
        by_cases h3 : ty = 3
        · rw [if_pos h3]
          subst h3
          exact vright_in 144 (.agg #[.int .u64 0, .int .u64 1]) (.agg #[.int .u64 0, .int .u64 1]) 125 _ nm _ _ lo hi mu mo B ns.length m A kn c vk vn vt w h (fun _ => by kernel_rfl) (Go.Proofs.enters_of Tryz.func125 (by kernel_rfl) rfl) rfl (fun W _ => numright_any 0 1 vk vn vt W hn)
        · rw [if_neg h3]
          by_cases h4 : ty = 4
          · rw [if_pos h4]
            subst h4
            exact vright_in 146 (.agg #[.slice B ns.length m]) (.agg #[.slice B ns.length m]) 136 _ nm _ _ lo hi mu mo B ns.length m A kn c vk vn vt w h (fun _ => by kernel_rfl) (Go.Proofs.enters_of Tryz.func136 (by kernel_rfl) rfl) rfl (fun W hW => choiceright_any ns d B m vk vn vt W (hv.heap (fun h0 => hW.block d (by obtain ⟨A', c', _, _, h2⟩ := hv; exact (h2 h0).1))) hl)
          · rw [if_neg h4]
            by_cases h5 : ty = 5 ∨ ty = 6
            · rw [if_pos h5]
              rcases h5 with rfl | rfl
              · exact vright_in 149 (.agg #[]) (.agg #[]) 143 _ nm _ _ lo hi mu mo B ns.length m A kn c vk vn vt w h (fun _ => by kernel_rfl) (Go.Proofs.enters_of Tryz.func143 (by kernel_rfl) rfl) rfl (fun W _ => nameright_any vk vn vt W ht)
              · exact vright_in 150 (.agg #[]) (.agg #[]) 143 _ nm _ _ lo hi mu mo B ns.length m A kn c vk vn vt w h (fun _ => by kernel_rfl) (Go.Proofs.enters_of Tryz.func143 (by kernel_rfl) rfl) rfl (fun W _ => nameright_any vk vn vt W ht)
            · rw [if_neg h5]
              exact vright_in 138 (.agg #[]) (.agg #[]) 121 _ nm _ _ lo hi mu mo B ns.length m A kn c vk vn vt w h (fun _ => by kernel_rfl) (Go.Proofs.enters_of Tryz.func121 (by kernel_rfl) rfl) (by simp only [not_or] at h1 h5; simp [ofV, h1, h3, h4, h5]) (fun W _ => noneright_any vk vn vt W)
    · rw [if_pos hk]
      exact vright_in 138 (.agg #[]) (.agg #[]) 121 _ nm _ _ lo hi mu mo B ns.length m A kn c vk vn vt w h (fun _ => by kernel_rfl) (Go.Proofs.enters_of Tryz.func121 (by kernel_rfl) rfl) (by simp [ofV, hk]) (fun W _ => noneright_any vk vn vt W)
  · have hz : rightX ⟨nm, kd, ty, lo, hi, ns, mu, mo⟩ ⟨vk, vn, vt⟩ = false := by unfold rightX; simp [h]
    rw [hz]
    exact vright_kind nm kd ty lo hi mu mo B ns.length m A kn c vk vn vt w h
end Go.Proofs.YtljjaikejfoanaaGreat
namespace Go.Proofs.YtljjaikejfoanaaGreat
open Go.RowKit
attribute [local go_sem] Oper.semAt_some
def kidsOf (nm : List UInt8) : NdF → List Nd
  | .nil => []
  | .cons a k r => if a.name = nm then (a, k) :: kidsOf nm r else kidsOf nm r
theorem kidsOf_drop {nm : List UInt8} {f : NdF} {i : Nat} {a : NdD} {k : NdF} (h : f.get? i = some (a, k)) : kidsOf nm (Fr.drop i f) = if a.name = nm then (a, k) :: kidsOf nm (Fr.drop (i + 1) f) else kidsOf nm (Fr.drop (i + 1) f) := by
  rw [(Fr.get_drop h).1]; rfl
theorem kidsOf_end {nm : List UInt8} {f : NdF} {i : Nat} (h : f.len ≤ i) : kidsOf nm (Fr.drop i f) = [] := by
  have e : Fr.drop i f = .nil := by
    cases hd : Fr.drop i f with
    | nil => rfl
    | cons a k r =>
      have := Fr.len_drop i f
      rw [hd] at this
      simp only [Fr.len] at this
      omega
  rw [e]; rfl
theorem kidsOf_mem {nm : List UInt8} {y : Nd} : ∀ {f : NdF}, y ∈ kidsOf nm f → ∃ i, f.get? i = some y ∧ y.1.name = nm := by
  intro f
  induction f with
  | nil => intro h; cases h
  | cons a k r _ ih =>
    intro h
    unfold kidsOf at h
    split at h
    · rename_i hn
      rcases List.mem_cons.1 h with rfl | h
      · exact ⟨0, rfl, hn⟩
      · obtain ⟨i, h1, h2⟩ := ih h; exact ⟨i + 1, h1, h2⟩
    · obtain ⟨i, h1, h2⟩ := ih h; exact ⟨i + 1, h1, h2⟩
def EncN (b : Nat) (B : Nat) (x : Nd) (args : Array Value) (W : World) : Prop := ∃ cs, args = #[.agg cs.toArray] ∧ LieB b W cs x
theorem KeepN.at {N : Nat → Prop} {m : Nat} {A B : World} (h : KeepN N m A B) {k : Nat} (hk : N k) (hlt : k < A.heap.size) : B.heap[k]? = A.heap[k]? := h.block k hlt (.inl hk)
theorem KeepN.blk {N : Nat → Prop} {m : Nat} {A B : World} (h : KeepN N m A B) {g t : Nat} {cs : Array Value} (hg : Blk A g t cs) (hk : N g) : Blk B g t cs := (h.at hk hg.lt).trans hg
theorem KeepN.blkm {N : Nat → Prop} {m : Nat} {A B : World} (h : KeepN N m A B) {g t : Nat} {cs : Array Value} (hg : Blk A g t cs) (hk : m ≤ g) : Blk B g t cs := (h.block g hg.lt (.inr hk)).trans hg
theorem KeepN.lie {N : Nat → Prop} {m b : Nat} {A B : World} (h : KeepN N m A B) {cs : List Value} {x : Nd} (hx : LieB b A cs x) (hk : ∀ k, k < b → N k) (hb : b ≤ A.heap.size) : LieB b B cs x :=
  hx.keep (fun g hg => h.at (hk g hg) (by omega)) (Nat.le_refl _)
theorem vnamed_any (a : NdD) (u : Value) (nm : List UInt8) (w : World) :
    Calls Tryz.prog 37 #[.agg #[.string (txt a.name), .string (txt a.key), .int .i64 a.kind, .int .u64 (a.num : Int), .string (txt a.text), u], .string (txt nm)] w fun r w' => r = .returned (.func (.func 51) #[] #[.pointer (some ⟨w.heap.size, 0, none⟩), .pointer (some ⟨w.heap.size + 1, 0, none⟩)]) ∧
      w' = (w.alloc (.cells #[.string (txt a.name), .string (txt a.key), .int .i64 a.kind, .int .u64 (a.num : Int), .string (txt a.text), u] 27)).alloc (.cells #[.string (txt nm)] 9) := by
  go_enter Tryz.func37, Tryz.ntmps37
  go_wp2
  go_ret
  exact ⟨rfl, rfl⟩
set_option maxRecDepth 100000 in
set_option maxHeartbeats 4000000 in
theorem named1_in (nm : List UInt8) (a : NdD) (f : NdF) (A : Option Addr) (c b g1 g2 l : Nat) (N : Nat → Prop) (J Jx : List Nd → World → Prop) (W : World)
    (hrow : RowT b W (.slice A f.len c) f) (hb1 : Blk W g1 27 #[.string (txt a.name), .string (txt a.key), .int .i64 a.kind, .int .u64 (a.num : Int), .string (txt a.text), .slice A f.len c]) (hb2 : Blk W g2 9 #[.string (txt nm)]) (hN : ∀ k, k < b → N k) (hN1 : N g1) (hN2 : N g2) (hbW : b ≤ W.heap.size) (hlen : f.len ≤ 1000000)
    (hJ : ∀ s, StB W.heap.size (J s)) (hJx : OwnFrom W.heap.size Jx)
    (hY : ∀ pre x post args W1, kidsOf nm f = pre ++ x :: post → J pre W1 → EncN b W.heap.size x args W1 → ∀ m, YieldAt Fence.wide m Tryz.prog l args W1 (GoY W.heap.size N J Jx (pre ++ [x]) W1)) (h0 : J [] W) :
    CallsIn Fence.wide 9 Tryz.prog 51 #[.func (.yield l) #[] #[], .pointer (some ⟨g1, 0, none⟩), .pointer (some ⟨g2, 0, none⟩)] W fun e W' => (∃ v, e = .returned v) ∧ (J (kidsOf nm f) W' ∨ ∃ pre x post, kidsOf nm f = pre ++ x :: post ∧ Jx (pre ++ [x]) W') := by
  have HROW := Lib.hid hrow
  have HB1 := Lib.hid hb1
  have HB2 := Lib.hid hb2
  have HNN := Lib.hid (And.intro hN (And.intro hN1 hN2))
  have HJ := Lib.hid hJ
  have HY := Lib.hid hY
  have HBW := Lib.hid hbW
  have tn : (txt nm).toList = nm := txt_toList nm
  have q5 := (hb1.cell 5).trans rfl
  clear hrow hb1 hb2 hN hN1 hN2 hJ hY hbW
  refine callsIn_of_wp Tryz.func51 rfl trivial ?_ rfl
  simp only [Tryz.ntmps51, List.size_toArray, List.length_cons, List.length_nil, Nat.reduceAdd, Nat.reduceSub, Array.replicate_succ, Array.replicate_zero, List.push_toArray, List.append_toArray, List.nil_append, List.cons_append]
  gi_wp2
  gi_loopw [9] (fun i wr => ∃ (k : Nat) (pre : List Nd), k ≤ f.len ∧ i = .int .i64 (k : Int) ∧ Hid (kidsOf nm f = pre ++ kidsOf nm (Fr.drop k f)) ∧ Hid (KeepN N W.heap.size W wr) ∧ Hid (J pre wr)) (fun i _ => f.len - (intOf i).toNat)
  case atStart => exact ⟨0, [], Nat.zero_le _, rfl, Lib.hid (by cases f <;> rfl), Lib.hid (KeepN.refl _ _ _), Lib.hid h0⟩
  case round =>
    clear h0 q5
    obtain ⟨i, pre, hi, rfl, HE, HK, HP⟩ := hrel
    have i1 : (0 : Int) ≤ (i : Int) := by omega
    by_cases hlt : i < f.len
    · obtain ⟨y, k, hg⟩ := Fr.get_some hlt
      obtain ⟨g, o, Ay, cy, rfl, -, hnc, hgb, hrk, hcell⟩ := HROW.out.at hg
      have hgW : g < W.heap.size := by have := HBW.out; omega
      have hgk := HK.out.at (HNN.out.1 g hgb) hgW
      have hcw : ∀ j u, (ndC y (.slice Ay k.len cy))[j]? = some u → wr.cell? ⟨g, o + i * 6 + j, none⟩ = some u := fun j u hu => (World.cell?_of_block (w := W) (a := ⟨g, o + i * 6 + j, none⟩) hgk).trans (hcell j u hu)
      have i2 : (i : Int) < (f.len : Int) := by omega
      have hco : ∀ j u, (ndC y (.slice Ay k.len cy))[j]? = some u → wr.cell? ⟨g, o + i * 6 + j, none⟩ = some u := hcw
      have q0 : (wr).cell? ⟨g, o + i * 6, none⟩ = _ := hco 0 _ rfl
      have q1 : (wr).cell? ⟨g, o + i * 6 + 1, none⟩ = _ := hco 1 _ rfl
      have q2 : (wr).cell? ⟨g, o + i * 6 + 2, none⟩ = _ := hco 2 _ rfl
      have q3 : (wr).cell? ⟨g, o + i * 6 + 3, none⟩ = _ := hco 3 _ rfl
      have q4 : (wr).cell? ⟨g, o + i * 6 + 4, none⟩ = _ := hco 4 _ rfl
      have q5 : (wr).cell? ⟨g, o + i * 6 + 5, none⟩ = _ := hco 5 _ rfl
      have q0' : wr.cell? ⟨g, o + i * 6, none⟩ = some (.string (txt y.name)) := q0
      have r2 : (wr.alloc (.cells #[.string (txt y.name), .string (txt y.key), .int .i64 y.kind, .int .u64 (y.num : Int), .string (txt y.text), .slice Ay k.len cy] 27)).cell? ⟨g2, 0, none⟩ = some (.string (txt nm)) := by
        have h := (HK.out.blk HB2.out HNN.out.2.2).alloc (.cells #[.string (txt y.name), .string (txt y.key), .int .i64 y.kind, .int .u64 (y.num : Int), .string (txt y.text), .slice Ay k.len cy] 27)
        exact (h.cell 0).trans rfl
      have HBK := Lib.hid (Blk.new wr 27 #[.string (txt y.name), .string (txt y.key), .int .i64 y.kind, .int .u64 (y.num : Int), .string (txt y.text), .slice Ay k.len cy])
      have ty : (txt y.name).toList = y.name := txt_toList _
      have HD := Lib.hid (kidsOf_drop (nm := nm) hg)
      have HLK : Hid (LieB b (wr.alloc (.cells #[.string (txt y.name), .string (txt y.key), .int .i64 y.kind, .int .u64 (y.num : Int), .string (txt y.text), .slice Ay k.len cy] 27)) (ndC y (.slice Ay k.len cy)) (y, k)) := Lib.hid ((LieB.make (hrk : RowT b W (.slice Ay k.len cy) k)).keep (fun g' hg' => (Below.heap_alloc wr _ g' (by have := HK.out.size; have := HBW.out; omega)).trans (HK.out.at (HNN.out.1 g' hg') (by have := HBW.out; omega))) (Nat.le_refl _))
      have hal : Below wr.heap.size wr (wr.alloc (.cells #[.string (txt y.name), .string (txt y.key), .int .i64 y.kind, .int .u64 (y.num : Int), .string (txt y.text), .slice Ay k.len cy] 27)) := (Below.refl _ _).alloc (Nat.le_refl _) _
      have HKK : Hid (KeepN N W.heap.size W (wr.alloc (.cells #[.string (txt y.name), .string (txt y.key), .int .i64 y.kind, .int .u64 (y.num : Int), .string (txt y.text), .slice Ay k.len cy] 27))) := Lib.hid (HK.out.trans (KeepN.below hal))
      have HPK : Hid (J pre (wr.alloc (.cells #[.string (txt y.name), .string (txt y.key), .int .i64 y.kind, .int .u64 (y.num : Int), .string (txt y.text), .slice Ay k.len cy] 27))) := Lib.hid (HJ.out pre _ _ HP.out (hal.mono HK.out.size))
      have HI3 : Hid (i + 1 ≤ f.len) := Lib.hid (by omega)
      clear hcell hcw hco hgk hrk hg hal
      by_cases hn : y.name = nm
      · have h1 : (y.name == nm) = true := beq_iff_eq.2 hn
        have HE2 : Hid (kidsOf nm f = pre ++ (y, k) :: kidsOf nm (Fr.drop (i + 1) f)) := Lib.hid (by rw [HE.out, HD.out, if_pos hn])
        have p0 := (HBK.out.cell 0).trans rfl
        have p1 := (HBK.out.cell 1).trans rfl
        have p2 := (HBK.out.cell 2).trans rfl
        have p3 := (HBK.out.cell 3).trans rfl
        have p4 := (HBK.out.cell 4).trans rfl
        have p5 := (HBK.out.cell 5).trans rfl
        obtain ⟨fn, tmps, assign, body, hy, hR⟩ := HY.out pre (y, k) _ _ (wr.alloc (.cells #[.string (txt y.name), .string (txt y.key), .int .i64 y.kind, .int .u64 (y.num : Int), .string (txt y.text), .slice Ay k.len cy] 27)) HE2.out HPK.out ⟨_, rfl, HLK.out⟩ (9 - 1)
        clear hn
        gi_wp2
        refine RoundIn.mono hR ?_
        rintro e W3 (⟨rfl, hJ3, hk3⟩ | ⟨rfl, hJx3, hk3⟩)
        · have HK3 : Hid (KeepN N W.heap.size W W3) := Lib.hid (HKK.out.trans (hk3.mono (fun _ _ h => h)))
          have HJ3 := Lib.hid hJ3
          have HE3 : Hid (kidsOf nm f = (pre ++ [(y, k)]) ++ kidsOf nm (Fr.drop (i + 1) f)) := Lib.hid (by rw [HE2.out]; simp)
          clear hk3 hJ3 p0 p1 p2 p3 p4 p5 hR hy
          gi_wp2
          go_roundw
          case rel => exact ⟨i + 1, _, HI3.out, by go_num, HE3, HK3, HJ3⟩
          case measure => simp [intOf]; omega
        · have HX : Hid (∃ pre x post, kidsOf nm f = pre ++ x :: post ∧ Jx (pre ++ [x]) W3) := Lib.hid ⟨pre, (y, k), _, HE2.out, hJx3⟩
          clear hk3 hJx3 p0 p1 p2 p3 p4 p5 hR hy
          gi_wp2
          refine bodyPost_ret (results_none rfl _ _ _) rfl ?_
          exact ⟨⟨_, rfl⟩, .inr HX.out⟩
      · have h1 : (y.name == nm) = false := beq_eq_false_iff_ne.2 hn
        have HE2 : Hid (kidsOf nm f = pre ++ kidsOf nm (Fr.drop (i + 1) f)) := Lib.hid (by rw [HE.out, HD.out, if_neg hn])
        have p0 := (HBK.out.cell 0).trans rfl
        clear hn
        gi_wp2
        refine ⟨fun _ _ => trivial, ?_⟩
        gi_wp2
        go_roundw
        case rel => exact ⟨i + 1, _, HI3.out, by go_num, HE2, HKK, HPK⟩
        case measure => simp [intOf]; omega
    · have i2 : ¬ (i : Int) < (f.len : Int) := by omega
      have HX : Hid (J (kidsOf nm f) wr) := Lib.hid (by rw [HE.out, kidsOf_end (by omega), List.append_nil]; exact HP.out)
      gi_wp2
      go_end0
      exact ⟨⟨_, rfl⟩, .inl HX.out⟩
theorem named_seq (nm : List UInt8) (a : NdD) (f : NdF) (A : Option Addr) (c b g1 g2 : Nat) (N : Nat → Prop) (w : World)
    (hrow : RowT b w (.slice A f.len c) f) (hb1 : Blk w g1 27 #[.string (txt a.name), .string (txt a.key), .int .i64 a.kind, .int .u64 (a.num : Int), .string (txt a.text), .slice A f.len c]) (hb2 : Blk w g2 9 #[.string (txt nm)]) (hN : ∀ k, k < b → N k) (hN1 : N g1) (hN2 : N g2) (hbW : b ≤ w.heap.size) (hlen : f.len ≤ 1000000) :
    SeqG Tryz.prog 51 #[.pointer (some ⟨g1, 0, none⟩), .pointer (some ⟨g2, 0, none⟩)] (EncN b) N (kidsOf nm f) w := fun l J Jx W hW hJ hJx hY h0 =>
  (callsIn_wide (n := 9)).1 (named1_in nm a f A c b g1 g2 l N J Jx W (hrow.under hW hbW (Nat.le_refl _)) (hb1.below hW hb1.lt) (hb2.below hW hb2.lt) hN hN1 hN2 (Nat.le_trans hbW hW.size) hlen hJ hJx hY h0)
end Go.Proofs.YtljjaikejfoanaaGreat
