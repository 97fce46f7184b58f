/- What ValidClasses stands on: TrvA. -/
import Derived.Test.YtljjaikejfoanaaGreatXM0
import Derived.Test.YtljjaikejfoanaaGreatXM3
import Derived.Lib.Bytealg
import Derived.Lib.Strings
import Derived.Lib.Slices
import Derived.Lib.Walk
set_option linter.unusedSimpArgs false
set_option linter.unusedVariables false
namespace Go.Proofs.YtljjaikejfoanaaGreat
open Go.RowKit
set_option maxHeartbeats 1000000 in
set_option maxRecDepth 100000 in
theorem bcmp_any (a b : ByteArray) (w : World) :
  Calls Tryz.prog 97 #[.string a, .string b] w fun e w' => e = .returned (.int .i64 (Lib.compareBytes a.data.toList b.data.toList)) ∧ w = w' := by
 go_enter Tryz.func97, Tryz.ntmps97
 go_wp2
 rw [run_callFunc_extern Tryz.func102 (by kernel_rfl) (by kernel_rfl) (by kernel_rfl) (e := Extern.BytealgCompare.compare) (by kernel_rfl), Lib.run_compareString]
 simp only [Result.andThen]
 rw [Oper.upon_value]
 go_wp2
 go_ret
 exact ⟨rfl, rfl⟩
set_option maxHeartbeats 1000000 in
theorem scmp_any (a b : ByteArray) (w : World) :
  Calls Tryz.prog 89 #[.string a, .string b] w fun e w' => e = .returned (.int .i64 (Lib.compareBytes a.data.toList b.data.toList)) ∧ w = w' := by
 go_enter Tryz.func89, Tryz.ntmps89
 go_wp2_with (go_at_call 97; refine (bcmp_any _ _ _).mono ?_; rintro e w' ⟨rfl, rfl⟩)
 go_ret
 exact ⟨rfl, rfl⟩
def cmpS (s t : Stp) : Int := if Lib.compareBytes s.1 t.1 ≠ 0 then Lib.compareBytes s.1 t.1 else Lib.compareBytes s.2 t.2
theorem cmpB_iff : ∀ (a b : List UInt8), (Lib.compareBytes a b < 0 ↔ ltY a b = true) ∧ (Lib.compareBytes a b = 0 ↔ a = b) := by
 intro a
 induction a with
 | nil =>
  intro b
  cases b with
  | nil => simp [Lib.compareBytes, ltB_irrefl]
  | cons y b => simp [Lib.compareBytes]; rfl
 | cons x a ih =>
  intro b
  cases b with
  | nil => simp [Lib.compareBytes, ltB_nil]
  | cons y b =>
   rw [ltB_cons]
   unfold Lib.compareBytes
   simp only [UInt8.lt_iff_toNat_lt]
   by_cases h1 : x.toNat < y.toNat
   ·rw [if_pos h1]
    have h2 : x ≠ y := fun e => by subst e; omega
    simp [h1, h2]
   ·rw [if_neg h1]
    by_cases h2 : y.toNat < x.toNat
    ·rw [if_pos h2]
     have h3 : x ≠ y := fun e => by subst e; omega
     simp [h1, h3]
    ·rw [if_neg h2]
     have h3 : x = y := UInt8.toNat_inj.1 (by omega)
     subst h3
     simp [ih b]
theorem cmpS_lt (s t : Stp) : cmpS s t < 0 ↔ lessS s t = true := by
 obtain ⟨h1, h2⟩ := cmpB_iff s.1 t.1
 obtain ⟨h3, h4⟩ := cmpB_iff s.2 t.2
 rw [lessS_iff]
 unfold cmpS
 split
 ·rename_i h
  rw [h1]
  have : s.1 ≠ t.1 := fun e => h (h2.2 e)
  simp [this]
 ·rename_i h
  have e : s.1 = t.1 := h2.1 (by simpa using h)
  rw [h3, e]
  simp [ltB_irrefl]
theorem cmpS_decide (s t : Stp) : decide (cmpS s t < 0) = lessS s t := by
 cases h : lessS s t with
 | true => exact decide_eq_true ((cmpS_lt s t).2 h)
 | false => exact decide_eq_false (fun e => by rw [cmpS_lt, h] at e; cases e)
set_option maxHeartbeats 1000000 in
set_option maxRecDepth 100000 in
theorem or_any (x y : Int) (g : Nat) (w : World) (hg : Blk w g 3 #[.int .i64 x, .int .i64 y]) :
  Calls Tryz.prog 88 #[.slice (some ⟨g, 0, none⟩) 2 2] w fun e w' => e = .returned (.int .i64 (if x ≠ 0 then x else y)) ∧ w = w' := by
 have q0 := (hg.cell 0).trans rfl
 have q1 := (hg.cell 1).trans rfl
 clear hg
 by_cases h : x = 0
 ·have e : (if x ≠ 0 then x else y) = y := by simp [h]
  have HE := Lib.hid e
  clear e
  subst h
  by_cases h2 : y = 0
  ·subst h2
   go_enter Tryz.func88, Tryz.ntmps88
   go_wp2
   refine wp_loop_rounds 3 ?_
   rw [rounds_succ]
   go_wp2
   rw [rounds_succ]
   go_wp2
   rw [rounds_succ]
   go_wp2
   go_ret
   exact ⟨rfl, rfl⟩
  ·have b1 : (y == 0) = false := beq_eq_false_iff_ne.2 h2
   have b2 : (y != 0) = true := by simp [h2]
   go_enter Tryz.func88, Tryz.ntmps88
   go_wp2
   refine wp_loop_rounds 2 ?_
   rw [rounds_succ]
   go_wp2
   rw [rounds_succ]
   go_wp2
   go_ret
   first | exact ⟨rfl, rfl⟩ | exact ⟨by rw [HE.out], rfl⟩ | exact ⟨by rw [HE.out]; rfl, rfl⟩
 ·have e : (if x ≠ 0 then x else y) = x := by simp [h]
  have HE := Lib.hid e
  have b1 : (x == 0) = false := beq_eq_false_iff_ne.2 h
  have b2 : (x != 0) = true := by simp [h]
  clear e
  go_enter Tryz.func88, Tryz.ntmps88
  go_wp2
  refine wp_loop_rounds 1 ?_
  rw [rounds_succ]
  go_wp2
  go_ret
  first | exact ⟨rfl, rfl⟩ | exact ⟨by rw [HE.out], rfl⟩ | exact ⟨by rw [HE.out]; rfl, rfl⟩
theorem Blk.newA {w : World} {g : Nat} (h : w.heap.size = g) (t : TypeId) (cs : Array Value) : Blk (w.alloc (.cells cs t)) g t cs := by subst h; exact Blk.new w t cs
theorem drew_is (w : World) : w.drew = w.drewN 1 := rfl
theorem drewN_grow (w : World) (os : Array Obj) (n : Nat) : (Go.Sort.grow w os).drewN n = Go.Sort.grow (w.drewN n) os := rfl
set_option maxHeartbeats 1000000 in
set_option maxRecDepth 100000 in
theorem order_any (a b : NdD) (u v : Value) (w : World) (hu : u.oneCell' = true) (hv : v.oneCell' = true) :
  Calls Tryz.prog 78 #[.agg #[.string (txt a.name), .string (txt a.key), .int .i64 a.kind, .int .u64 (a.num : Int), .string (txt a.text), u], .agg #[.string (txt b.name), .string (txt b.key), .int .i64 b.kind, .int .u64 (b.num : Int), .string (txt b.text), v]] w (Grw (.int .i64 (cmpS (stp a) (stp b))) w) := by
 have h1 : Blk ((w.alloc (.cells #[.string (txt a.name), .string (txt a.key), .int .i64 a.kind, .int .u64 (a.num : Int), .string (txt a.text), u] 27)).alloc (.cells #[.string (txt b.name), .string (txt b.key), .int .i64 b.kind, .int .u64 (b.num : Int), .string (txt b.text), v] 27)).drew w.heap.size 27 #[.string (txt a.name), .string (txt a.key), .int .i64 a.kind, .int .u64 (a.num : Int), .string (txt a.text), u] := (Blk.new w 27 #[.string (txt a.name), .string (txt a.key), .int .i64 a.kind, .int .u64 (a.num : Int), .string (txt a.text), u]).alloc _
 have h2 : Blk ((w.alloc (.cells #[.string (txt a.name), .string (txt a.key), .int .i64 a.kind, .int .u64 (a.num : Int), .string (txt a.text), u] 27)).alloc (.cells #[.string (txt b.name), .string (txt b.key), .int .i64 b.kind, .int .u64 (b.num : Int), .string (txt b.text), v] 27)).drew (w.heap.size + 1) 27 #[.string (txt b.name), .string (txt b.key), .int .i64 b.kind, .int .u64 (b.num : Int), .string (txt b.text), v] := Blk.newA (by simp) _ _
 have H1 := Lib.hid (And.intro h1 h2)
 have c1 : Lib.compareBytes (txt a.name).data.toList (txt b.name).data.toList = Lib.compareBytes a.name b.name := by rfl
 have c2 : Lib.compareBytes (txt a.key).data.toList (txt b.key).data.toList = Lib.compareBytes a.key b.key := by rfl
 obtain ⟨x, hx⟩ : ∃ x, x = Lib.compareBytes a.name b.name := ⟨_, rfl⟩
 obtain ⟨y, hy⟩ : ∃ y, y = Lib.compareBytes a.key b.key := ⟨_, rfl⟩
 rw [← hx] at c1
 rw [← hy] at c2
 have HC1 := Lib.hid c1
 have HC2 := Lib.hid c2
 have HE : Hid ((if x ≠ 0 then x else y) = cmpS (stp a) (stp b)) := Lib.hid (by rw [hx, hy]; rfl)
 have HN : Hid (Blk (((w.alloc (.cells #[.string (txt a.name), .string (txt a.key), .int .i64 a.kind, .int .u64 (a.num : Int), .string (txt a.text), u] 27)).alloc (.cells #[.string (txt b.name), .string (txt b.key), .int .i64 b.kind, .int .u64 (b.num : Int), .string (txt b.text), v] 27)).alloc (.cells #[.int .i64 x, .int .i64 y] 3)).drew (w.heap.size + 1 + 1) 3 #[.int .i64 x, .int .i64 y]) := Lib.hid (show Blk (((w.alloc (.cells #[.string (txt a.name), .string (txt a.key), .int .i64 a.kind, .int .u64 (a.num : Int), .string (txt a.text), u] 27)).alloc (.cells #[.string (txt b.name), .string (txt b.key), .int .i64 b.kind, .int .u64 (b.num : Int), .string (txt b.text), v] 27)).alloc (.cells #[.int .i64 x, .int .i64 y] 3)) (w.heap.size + 1 + 1) 3 #[.int .i64 x, .int .i64 y] from Blk.newA (by simp) _ _)
 clear h1 h2 hx hy c1 c2
 go_enter Tryz.func78, Tryz.ntmps78
 go_wp2_with fail
 refine wp_region_noPanic ?_
 refine wp_region_held_drew (S := fun _ => True) (by kernel_rfl) trivial (fun hS => ?_)
 refine held_more (S' := fun w' => Blk w' w.heap.size 27 #[.string (txt a.name), .string (txt a.key), .int .i64 a.kind, .int .u64 (a.num : Int), .string (txt a.text), u] ∧ Blk w' (w.heap.size + 1) 27 #[.string (txt b.name), .string (txt b.key), .int .i64 b.kind, .int .u64 (b.num : Int), .string (txt b.text), v]) (fun _ _ => trivial) _ _ _ _ ?_
 replace hS := H1.out
 refine wpAnyH_take (i := 0) (oi := ?o_0) (v := ?v_0) ?i_0 (by kernel_rfl) (by kernel_rfl) (by kernel_rfl) (fun _ _ _ h => h) (Or.inl ⟨?g_0, ?y_0⟩) hS ?_
 case i_0 => simp only [layG]; rfl
 case g_0 => rfl
 case y_0 => (intro w hSw; (go_simp <;> with_reducible rfl))
 (try simp only [Act.put, layS])
 refine wpAnyH_take (i := 1) (oi := ?o_1) (v := ?v_1) ?i_1 (by kernel_rfl) (by kernel_rfl) (by kernel_rfl) (fun _ _ _ h => h) (Or.inl ⟨?g_1, ?y_1⟩) hS ?_
 case i_1 => simp only [layG]; rfl
 case g_1 => rfl
 case y_1 => (intro w hSw; have q0 := (hSw.1.cell 0).trans rfl; have q1 := (hSw.1.cell 1).trans rfl; have q2 := (hSw.1.cell 2).trans rfl; have q3 := (hSw.1.cell 3).trans rfl; have q4 := (hSw.1.cell 4).trans rfl; have q5 := (hSw.1.cell 5).trans rfl; (go_simp <;> with_reducible rfl))
 (try simp only [Act.put, layS])
 refine wpAnyH_take (i := 2) (oi := ?o_2) (v := ?v_2) ?i_2 (by kernel_rfl) (by kernel_rfl) (by kernel_rfl) (fun _ _ _ h => h) (Or.inl ⟨?g_2, ?y_2⟩) hS ?_
 case i_2 => simp only [layG]; rfl
 case g_2 => rfl
 case y_2 => (intro w hSw; (go_simp <;> with_reducible rfl))
 (try simp only [Act.put, layS])
 refine wpAnyH_take (i := 3) (oi := ?o_3) (v := ?v_3) ?i_3 (by kernel_rfl) (by kernel_rfl) (by kernel_rfl) (fun _ _ _ h => h) (Or.inl ⟨?g_3, ?y_3⟩) hS ?_
 case i_3 => simp only [layG]; rfl
 case g_3 => rfl
 case y_3 => (intro w hSw; have q0 := (hSw.2.cell 0).trans rfl; have q1 := (hSw.2.cell 1).trans rfl; have q2 := (hSw.2.cell 2).trans rfl; have q3 := (hSw.2.cell 3).trans rfl; have q4 := (hSw.2.cell 4).trans rfl; have q5 := (hSw.2.cell 5).trans rfl; (go_simp <;> with_reducible rfl))
 (try simp only [Act.put, layS])
 refine wpAnyH_take (i := 5) (oi := ?o_4) (v := ?v_4) ?i_4 (by kernel_rfl) (by kernel_rfl) (by kernel_rfl) (fun _ _ _ h => h) (Or.inl ⟨?g_4, ?y_4⟩) hS ?_
 case i_4 => simp only [layG]; rfl
 case g_4 => rfl
 case y_4 => (intro w hSw; (go_simp <;> with_reducible rfl))
 (try simp only [Act.put, layS])
 refine wpAnyH_take (i := 6) (oi := ?o_5) (v := ?v_5) ?i_5 (by kernel_rfl) (by kernel_rfl) (by kernel_rfl) (fun _ _ _ h => h) (Or.inl ⟨?g_5, ?y_5⟩) hS ?_
 case i_5 => simp only [layG]; rfl
 case g_5 => rfl
 case y_5 => (intro w hSw; have q0 := (hSw.1.cell 0).trans rfl; have q1 := (hSw.1.cell 1).trans rfl; have q2 := (hSw.1.cell 2).trans rfl; have q3 := (hSw.1.cell 3).trans rfl; have q4 := (hSw.1.cell 4).trans rfl; have q5 := (hSw.1.cell 5).trans rfl; (go_simp <;> with_reducible rfl))
 (try simp only [Act.put, layS])
 refine wpAnyH_take (i := 7) (oi := ?o_6) (v := ?v_6) ?i_6 (by kernel_rfl) (by kernel_rfl) (by kernel_rfl) (fun _ _ _ h => h) (Or.inl ⟨?g_6, ?y_6⟩) hS ?_
 case i_6 => simp only [layG]; rfl
 case g_6 => rfl
 case y_6 => (intro w hSw; (go_simp <;> with_reducible rfl))
 (try simp only [Act.put, layS])
 refine wpAnyH_take (i := 8) (oi := ?o_7) (v := ?v_7) ?i_7 (by kernel_rfl) (by kernel_rfl) (by kernel_rfl) (fun _ _ _ h => h) (Or.inl ⟨?g_7, ?y_7⟩) hS ?_
 case i_7 => simp only [layG]; rfl
 case g_7 => rfl
 case y_7 => (intro w hSw; have q0 := (hSw.2.cell 0).trans rfl; have q1 := (hSw.2.cell 1).trans rfl; have q2 := (hSw.2.cell 2).trans rfl; have q3 := (hSw.2.cell 3).trans rfl; have q4 := (hSw.2.cell 4).trans rfl; have q5 := (hSw.2.cell 5).trans rfl; (go_simp <;> with_reducible rfl))
 (try simp only [Act.put, layS])
 refine wpAnyH_ready (rs := [4]) (by kernel_rfl) (by simp) ?_
 refine (AllReadyH.cons (o := ?or_8) ?ir_8 (fun K hK => ?str_8) AllReadyH.nil)
 case ir_8 => simp only [layG]; rfl
 rw [if_pos (by rfl)]
 go_simp
 refine (scmp_any _ _ _).mono ?_
 rintro r w3 ⟨rfl, rfl⟩
 rw [HC1.out]
 go_wp2_with fail
 refine hK.out _ _ ?sr_8 (fun hS => ?_)
 case sr_8 => (exact H1.out)
 clear hK K
 (try simp only [Act.put, layS])
 refine wpAnyH_ready (rs := [9]) (by kernel_rfl) (by simp) ?_
 refine (AllReadyH.cons (o := ?or_9) ?ir_9 (fun K hK => ?str_9) AllReadyH.nil)
 case ir_9 => simp only [layG]; rfl
 rw [if_pos (by rfl)]
 go_simp
 refine (scmp_any _ _ _).mono ?_
 rintro r w3 ⟨rfl, rfl⟩
 rw [HC2.out]
 go_wp2_with fail
 refine hK.out _ _ ?sr_9 (fun hS => ?_)
 case sr_9 => (exact H1.out)
 clear hK K
 (try simp only [Act.put, layS])
 refine wpAnyH_ready (rs := [10]) (by kernel_rfl) (by simp) ?_
 refine (AllReadyH.cons (o := ?or_a) ?ir_a (fun K hK => ?str_a) AllReadyH.nil)
 case ir_a => simp only [layG]; rfl
 rw [if_pos (by rfl)]
 go_simp
 refine hK.out _ _ ?sr_a (fun hS => ?_)
 case sr_a => (exact ⟨H1.out.1.alloc _, H1.out.2.alloc _⟩)
 clear hK K
 (try simp only [Act.put, layS])
 refine wpAnyH_ready (rs := [11]) (by kernel_rfl) (by simp) ?_
 refine (AllReadyH.cons (o := ?or_b) ?ir_b (fun K hK => ?str_b) AllReadyH.nil)
 case ir_b => simp only [layG]; rfl
 rw [if_pos (by rfl)]
 go_simp
 refine (or_any x y (w.heap.size + 1 + 1) _ HN.out).mono ?_
 rintro r w3 ⟨rfl, rfl⟩
 rw [HE.out]
 go_wp2_with fail
 refine hK.out _ _ ?sr_b (fun hS => ?_)
 case sr_b => (exact ⟨H1.out.1.alloc _, H1.out.2.alloc _⟩)
 clear hK K
 (try simp only [Act.put, layS])
 refine wpAnyH_take (i := 12) (oi := ?o_c) (v := ?v_c) ?i_c (by kernel_rfl) (by kernel_rfl) (by kernel_rfl) (fun _ _ _ h => h) (Or.inl ⟨?g_c, ?y_c⟩) hS ?_
 case i_c => simp only [layG]; rfl
 case g_c => rfl
 case y_c => (intro w hSw; (go_simp <;> with_reducible rfl))
 (try simp only [Act.put, layS])
 refine wpAnyH_done (by kernel_rfl) ?_ _
 refine NoPanic.normal ?_
 clear hS
 go_wp2
 go_ret
 exact ⟨rfl, 1, #[.cells #[.string (txt a.name), .string (txt a.key), .int .i64 a.kind, .int .u64 (a.num : Int), .string (txt a.text), u] 27, .cells #[.string (txt b.name), .string (txt b.key), .int .i64 b.kind, .int .u64 (b.num : Int), .string (txt b.text), v] 27, .cells #[.int .i64 x, .int .i64 y] 3], by simp [Go.Sort.alloc_eq_grow, Go.Sort.drew_grow, Go.Sort.grow_grow, drew_is, drewN_grow]⟩
set_option maxHeartbeats 1000000 in
set_option maxRecDepth 100000 in
theorem less_any (a b : NdD) (u v : Value) (w : World) (hu : u.oneCell' = true) (hv : v.oneCell' = true) :
  Calls Tryz.prog 66 #[.agg #[.string (txt a.name), .string (txt a.key), .int .i64 a.kind, .int .u64 (a.num : Int), .string (txt a.text), u], .agg #[.string (txt b.name), .string (txt b.key), .int .i64 b.kind, .int .u64 (b.num : Int), .string (txt b.text), v]] w (Ans9 (.bool (lessX a b)) w) := by
 have h1 : Blk ((w.alloc (.cells #[.string (txt a.name), .string (txt a.key), .int .i64 a.kind, .int .u64 (a.num : Int), .string (txt a.text), u] 27)).alloc (.cells #[.string (txt b.name), .string (txt b.key), .int .i64 b.kind, .int .u64 (b.num : Int), .string (txt b.text), v] 27)) w.heap.size 27 #[.string (txt a.name), .string (txt a.key), .int .i64 a.kind, .int .u64 (a.num : Int), .string (txt a.text), u] := (Blk.new w 27 #[.string (txt a.name), .string (txt a.key), .int .i64 a.kind, .int .u64 (a.num : Int), .string (txt a.text), u]).alloc _
 have h2 : Blk ((w.alloc (.cells #[.string (txt a.name), .string (txt a.key), .int .i64 a.kind, .int .u64 (a.num : Int), .string (txt a.text), u] 27)).alloc (.cells #[.string (txt b.name), .string (txt b.key), .int .i64 b.kind, .int .u64 (b.num : Int), .string (txt b.text), v] 27)) (w.heap.size + 1) 27 #[.string (txt b.name), .string (txt b.key), .int .i64 b.kind, .int .u64 (b.num : Int), .string (txt b.text), v] := Blk.newA (by simp) _ _
 have HB : Hid (Below w.heap.size w ((w.alloc (.cells #[.string (txt a.name), .string (txt a.key), .int .i64 a.kind, .int .u64 (a.num : Int), .string (txt a.text), u] 27)).alloc (.cells #[.string (txt b.name), .string (txt b.key), .int .i64 b.kind, .int .u64 (b.num : Int), .string (txt b.text), v] 27))) := Lib.hid (((Below.refl _ _).alloc (Nat.le_refl _) _).alloc (by simp) _)
 have HO := Lib.hid (fun W => order_any a b u v W hu hv)
 cases h : lessX a b with
 | true =>
  have hd : decide (cmpS (stp a) (stp b) < 0) = true := (cmpS_decide _ _).trans h
  have hd2 : cmpS (stp a) (stp b) < 0 := of_decide_eq_true hd
  generalize cmpS (stp a) (stp b) = z at HO hd hd2
  have q0 := (h1.cell 0).trans rfl
  have q1 := (h1.cell 1).trans rfl
  have q2 := (h1.cell 2).trans rfl
  have q3 := (h1.cell 3).trans rfl
  have q4 := (h1.cell 4).trans rfl
  have q5 := (h1.cell 5).trans rfl
  have p0 := (h2.cell 0).trans rfl
  have p1 := (h2.cell 1).trans rfl
  have p2 := (h2.cell 2).trans rfl
  have p3 := (h2.cell 3).trans rfl
  have p4 := (h2.cell 4).trans rfl
  have p5 := (h2.cell 5).trans rfl
  clear h1 h2 h
  go_enter Tryz.func66, Tryz.ntmps66
  go_wp2_with fail
  refine (HO.out _).mono ?_
  intro r w3 h3
  obtain ⟨rfl, hb3⟩ := h3.ans
  have HB3 := Lib.hid (HB.out.trans (hb3.mono HB.out.size))
  clear hb3 h3
  go_wp2
  go_ret
  exact ⟨rfl, HB3.out⟩
 | false =>
  have hd : decide (cmpS (stp a) (stp b) < 0) = false := (cmpS_decide _ _).trans h
  have hd2 : ¬ cmpS (stp a) (stp b) < 0 := of_decide_eq_false hd
  generalize cmpS (stp a) (stp b) = z at HO hd hd2
  have q0 := (h1.cell 0).trans rfl
  have q1 := (h1.cell 1).trans rfl
  have q2 := (h1.cell 2).trans rfl
  have q3 := (h1.cell 3).trans rfl
  have q4 := (h1.cell 4).trans rfl
  have q5 := (h1.cell 5).trans rfl
  have p0 := (h2.cell 0).trans rfl
  have p1 := (h2.cell 1).trans rfl
  have p2 := (h2.cell 2).trans rfl
  have p3 := (h2.cell 3).trans rfl
  have p4 := (h2.cell 4).trans rfl
  have p5 := (h2.cell 5).trans rfl
  clear h1 h2 h
  go_enter Tryz.func66, Tryz.ntmps66
  go_wp2_with fail
  refine (HO.out _).mono ?_
  intro r w3 h3
  obtain ⟨rfl, hb3⟩ := h3.ans
  have HB3 := Lib.hid (HB.out.trans (hb3.mono HB.out.size))
  clear hb3 h3
  go_wp2
  go_ret
  exact ⟨rfl, HB3.out⟩
theorem LieN.one {b : Nat} {w : World} {cs : List Value} {x : Nd} (h : LieB b w cs x) : ∃ v, cs = ndC x.1 v ∧ v.oneCell' = true := by
 obtain ⟨A, c, h, _⟩ := h.shape
 exact ⟨_, h, rfl⟩
set_option maxHeartbeats 1000000 in
set_option maxRecDepth 100000 in
theorem leafis_any (a : NdD) (u : Value) (w : World) :
  Calls Tryz.prog 65 #[.agg #[.string (txt a.name), .string (txt a.key), .int .i64 a.kind, .int .u64 (a.num : Int), .string (txt a.text), u]] w (Ans9 (.bool (decide (a.kind ≠ 0))) w) := by
 have h1 : Blk (w.alloc (.cells #[.string (txt a.name), .string (txt a.key), .int .i64 a.kind, .int .u64 (a.num : Int), .string (txt a.text), u] 27)) w.heap.size 27 #[.string (txt a.name), .string (txt a.key), .int .i64 a.kind, .int .u64 (a.num : Int), .string (txt a.text), u] := Blk.new w 27 #[.string (txt a.name), .string (txt a.key), .int .i64 a.kind, .int .u64 (a.num : Int), .string (txt a.text), u]
 have HB : Hid (Below w.heap.size w (w.alloc (.cells #[.string (txt a.name), .string (txt a.key), .int .i64 a.kind, .int .u64 (a.num : Int), .string (txt a.text), u] 27))) := Lib.hid ((Below.refl _ _).alloc (Nat.le_refl _) _)
 clear h1
 by_cases h : a.kind = 0
 ·have e1 : (a.kind == 0) = true := beq_iff_eq.2 h
  have e2 : (a.kind != 0) = false := by simp [h]
  have HD : Hid (decide (a.kind ≠ 0) = false) := Lib.hid (by simp [h])
  clear h
  go_enter Tryz.func65, Tryz.ntmps65
  go_wp2
  go_ret
  exact ⟨by rw [HD.out]; rfl, HB.out⟩
 ·have e1 : (a.kind == 0) = false := beq_eq_false_iff_ne.2 h
  have e2 : (a.kind != 0) = true := by simp [h]
  have HD : Hid (decide (a.kind ≠ 0) = true) := Lib.hid (by simp [h])
  clear h
  go_enter Tryz.func65, Tryz.ntmps65
  go_wp2
  go_ret
  exact ⟨by rw [HD.out]; rfl, HB.out⟩
set_option maxHeartbeats 1000000 in
set_option maxRecDepth 100000 in
theorem stepof_any (a : NdD) (u : Value) (w : World) :
  Calls Tryz.prog 100 #[.agg #[.string (txt a.name), .string (txt a.key), .int .i64 a.kind, .int .u64 (a.num : Int), .string (txt a.text), u]] w (Ans9 (.agg #[.string (txt a.name), .string (txt a.key)]) w) := by
 have HZ : Hid (Blk ((w.alloc (.cells #[.string (txt a.name), .string (txt a.key), .int .i64 a.kind, .int .u64 (a.num : Int), .string (txt a.text), u] 27)).alloc (.cells #[.string (txt a.name), .string (txt a.key)] 45)) (w.heap.size + 1) 45 #[.string (txt a.name), .string (txt a.key)]) := Lib.hid (Blk.newA (by simp) _ _)
 have HB : Hid (Below w.heap.size w ((w.alloc (.cells #[.string (txt a.name), .string (txt a.key), .int .i64 a.kind, .int .u64 (a.num : Int), .string (txt a.text), u] 27)).alloc (.cells #[.string (txt a.name), .string (txt a.key)] 45))) := Lib.hid (((Below.refl _ _).alloc (Nat.le_refl _) _).alloc (by simp) _)
 go_enter Tryz.func100, Tryz.ntmps100
 go_wp2
 refine bodyPost_ret (results_cell_row rfl _ _ (w.heap.size + 1) 45 _ (0, 0) _ rfl HZ.out Tryz.underlying45 rfl (by kernel_rfl)) rfl ?_
 exact ⟨rfl, HB.out⟩
end Go.Proofs.YtljjaikejfoanaaGreat
