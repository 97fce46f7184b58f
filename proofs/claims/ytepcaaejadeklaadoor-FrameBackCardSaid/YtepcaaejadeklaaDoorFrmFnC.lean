/-
  The records that stand one behind the other: what package frame's iterator yields, for every loop body that keeps what it is to. No condition but those of each theorem.
-/
import Derived.Test.YtepcaaejadeklaaDoorFrmFnB
import Derived.Test.YtepcaaejadeklaaDoorRangeMem
import Derived.RangeFuncBox
import Derived.Shelf.Abstract
import Derived.Shelf.RegionOpen
import Derived.OwnWalkIn
import Derived.TacticsInMore
import Derived.LoopNIn
import Derived.LoopIn
namespace Go.Proofs.YtepcaaejadeklaaDoor
open Go.RowKit Go.Shelf
attribute [local go_sem] Oper.semAt_some
set_option linter.unusedSimpArgs false

/-- What is yielded: a slice, of these bytes; how many bytes the record has; the error. -/
structure Rec where
  v : Value
  l : List UInt8
  n : Nat
  e : Int
def encR (x : Rec) : Array Value := #[.agg #[x.v, .int .i64 (x.n : Int)], .int .i64 x.e]

/-- Records b begins with, one behind the other, with r left. -/
inductive Chain : List UInt8 → List Rec → List UInt8 → Prop
  | nil (b) : Chain b [] b
  | snoc {b xs r x} : Chain b xs r → r ≠ [] → getF r = (x.l, x.n, 0) → x.e = 0 → Chain b (xs ++ [x]) (r.drop x.n)
theorem Chain.good {b r : List UInt8} {xs : List Rec} (h : Chain b xs r) : ∀ x ∈ xs, x.e = 0 := by
  induction h with
  | nil => simp
  | snoc _ _ _ he ih =>
    intro y hy
    rcases List.mem_append.1 hy with h | h
    · exact ih y h
    · simp at h; rw [h]; exact he
theorem Chain.len {b r : List UInt8} {xs : List Rec} (h : Chain b xs r) : xs.length + r.length ≤ b.length := by
  induction h with
  | nil => simp
  | snoc _ h0 hg _ ih =>
    have h1 := getF_pos hg
    rw [List.length_append, List.length_drop]
    simp only [List.length_cons, List.length_nil]
    omega
def sizes (xs : List Rec) : Nat := (xs.map (·.n)).sum
theorem sizes_snoc (xs : List Rec) (x : Rec) : sizes (xs ++ [x]) = sizes xs + x.n := by simp [sizes]
theorem Chain.recs {b r : List UInt8} {xs : List Rec} (h : Chain b xs r) : recs b = (xs.map (·.l) ++ (recs r).1, sizes xs + (recs r).2.1, (recs r).2.2) := by
  induction h with
  | nil => simp [sizes]
  | @snoc xs r x _ h0 hg _ ih =>
    rw [ih, recs_ok h0 hg, sizes_snoc]
    simp [Nat.add_assoc]
theorem Chain.sizes_le {b r : List UInt8} {xs : List Rec} (h : Chain b xs r) : sizes xs ≤ b.length := by
  have h2 : sizes xs + r.length ≤ b.length := by
    induction h with
    | nil => simp [sizes]
    | snoc _ h0 hg _ ih =>
      have h1 := getF_pos hg
      rw [sizes_snoc, List.length_drop]
      omega
  omega

/-- What a round keeps: what lay below n₀, and all blocks of bytes. -/
def KpB (n₀ : Nat) (W W' : World) : Prop := Below n₀ W W' ∧ ∀ (k : Nat) (cs : Array Value), W.heap[k]? = some (Obj.cells cs 5 (0, 0)) → W'.heap[k]? = some (Obj.cells cs 5 (0, 0))
theorem KpB.refl (n₀ : Nat) (W : World) : KpB n₀ W W := ⟨Below.refl _ _, fun _ _ h => h⟩
theorem KpB.trans {n₀ : Nat} {A B C : World} (h : KpB n₀ A B) (k : KpB n₀ B C) : KpB n₀ A C := ⟨h.1.trans k.1, fun i cs hi => k.2 i cs (h.2 i cs hi)⟩
theorem KpB.below {n₀ : Nat} {W W' : World} (hn : n₀ ≤ W.heap.size) (h : Below W.heap.size W W') : KpB n₀ W W' :=
  ⟨h.mono hn, fun k _ hk => (h.block k (Array.getElem?_eq_some_iff.1 hk).1).trans hk⟩
theorem KpB.putObj {n₀ : Nat} (W : World) (l : Nat) (o o' : Obj) (hn : n₀ ≤ l) (hl : W.heap[l]? = some o) (hc : o.isCells = false) : KpB n₀ W (W.putObj l o') :=
  ⟨⟨rfl, rfl, rfl, by simp, fun k hk => World.putObj_heap_other (by omega)⟩, fun k cs hk => by
    rw [World.putObj_heap_other]
    · exact hk
    · rintro rfl
      rw [hl] at hk
      injection hk with hk
      rw [hk] at hc
      cases hc⟩
theorem KpB.alloc {n₀ : Nat} {W W' : World} (h : KpB n₀ W W') (hn : n₀ ≤ W'.heap.size) (o : Obj) : KpB n₀ W (W'.alloc o) := h.trans (KpB.below hn ((Below.refl _ _).alloc (Nat.le_refl _) o))
theorem KpB.grown {n₀ : Nat} {W W' : World} {row : Option Nat} (hg : W.grownBy W' row) (hn : n₀ ≤ W.heap.size) (hr : ∀ k, row = some k → n₀ ≤ k ∧ ∀ cs, W.heap[k]? ≠ some (Obj.cells cs 5 (0, 0))) : KpB n₀ W W' :=
  ⟨⟨hg.os, hg.tape, hg.output, hg.size, fun k hk => hg.block k (by omega) (fun e => by have := (hr k e.symm).1; omega)⟩, fun k cs hk => (hg.block k (Array.getElem?_eq_some_iff.1 hk).1 (fun e => (hr k e.symm).2 cs hk)).trans hk⟩
theorem KpB.set {n₀ : Nat} {W : World} {B t : Nat} {cs : Array Value} (hB : Blk W B t cs) (hn : n₀ ≤ B) (ht : t ≠ 5) (i : Nat) (u : Value) : KpB n₀ W (W.setCell ⟨B, i, none⟩ u) :=
  ⟨(Below.refl _ _).setCell (p := ⟨B, i, none⟩) hn u, fun k cs' hk => by
    rw [Below.heap_setCell W ⟨B, i, none⟩ u k]
    · exact hk
    · rintro rfl
      unfold Blk at hB
      rw [hB] at hk
      injection hk with hk
      injection hk with _ hk
      exact ht hk⟩
theorem Own.kp {n₀ n₁ : Nat} {W W' : World} {v : Value} {l : List UInt8} (h : Own W n₀ v l) (hk : KpB n₁ W W') : Own W' n₀ v l := by
  obtain ⟨h1, h2⟩ := h
  refine ⟨h1, ?_⟩
  rcases h2 with h | ⟨g, cap, cur, e, hb, hg, h3⟩
  · exact .inl h
  · exact .inr ⟨g, cap, cur, e, hb, hk.2 g cur hg, h3⟩
theorem Own.obj {n₀ : Nat} {W W' : World} {row : Option Nat} {v : Value} {l : List UInt8} (h : Own W n₀ v l) (hg : W.grownBy W' row) (hr : ∀ r, row = some r → ∃ o : Obj, W.heap[r]? = some o ∧ o.isCells = false) : Own W' n₀ v l := by
  obtain ⟨h1, h2⟩ := h
  refine ⟨h1, ?_⟩
  rcases h2 with h | ⟨g, cap, cur, e, hb, hgg, h3⟩
  · exact .inl h
  · exact .inr ⟨g, cap, cur, e, hb, (grownBy_keeps_cells hg hr hgg rfl).trans hgg, h3⟩
theorem Own.shape {w : World} {base : Nat} {v : Value} {l : List UInt8} (h : Own w base v l) : ∃ A c, v = .slice A l.length c := by
  rcases h.2 with ⟨rfl, h0⟩ | ⟨g, cap, cur, rfl, _⟩
  · exact ⟨none, 0, by rw [h0]⟩
  · exact ⟨_, _, rfl⟩

def OwnR (n₀ : Nat) (W : World) (xs : List Rec) : Prop := ∀ x ∈ xs, Own W n₀ x.v x.l
/-- All have come: what is left is no bytes, or the last one bears an error. -/
def RecS (n₀ : Nat) (b : List UInt8) (xs : List Rec) (W : World) : Prop :=
  OwnR n₀ W xs ∧ (Chain b xs [] ∨ ∃ ps x r, xs = ps ++ [x] ∧ x.e ≠ 0 ∧ Chain b ps r ∧ r ≠ [] ∧ getF r = (x.l, x.n, x.e))
/-- Some have come. -/
def RecSp (n₀ : Nat) (b : List UInt8) (xs : List Rec) (W : World) : Prop :=
  OwnR n₀ W xs ∧ ∃ ps x r, xs = ps ++ [x] ∧ Chain b ps r ∧ r ≠ [] ∧ getF r = (x.l, x.n, x.e)
def RecG (n₀ : Nat) (x : Rec) (W : World) : Prop := Own W n₀ x.v x.l ∧ x.n ≤ 90000
theorem ownR_obj {n₀ B : Nat} : OwnFrom B (fun xs W => OwnR n₀ W xs) := fun _ _ _ _ h hg hr x hx => (h x hx).obj hg fun r e => (hr r e).2
theorem recS_own {n₀ B : Nat} {b : List UInt8} : OwnFrom B (RecS n₀ b) := fun xs W W' row h hg hr => ⟨ownR_obj (B := B) xs W W' row h.1 hg hr, h.2⟩
theorem recSp_own {n₀ B : Nat} {b : List UInt8} : OwnFrom B (RecSp n₀ b) := fun xs W W' row h hg hr => ⟨ownR_obj (B := B) xs W W' row h.1 hg hr, h.2⟩
theorem recG_own {n₀ B : Nat} : OwnFrom B (RecG n₀) := fun _ _ _ _ h hg hr => ⟨Own.obj h.1 hg fun r e => (hr r e).2, h.2⟩
theorem OwnR.kp {n₀ n₁ : Nat} {W W' : World} {xs : List Rec} (h : OwnR n₀ W xs) (hk : KpB n₁ W W') : OwnR n₀ W' xs := fun x hx => (h x hx).kp hk
theorem OwnR.snoc {n₀ : Nat} {W : World} {xs : List Rec} {x : Rec} (h : OwnR n₀ W xs) (hx : Own W n₀ x.v x.l) : OwnR n₀ W (xs ++ [x]) := fun y hy => by
  rcases List.mem_append.1 hy with h' | h'
  · exact h y h'
  · simp at h'; rw [h']; exact hx

def lenOf : Value → Nat
  | .slice _ n _ => n
  | _ => 0

set_option maxRecDepth 100000 in
set_option maxHeartbeats 1000000 in
theorem records1_in (F : Fence) (n : Nat) (h6 : F.fn 34) (h7 : F.fn 12) (hro : F.round = none) (hn : 1 ≤ n) (l Bn n₀ d : Nat) (v0 : Value) (b : List UInt8) (J Jx : List Rec → World → Prop)
    (hget : ∀ (s : List UInt8) (W : World) (v : Value), Tab W → Rd W d v s → CallsIn F (n - 1) Tryd.prog 12 #[v] W (GetO (getF s) W))
    (hd : d < n₀) (hg0 : 0 < n₀) (hb9 : b.length ≤ 90000)
    (hY : ∀ pre x W, J pre W → RecG n₀ x W → pre.length < b.length → YieldAt F (n - 1) Tryd.prog l (encR x) W fun e W' =>
      ((e = .returned (.bool true) ∧ J (pre ++ [x]) W') ∨ (e = .returned (.bool false) ∧ Jx (pre ++ [x]) W')) ∧ KpB n₀ W W')
    (W : World) (hJ : AbidesFrom W.heap.size J) (hn₀ : n₀ ≤ W.heap.size) (hT : Tab W) (hBn : W.cell? ⟨Bn, 0, none⟩ = some v0) (hb : Rd W d v0 b) (h0 : J [] W) :
    CallsIn F n Tryd.prog 34 #[.func (.yield l) #[] #[], .pointer (some ⟨Bn, 0, none⟩)] W fun e W' => (∃ v, e = .returned v) ∧
      ((∃ ys, RecS n₀ b ys W' ∧ J ys W') ∨ (∃ pre, RecSp n₀ b pre W' ∧ Jx pre W')) := by
  obtain ⟨A0, c0, rfl⟩ := hb.shape4
  refine callsIn_of_wp Tryd.func34 rfl h6 ?_ hro
  simp only [Tryd.ntmps34, List.size_toArray, List.length_cons, List.length_nil, Nat.reduceAdd, Nat.reduceSub, Array.replicate_succ, Array.replicate_zero, List.push_toArray, List.append_toArray, List.nil_append, List.cons_append]
  gi_wp2
  gi_loopw [3] (fun r wr => ∃ (pre : List Rec) (s : List UInt8), Hid (Rd wr d r s) ∧ Hid (Chain b pre s) ∧ Hid (OwnR n₀ wr pre) ∧ Hid (Tab wr) ∧ Hid (W.heap.size ≤ wr.heap.size) ∧ Hid (J pre wr))
    (fun r _ => lenOf r)
  case atStart =>
    exact ⟨[], b, Lib.hid hb, Lib.hid (.nil b), Lib.hid (fun x hx => by simp at hx), Lib.hid hT, Lib.hid (Nat.le_refl _), Lib.hid h0⟩
  case round =>
    obtain ⟨pre, s, HR, HC, HO, HT, HS, HJ⟩ := hrel
    obtain ⟨As, cs, rfl⟩ := HR.out.shape4
    by_cases h0s : s = []
    · subst h0s
      gi_wp2
      go_end0
      exact ⟨⟨_, rfl⟩, .inl ⟨pre, ⟨HO.out, .inl HC.out⟩, HJ.out⟩⟩
    · have hpos : 0 < s.length := List.length_pos_iff.2 h0s
      have hposI : (0 : Int) < (s.length : Int) := by omega
      have hg := Lib.hid (hget s wr _ HT.out HR.out)
      have H0S := Lib.hid h0s
      obtain ⟨x, m, e, hx⟩ : ∃ x m e, getF s = (x, m, e) := ⟨_, _, _, rfl⟩
      unfold GetO at hg
      rw [hx] at hg
      have HX := Lib.hid hx
      clear hx h0s
      gi_wp2_with fail
      refine hg.out.mono ?_
      rintro r w2 ⟨v2, rfl, ho2, hb2⟩
      obtain ⟨A2, c2, rfl⟩ := ho2.shape
      have hsz : n₀ ≤ wr.heap.size := Nat.le_trans hn₀ HS.out
      have hk2 : KpB n₀ wr w2 := KpB.below hsz hb2
      have hJ2 := hJ pre wr w2 none HJ.out ⟨hb2.os, hb2.tape, hb2.output, hb2.size, fun k hk _ => hb2.block k hk⟩ (fun r e => by cases e)
      obtain ⟨X, hX⟩ : ∃ X : Rec, X = ⟨.slice A2 x.length c2, x, m, e⟩ := ⟨_, rfl⟩
      have hm9 : m ≤ 90000 := by
        have h1 := HC.out.len
        by_cases he : e = 0
        · have h := HX.out
          rw [he] at h
          have := getF_pos h
          omega
        · have := (getF_err HX.out he).2
          omega
      have hG2 : RecG n₀ X w2 := by rw [hX]; exact ⟨ho2.mono hsz, hm9⟩
      have hlen : pre.length < b.length := by have := HC.out.len; omega
      have HO2 := Lib.hid ((HO.out.kp hk2).snoc hG2.1)
      have HT2 := Lib.hid (HT.out.below hb2)
      have HR2 := Lib.hid (HR.out.below hk2.1 hd)
      have HS2 := Lib.hid (Nat.le_trans HS.out hb2.size)
      obtain ⟨fn, tmps, assign, body, hy, hR⟩ := hY pre X w2 hJ2 hG2 hlen
      rw [hX] at hy
      simp only [encR] at hy
      have HXX := Lib.hid hX
      clear ho2 hb2 hk2 hJ2 hG2 hlen hX hget hY hg
      gi_wp2
      refine hR.mono ?_
      rintro e' W3 ⟨(⟨rfl, hJ3⟩ | ⟨rfl, hJx3⟩), hk3⟩
      · by_cases he : e = 0
        · subst he
          have hps := getF_pos HX.out
          have hm0 : 0 < m := by omega
          have hms : m ≤ s.length := by omega
          have hr3 := HR2.out.below hk3.1 hd
          obtain ⟨vs, hsl, hrs⟩ := slice_from hr3 m (m : Int) rfl hms
          obtain ⟨A3, c3, rfl⟩ := hrs.shape4
          simp only [List.length_drop] at hrs hsl
          have HC3 : Hid (Chain b (pre ++ [X]) (s.drop m)) := Lib.hid (by
            have h := Chain.snoc (x := X) HC.out H0S.out (by rw [HXX.out]; exact HX.out) (by rw [HXX.out])
            rw [HXX.out] at h ⊢
            exact h)
          have HO3 := Lib.hid (HO2.out.kp hk3)
          have HT3 : Hid (Tab W3) := Lib.hid fun j hj => (hk3.1.cell (p := ⟨0, j, none⟩) hg0).trans (HT2.out j hj)
          have HS3 := Lib.hid (Nat.le_trans HS2.out hk3.1.size)
          have HR3 := Lib.hid hrs
          have HJ3 := Lib.hid hJ3
          have hld : s.length - m < s.length := by omega
          have HLD := Lib.hid hld
          clear hps hr3 hrs hld hk3 hJ3
          gi_wp2
          go_roundw
          case rel => exact ⟨pre ++ [X], s.drop m, HR3, HC3, HO3, HT3, HS3, HJ3⟩
          case measure => exact HLD.out
        · have hne : (e != 0) = true := by simpa using he
          have HF : Hid (RecS n₀ b (pre ++ [X]) W3) := Lib.hid ⟨HO2.out.kp hk3, .inr ⟨pre, X, s, rfl, by rw [HXX.out]; exact he, HC.out, H0S.out, by rw [HXX.out]; exact HX.out⟩⟩
          clear hk3 he
          gi_wp2
          refine bodyPost_ret (results_none rfl _ _ _) rfl ?_
          exact ⟨⟨_, rfl⟩, .inl ⟨_, HF.out, hJ3⟩⟩
      · have HF : Hid (RecSp n₀ b (pre ++ [X]) W3) := Lib.hid ⟨HO2.out.kp hk3, pre, X, s, rfl, HC.out, H0S.out, by rw [HXX.out]; exact HX.out⟩
        clear hk3
        gi_wp2
        refine bodyPost_ret (results_none rfl _ _ _) rfl ?_
        exact ⟨⟨_, rfl⟩, .inr ⟨_, HF.out, hJx3⟩⟩

set_option maxHeartbeats 1000000 in
theorem records_in (F : Fence) (n : Nat) (h5 : F.fn 29) (hro : F.round = none) (A : Option Addr) (k c : Nat) (w : World) :
    CallsIn F n Tryd.prog 29 #[.slice A k c] w fun e w' => e = .returned (.func (.func 34) #[] #[.pointer (some ⟨w.heap.size, 0, none⟩)]) ∧ w' = w.alloc (.cells #[.slice A k c] 22) := by
  refine callsIn_of_wp Tryd.func29 rfl h5 ?_ hro
  simp only [Tryd.ntmps29, List.size_toArray, List.length_cons, List.length_nil, Nat.reduceAdd, Nat.reduceSub, Array.replicate_succ, Array.replicate_zero, List.push_toArray, List.append_toArray, List.nil_append, List.cons_append]
  gi_wp2
  go_ret
  exact ⟨rfl, rfl⟩

theorem records_seq (F : Fence) (n : Nat) (h6 : F.fn 34) (h7 : F.fn 12) (hro : F.round = none) (hn : 1 ≤ n) (Bn n₀ d : Nat) (v0 : Value) (b : List UInt8) (w : World)
    (hget : ∀ (s : List UInt8) (W : World) (v : Value), Tab W → Rd W d v s → CallsIn F (n - 1) Tryd.prog 12 #[v] W (GetO (getF s) W))
    (hd : d < n₀) (hg0 : 0 < n₀) (hb9 : b.length ≤ 90000) (hn₀ : n₀ ≤ w.heap.size) (hT : Tab w) (hB : Boxed w Bn 22 v0) (hb : Rd w d v0 b) :
    SeqM F n Tryd.prog 34 #[.pointer (some ⟨Bn, 0, none⟩)] encR (RecG n₀) (KpB n₀) (RecS n₀ b) (RecSp n₀ b) b.length w := fun l J Jx W hW hJ _ hY h0 =>
  records1_in F n h6 h7 hro hn l Bn n₀ d v0 b J Jx hget hd hg0 hb9 hY W hJ (Nat.le_trans hn₀ hW.size) (hT.below hW) ((hW.cell (p := ⟨Bn, 0, none⟩) hB.lt).trans hB.cell) (hb.below' hW) h0

end Go.Proofs.YtepcaaejadeklaaDoor
