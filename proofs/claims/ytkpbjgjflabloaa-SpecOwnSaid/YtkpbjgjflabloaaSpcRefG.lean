/-
  What the document's At of the schema answers. No condition but those of each theorem.
-/
import Derived.Test.YtkpbjgjflabloaaSpcRefF
import Derived.Test.YtkpbjgjflabloaaDrawn
namespace Go.Proofs.Ytkpbjgjflabloaa
open Go.RowKit
set_option linter.unusedSimpArgs false
set_option linter.unusedVariables false

theorem down_app : ∀ (l m : List (List UInt8)) (x : Sp), downX x (l ++ m) = (downX x l).bind fun y => downX y m := by
  intro l
  induction l with
  | nil => intro m x; rfl
  | cons n l ih =>
    intro m x
    have e : ∀ l', downX x (n :: l') = match findX n x.2 with
      | none => none
      | some i => match x.2.get? i with
        | none => none
        | some y => downX y l' := fun _ => rfl
    rw [List.cons_append, e, e]
    cases findX n x.2 with
    | none => rfl
    | some i =>
      simp only
      cases x.2.get? i with
      | none => rfl
      | some y => exact ih m y
theorem down_step {l : List (List UInt8)} {k : Nat} {n : List UInt8} {x y : Sp} (h : downX x (l.take k) = some y) (hn : l[k]? = some n) : downX x (l.take (k + 1)) = downX y [n] := by
  rw [List.take_add_one, hn, down_app, h]
  rfl
theorem down_stop {l : List (List UInt8)} {k : Nat} {x : Sp} (h : downX x (l.take k) = none) : downX x l = none := by
  rw [← List.take_append_drop k l, down_app, h]
  rfl
/-- At most seven kids. -/
theorem small_all : (([1, 2, 3] : List Nat).all fun v => ((rootD, rootF v) :: inner (rootF v)).all fun x => decide (x.2.len ≤ 7)) = true := by decide
theorem small_at {v : Int} {l : List (List UInt8)} {x : Sp} (h1 : 1 ≤ v) (h2 : v ≤ 3) (h : downX (rootD, rootF v.toNat) l = some x) : x.2.len ≤ 7 := by
  have hv : v.toNat ∈ ([1, 2, 3] : List Nat) := by
    have : v.toNat = 1 ∨ v.toNat = 2 ∨ v.toNat = 3 := by omega
    simpa using this
  have h3 := List.all_eq_true.1 (List.all_eq_true.1 small_all _ hv)
  rcases down_in h with rfl | h
  · have := h3 (rootD, rootF v.toNat) (by simp)
    simpa using this
  · have := h3 x (by simp [h])
    simpa using this
theorem SpN.under {w w' : World} {S N : Nat → Prop} {cs : List Value} {x : Sp} (h : SpN w S N cs x) (hb : Below w.heap.size w w') (hS : ∀ g, S g → g < w.heap.size) (hN : ∀ g, N g → g < w.heap.size) : SpN w' S N cs x :=
  h.kept stay_spc (fun g hg => hb.block g (hS g hg)) (fun _ h => h) (fun g hg => hb.block g (hN g hg)) (fun _ h => h)
theorem SpN.apart {w w' : World} {S N : Nat → Prop} {cs : List Value} {x : Sp} (h : SpN w S N cs x) (hS : ∀ g, S g → w'.heap[g]? = w.heap[g]?) (hN : ∀ g, N g → w'.heap[g]? = w.heap[g]?) : SpN w' S N cs x :=
  h.kept stay_spc hS (fun _ h => h) hN (fun _ h => h)
set_option maxRecDepth 100000 in
set_option maxHeartbeats 4000000 in
theorem rat_no (v : Int) (l : List (List UInt8)) (nv : Value) (d : Nat) (w : World) (hv : v < 1 ∨ 3 < v) (hn : Vals w d nv (txts l)) : Calls Try.prog 11 #[.int .i64 v, nv] w (RSpP (atX v l) w) := by
  have hx0 : atX v l = ((zeroD, .nil), 28) := by unfold atX; rw [if_pos hv]
  have e1 : rootX v = ((zeroD, .nil), 28) := by unfold rootX; rw [if_pos hv]
  obtain ⟨z, hz⟩ : ∃ z : Sp, z = (zeroD, .nil) := ⟨_, rfl⟩
  rw [← hz] at hx0 e1
  clear hz
  have HX := Lib.hid hx0
  clear hx0
  have NR : ∀ W, Hid (Calls Try.prog 9 #[.int .i64 v] W (fun r w' => ∃ cs, r = .returned (.tuple #[.agg cs.toArray, .int .i64 28]) ∧ SpN w' (Rng W.heap.size w'.heap.size) (Rng W.heap.size w'.heap.size) cs z ∧ Below W.heap.size W w')) := fun W => Lib.hid (by have h := rroot_any v W; rw [e1] at h; exact h)
  obtain ⟨An, cn, e⟩ := hn.shape
  rw [txts_len] at e
  subst e
  have H0 : Hid (Below w.heap.size w (w.alloc (.cells #[.string ⟨#[]⟩, .int .i64 0, .int .i64 0, .int .u64 0, .int .u64 0, .slice none 0 0, .bool false, .int .i64 0, .slice none 0 0] 33))) := Lib.hid ((Below.refl _ _).alloc (Nat.le_refl _) _)
  have R0 : Hid (Blk (w.alloc (.cells #[.string ⟨#[]⟩, .int .i64 0, .int .i64 0, .int .u64 0, .int .u64 0, .slice none 0 0, .bool false, .int .i64 0, .slice none 0 0] 33)) w.heap.size 33 #[.string ⟨#[]⟩, .int .i64 0, .int .i64 0, .int .u64 0, .int .u64 0, .slice none 0 0, .bool false, .int .i64 0, .slice none 0 0]) := Lib.hid (Blk.new w _ _)
  clear e1 hn hv
  go_enter Try.func11, Try.ntmps11
  go_wp2_with fail
  refine (NR _).out.mono ?_
  rintro r w1 ⟨cs, rfl, hc, hB⟩
  obtain ⟨B, m, A, c, dn, rfl, -, -, -⟩ := hc.shape
  have H1 := Lib.hid (H0.out.trans (hB.mono H0.out.size))
  have R1 := Lib.hid (R0.out.below hB R0.out.lt)
  have K1 : Hid (SpN w1 (Rng (w.alloc (.cells #[.string ⟨#[]⟩, .int .i64 0, .int .i64 0, .int .u64 0, .int .u64 0, .slice none 0 0, .bool false, .int .i64 0, .slice none 0 0] 33)).heap.size w1.heap.size) (Rng (w.alloc (.cells #[.string ⟨#[]⟩, .int .i64 0, .int .i64 0, .int .u64 0, .int .u64 0, .slice none 0 0, .bool false, .int .i64 0, .slice none 0 0] 33)).heap.size w1.heap.size) [.string (txt z.1.name), .int .i64 (z.1.kind : Int), .int .i64 (z.1.typ : Int), .int .u64 (z.1.low : Int), .int .u64 (z.1.high : Int), .slice B z.1.names.length m, .bool z.1.must, .int .i64 (z.1.most : Int), .slice A z.2.len c] z) := Lib.hid hc
  have S0 : Hid ((w.alloc (.cells #[.string ⟨#[]⟩, .int .i64 0, .int .i64 0, .int .u64 0, .int .u64 0, .slice none 0 0, .bool false, .int .i64 0, .slice none 0 0] 33)).heap.size = w.heap.size + 1) := Lib.hid (by simp)
  clear hB hc
  go_wp2
  have H2 : Hid (Below w.heap.size w (w1.alloc (.cells #[.string (txt z.1.name), .int .i64 (z.1.kind : Int), .int .i64 (z.1.typ : Int), .int .u64 (z.1.low : Int), .int .u64 (z.1.high : Int), .slice B z.1.names.length m, .bool z.1.must, .int .i64 (z.1.most : Int), .slice A z.2.len c] 33))) := Lib.hid (H1.out.alloc H1.out.size _)
  have R2 : Hid (Blk (w1.alloc (.cells #[.string (txt z.1.name), .int .i64 (z.1.kind : Int), .int .i64 (z.1.typ : Int), .int .u64 (z.1.low : Int), .int .u64 (z.1.high : Int), .slice B z.1.names.length m, .bool z.1.must, .int .i64 (z.1.most : Int), .slice A z.2.len c] 33)) w.heap.size 33 #[.string ⟨#[]⟩, .int .i64 0, .int .i64 0, .int .u64 0, .int .u64 0, .slice none 0 0, .bool false, .int .i64 0, .slice none 0 0]) := Lib.hid (R1.out.alloc _)
  have X2 : Hid (Blk (w1.alloc (.cells #[.string (txt z.1.name), .int .i64 (z.1.kind : Int), .int .i64 (z.1.typ : Int), .int .u64 (z.1.low : Int), .int .u64 (z.1.high : Int), .slice B z.1.names.length m, .bool z.1.must, .int .i64 (z.1.most : Int), .slice A z.2.len c] 33)) w1.heap.size 33 #[.string (txt z.1.name), .int .i64 (z.1.kind : Int), .int .i64 (z.1.typ : Int), .int .u64 (z.1.low : Int), .int .u64 (z.1.high : Int), .slice B z.1.names.length m, .bool z.1.must, .int .i64 (z.1.most : Int), .slice A z.2.len c]) := Lib.hid (Blk.new w1 _ _)
  have K2 : Hid (SpN (w1.alloc (.cells #[.string (txt z.1.name), .int .i64 (z.1.kind : Int), .int .i64 (z.1.typ : Int), .int .u64 (z.1.low : Int), .int .u64 (z.1.high : Int), .slice B z.1.names.length m, .bool z.1.must, .int .i64 (z.1.most : Int), .slice A z.2.len c] 33)) (fun g => w.heap.size < g ∧ g < w1.heap.size) (fun g => w.heap.size < g ∧ g < w1.heap.size) [.string (txt z.1.name), .int .i64 (z.1.kind : Int), .int .i64 (z.1.typ : Int), .int .u64 (z.1.low : Int), .int .u64 (z.1.high : Int), .slice B z.1.names.length m, .bool z.1.must, .int .i64 (z.1.most : Int), .slice A z.2.len c] z) := Lib.hid ((K1.out.under ((Below.refl w1.heap.size w1).alloc (Nat.le_refl _) (.cells #[.string (txt z.1.name), .int .i64 (z.1.kind : Int), .int .i64 (z.1.typ : Int), .int .u64 (z.1.low : Int), .int .u64 (z.1.high : Int), .slice B z.1.names.length m, .bool z.1.must, .int .i64 (z.1.most : Int), .slice A z.2.len c] 33)) (fun g hg => hg.2) (fun g hg => hg.2)).mono stay_spc (fun g hg => ⟨by have := hg.1; rw [S0.out] at this; omega, hg.2⟩) (fun g hg => ⟨by have := hg.1; rw [S0.out] at this; omega, hg.2⟩))
  go_loopw [8] (fun i wr => i = .int .i64 0 ∧ Blk wr w1.heap.size 33 #[.string (txt z.1.name), .int .i64 (z.1.kind : Int), .int .i64 (z.1.typ : Int), .int .u64 (z.1.low : Int), .int .u64 (z.1.high : Int), .slice B z.1.names.length m, .bool z.1.must, .int .i64 (z.1.most : Int), .slice A z.2.len c] ∧ Blk wr w.heap.size 33 #[.string ⟨#[]⟩, .int .i64 0, .int .i64 0, .int .u64 0, .int .u64 0, .slice none 0 0, .bool false, .int .i64 0, .slice none 0 0] ∧ Hid (SpN wr (fun g => w.heap.size < g ∧ g < w1.heap.size) (fun g => w.heap.size < g ∧ g < w1.heap.size) [.string (txt z.1.name), .int .i64 (z.1.kind : Int), .int .i64 (z.1.typ : Int), .int .u64 (z.1.low : Int), .int .u64 (z.1.high : Int), .slice B z.1.names.length m, .bool z.1.must, .int .i64 (z.1.most : Int), .slice A z.2.len c] z) ∧ Below w.heap.size w wr) (fun _ _ => 0)
  case atStart => exact ⟨rfl, X2.out, R2.out, K2, H2.out⟩
  case round =>
    obtain ⟨rfl, hX, hR, HK, hB⟩ := hrel
    have HB := Lib.hid hB
    have HXX := Lib.hid hX
    have HR := Lib.hid hR
    have RE : Hid (Blk (set9 wr w.heap.size (.string (txt z.1.name)) (.int .i64 (z.1.kind : Int)) (.int .i64 (z.1.typ : Int)) (.int .u64 (z.1.low : Int)) (.int .u64 (z.1.high : Int)) (.slice B z.1.names.length m) (.bool z.1.must) (.int .i64 (z.1.most : Int)) (.slice A z.2.len c)) w.heap.size 33 #[.string (txt z.1.name), .int .i64 (z.1.kind : Int), .int .i64 (z.1.typ : Int), .int .u64 (z.1.low : Int), .int .u64 (z.1.high : Int), .slice B z.1.names.length m, .bool z.1.must, .int .i64 (z.1.most : Int), .slice A z.2.len c]) := Lib.hid (HR.out.set9 _ _ _ _ _ _ _ _ _)
    have HE : Hid (Below w.heap.size w (set9 wr w.heap.size (.string (txt z.1.name)) (.int .i64 (z.1.kind : Int)) (.int .i64 (z.1.typ : Int)) (.int .u64 (z.1.low : Int)) (.int .u64 (z.1.high : Int)) (.slice B z.1.names.length m) (.bool z.1.must) (.int .i64 (z.1.most : Int)) (.slice A z.2.len c))) := Lib.hid (HB.out.trans (set9_below (Nat.le_refl _)))
    have KE : Hid (SpN (set9 wr w.heap.size (.string (txt z.1.name)) (.int .i64 (z.1.kind : Int)) (.int .i64 (z.1.typ : Int)) (.int .u64 (z.1.low : Int)) (.int .u64 (z.1.high : Int)) (.slice B z.1.names.length m) (.bool z.1.must) (.int .i64 (z.1.most : Int)) (.slice A z.2.len c)) (Rng w.heap.size (set9 wr w.heap.size (.string (txt z.1.name)) (.int .i64 (z.1.kind : Int)) (.int .i64 (z.1.typ : Int)) (.int .u64 (z.1.low : Int)) (.int .u64 (z.1.high : Int)) (.slice B z.1.names.length m) (.bool z.1.must) (.int .i64 (z.1.most : Int)) (.slice A z.2.len c)).heap.size) (Rng w.heap.size (set9 wr w.heap.size (.string (txt z.1.name)) (.int .i64 (z.1.kind : Int)) (.int .i64 (z.1.typ : Int)) (.int .u64 (z.1.low : Int)) (.int .u64 (z.1.high : Int)) (.slice B z.1.names.length m) (.bool z.1.must) (.int .i64 (z.1.most : Int)) (.slice A z.2.len c)).heap.size) [.string (txt z.1.name), .int .i64 (z.1.kind : Int), .int .i64 (z.1.typ : Int), .int .u64 (z.1.low : Int), .int .u64 (z.1.high : Int), .slice B z.1.names.length m, .bool z.1.must, .int .i64 (z.1.most : Int), .slice A z.2.len c] z) := Lib.hid ((HK.out.apart (fun g hg => set9_other (Nat.ne_of_gt hg.1)) (fun g hg => set9_other (Nat.ne_of_gt hg.1))).mono stay_spc (fun g hg => ⟨Nat.le_of_lt hg.1, by rw [set9_size]; exact Nat.lt_trans hg.2 HXX.out.lt⟩) (fun g hg => ⟨Nat.le_of_lt hg.1, by rw [set9_size]; exact Nat.lt_trans hg.2 HXX.out.lt⟩))
    clear hX hR hB
    have q0 := (HXX.out.cell 0).trans rfl
    have q1 := (HXX.out.cell 1).trans rfl
    have q2 := (HXX.out.cell 2).trans rfl
    have q3 := (HXX.out.cell 3).trans rfl
    have q4 := (HXX.out.cell 4).trans rfl
    have q5 := (HXX.out.cell 5).trans rfl
    have q6 := (HXX.out.cell 6).trans rfl
    have q7 := (HXX.out.cell 7).trans rfl
    have q8 := (HXX.out.cell 8).trans rfl
    have f0 := HR.out.frozen 0
    have r0 := (HR.out.cell 0).trans rfl
    have f1 := HR.out.frozen 1
    have r1 := (HR.out.cell 1).trans rfl
    have f2 := HR.out.frozen 2
    have r2 := (HR.out.cell 2).trans rfl
    have f3 := HR.out.frozen 3
    have r3 := (HR.out.cell 3).trans rfl
    have f4 := HR.out.frozen 4
    have r4 := (HR.out.cell 4).trans rfl
    have f5 := HR.out.frozen 5
    have r5 := (HR.out.cell 5).trans rfl
    have f6 := HR.out.frozen 6
    have r6 := (HR.out.cell 6).trans rfl
    have f7 := HR.out.frozen 7
    have r7 := (HR.out.cell 7).trans rfl
    have f8 := HR.out.frozen 8
    have r8 := (HR.out.cell 8).trans rfl
    obtain ⟨ln, hln⟩ : ∃ ln, ln = l.length := ⟨_, rfl⟩
    rw [← hln]
    clear hln
    have hl : ln = 0 ∨ ∃ m, ln = m + 1 := by cases ln with | zero => exact .inl rfl | succ m => exact .inr ⟨m, rfl⟩
    rcases hl with rfl | ⟨mm, rfl⟩
    all_goals
      go_wp2
      refine bodyPost_ret (res_cell_tmp rfl _ _ w.heap.size 33 _ (0, 0) _ rfl RE.out Try.underlying33 rfl (by kernel_rfl)) rfl ?_
      exact ⟨_, by rw [HX.out]; rfl, by rw [HX.out]; exact KE.out, HE.out⟩
set_option maxRecDepth 100000 in
set_option maxHeartbeats 4000000 in
theorem rat_in (v : Int) (l : List (List UInt8)) (nv : Value) (d : Nat) (w : World) (h1 : 1 ≤ v) (h3 : v ≤ 3) (hn : Vals w d nv (txts l)) (hl : l.length ≤ 1000000) : Calls Try.prog 11 #[.int .i64 v, nv] w (RSpP (atX v l) w) := by
  have hno : ¬ (v < 1 ∨ 3 < v) := by omega
  have HAT : Hid (atX v l = match downX (rootD, rootF v.toNat) l with | none => ((zeroD, .nil), 22) | some x => (x, 0)) := Lib.hid (by unfold atX; rw [if_neg hno]; cases downX (rootD, rootF v.toNat) l <;> rfl)
  have e1 : rootX v = ((rootD, rootF v.toNat), 0) := by unfold rootX; rw [if_neg hno]
  have NR : ∀ W, Hid (Calls Try.prog 9 #[.int .i64 v] W (RSpP ((rootD, rootF v.toNat), 0) W)) := fun W => Lib.hid (by rw [← e1]; exact rroot_any v W)
  have HSM : Hid (∀ m x, downX (rootD, rootF v.toNat) m = some x → x.2.len ≤ 7) := Lib.hid (fun m x h => small_at h1 h3 h)
  obtain ⟨An, cn, e⟩ := hn.shape
  rw [txts_len] at e
  subst e
  have H0 : Hid (Below w.heap.size w (w.alloc (.cells #[.string ⟨#[]⟩, .int .i64 0, .int .i64 0, .int .u64 0, .int .u64 0, .slice none 0 0, .bool false, .int .i64 0, .slice none 0 0] 33))) := Lib.hid ((Below.refl _ _).alloc (Nat.le_refl _) _)
  have R0 : Hid (Blk (w.alloc (.cells #[.string ⟨#[]⟩, .int .i64 0, .int .i64 0, .int .u64 0, .int .u64 0, .slice none 0 0, .bool false, .int .i64 0, .slice none 0 0] 33)) w.heap.size 33 #[.string ⟨#[]⟩, .int .i64 0, .int .i64 0, .int .u64 0, .int .u64 0, .slice none 0 0, .bool false, .int .i64 0, .slice none 0 0]) := Lib.hid (Blk.new w _ _)
  have HN := Lib.hid hn
  clear hno e1 hn h1 h3
  go_enter Try.func11, Try.ntmps11
  go_wp2_with fail
  refine (NR _).out.mono ?_
  rintro r w1 ⟨cs, rfl, hc, hB⟩
  obtain ⟨B, m, A, c, dn, rfl, -, -, -⟩ := hc.shape
  have H1 := Lib.hid (H0.out.trans (hB.mono H0.out.size))
  have R1 := Lib.hid (R0.out.below hB R0.out.lt)
  have z1 : w.heap.size < w1.heap.size := R1.out.lt
  have SP : Hid (∀ g, Rng (w.alloc (.cells #[.string ⟨#[]⟩, .int .i64 0, .int .i64 0, .int .u64 0, .int .u64 0, .slice none 0 0, .bool false, .int .i64 0, .slice none 0 0] 33)).heap.size w1.heap.size g → w.heap.size < g ∧ g < w1.heap.size) := Lib.hid (fun g hg => ⟨by have := hg.1; simp at this; omega, hg.2⟩)
  have K1 : Hid (SpN w1 (fun g => w.heap.size < g ∧ g < w1.heap.size) (fun g => w.heap.size < g ∧ g < w1.heap.size) [.string (txt rootD.name), .int .i64 (rootD.kind : Int), .int .i64 (rootD.typ : Int), .int .u64 (rootD.low : Int), .int .u64 (rootD.high : Int), .slice B rootD.names.length m, .bool rootD.must, .int .i64 (rootD.most : Int), .slice A (rootF v.toNat).len c] (rootD, rootF v.toNat)) := Lib.hid (hc.mono stay_spc SP.out SP.out)
  clear hB hc SP z1
  go_wp2
  have W2 : Hid (Below w1.heap.size w1 (w1.alloc (.cells #[.string (txt rootD.name), .int .i64 (rootD.kind : Int), .int .i64 (rootD.typ : Int), .int .u64 (rootD.low : Int), .int .u64 (rootD.high : Int), .slice B rootD.names.length m, .bool rootD.must, .int .i64 (rootD.most : Int), .slice A (rootF v.toNat).len c] 33))) := Lib.hid ((Below.refl _ _).alloc (Nat.le_refl _) _)
  have R2 : Hid (Blk (w1.alloc (.cells #[.string (txt rootD.name), .int .i64 (rootD.kind : Int), .int .i64 (rootD.typ : Int), .int .u64 (rootD.low : Int), .int .u64 (rootD.high : Int), .slice B rootD.names.length m, .bool rootD.must, .int .i64 (rootD.most : Int), .slice A (rootF v.toNat).len c] 33)) w.heap.size 33 #[.string ⟨#[]⟩, .int .i64 0, .int .i64 0, .int .u64 0, .int .u64 0, .slice none 0 0, .bool false, .int .i64 0, .slice none 0 0]) := Lib.hid (R1.out.alloc _)
  have X2 : Hid (Blk (w1.alloc (.cells #[.string (txt rootD.name), .int .i64 (rootD.kind : Int), .int .i64 (rootD.typ : Int), .int .u64 (rootD.low : Int), .int .u64 (rootD.high : Int), .slice B rootD.names.length m, .bool rootD.must, .int .i64 (rootD.most : Int), .slice A (rootF v.toNat).len c] 33)) w1.heap.size 33 #[.string (txt rootD.name), .int .i64 (rootD.kind : Int), .int .i64 (rootD.typ : Int), .int .u64 (rootD.low : Int), .int .u64 (rootD.high : Int), .slice B rootD.names.length m, .bool rootD.must, .int .i64 (rootD.most : Int), .slice A (rootF v.toNat).len c]) := Lib.hid (Blk.new w1 _ _)
  have K2 : Hid (SpN (w1.alloc (.cells #[.string (txt rootD.name), .int .i64 (rootD.kind : Int), .int .i64 (rootD.typ : Int), .int .u64 (rootD.low : Int), .int .u64 (rootD.high : Int), .slice B rootD.names.length m, .bool rootD.must, .int .i64 (rootD.most : Int), .slice A (rootF v.toNat).len c] 33)) (fun g => w.heap.size < g ∧ g < w1.heap.size) (fun g => w.heap.size < g ∧ g < w1.heap.size) [.string (txt rootD.name), .int .i64 (rootD.kind : Int), .int .i64 (rootD.typ : Int), .int .u64 (rootD.low : Int), .int .u64 (rootD.high : Int), .slice B rootD.names.length m, .bool rootD.must, .int .i64 (rootD.most : Int), .slice A (rootF v.toNat).len c] (rootD, rootF v.toNat)) := Lib.hid (K1.out.under W2.out (fun g hg => hg.2) (fun g hg => hg.2))
  have Z2 : Hid (w.heap.size < w1.heap.size) := Lib.hid R1.out.lt
  go_loopw [8] (fun i wr => ∃ (k : Nat) (x : Sp) (cs : List Value), k ≤ l.length ∧ i = .int .i64 (k : Int) ∧ Hid (downX (rootD, rootF v.toNat) (l.take k) = some x) ∧ Blk wr w1.heap.size 33 cs.toArray ∧ Blk wr w.heap.size 33 #[.string ⟨#[]⟩, .int .i64 0, .int .i64 0, .int .u64 0, .int .u64 0, .slice none 0 0, .bool false, .int .i64 0, .slice none 0 0] ∧
    Hid (SpN wr (fun g => w.heap.size < g ∧ g < w1.heap.size) (fun g => w.heap.size < g ∧ g < w1.heap.size) cs x) ∧ Below w.heap.size w wr) (fun i _ => l.length - (intOf i).toNat)
  case atStart => exact ⟨0, (rootD, rootF v.toNat), _, Nat.zero_le _, rfl, Lib.hid rfl, X2.out, R2.out, K2, H1.out.trans (W2.out.mono H1.out.size)⟩
  case round =>
    obtain ⟨k, x, cs, hk, rfl, HD, hX, hR, HK, hB⟩ := hrel
    obtain ⟨B, m, A, c, dn, rfl, -, -, hkv⟩ := HK.out.shape
    have HF := Lib.hid hkv
    clear hkv
    have HB := Lib.hid hB
    have HX := Lib.hid hX
    have HR := Lib.hid hR
    by_cases hlt : k < l.length
    · obtain ⟨n, hn⟩ : ∃ n, l[k]? = some n := ⟨_, List.getElem?_eq_getElem hlt⟩
      obtain ⟨o, rfl, hda, -, -, hcn⟩ := HN.out.at (txts_at hn)
      have HD1 := Lib.hid (down_step HD.out hn)
      have i1 : (0 : Int) ≤ (k : Int) := by omega
      have i2 : (k : Int) < (l.length : Int) := by omega
      have HQ := Lib.hid (And.intro (hX.below (Below.refl _ _).drew hX.lt) ((hB.drew.cell (p := ⟨d, o + k, none⟩) hda).trans hcn))
      have HC := Lib.hid (rfind_any n _ _ _ x wr.drew (HK.out.under (Below.refl _ _).drew (fun g hg => Nat.lt_trans hg.2 hX.lt) (fun g hg => Nat.lt_trans hg.2 hX.lt)) (fun g hg => Nat.lt_trans hg.2 hX.lt) (Nat.le_trans (HSM.out _ _ HD.out) (by omega)))
      have HDA := Lib.hid (Nat.lt_of_lt_of_le hda hB.size)
      clear hX hR hB hn hcn hda
      go_wp2_with fail
      refine wp_region_noPanic ?_
      refine wp_region_held_drew (S := fun _ => True) (by kernel_rfl) trivial (fun hS => ?_)
      refine held_more (S' := fun w' => Blk w' w1.heap.size 33 #[.string (txt x.1.name), .int .i64 (x.1.kind : Int), .int .i64 (x.1.typ : Int), .int .u64 (x.1.low : Int), .int .u64 (x.1.high : Int), .slice B x.1.names.length m, .bool x.1.must, .int .i64 (x.1.most : Int), .slice A x.2.len c] ∧ w'.cell? ⟨d, o + k, none⟩ = some (.string (txt n))) (fun _ _ => trivial) _ _ _ _ ?_
      replace hS := HQ.out
      refine wpAnyH_take (i := 0) (oi := ?o1_0_1) (v := ?v1_0_1) ?i1_0_1 (by kernel_rfl) (by kernel_rfl) (by kernel_rfl) (fun _ _ _ h => h) (Or.inl ⟨?g1_0_1, ?y1_0_1⟩) hS ?_
      case i1_0_1 => simp only [List.getElem?_toArray, List.getElem?_cons_succ, List.getElem?_cons_zero]; rfl
      case g1_0_1 => rfl
      case y1_0_1 => (intro w hSw; have q0 := (hSw.1.cell 0).trans rfl; have q1 := (hSw.1.cell 1).trans rfl; have q2 := (hSw.1.cell 2).trans rfl; have q3 := (hSw.1.cell 3).trans rfl; have q4 := (hSw.1.cell 4).trans rfl; have q5 := (hSw.1.cell 5).trans rfl; have q6 := (hSw.1.cell 6).trans rfl; have q7 := (hSw.1.cell 7).trans rfl; have q8 := (hSw.1.cell 8).trans rfl; (go_simp <;> with_reducible rfl))
      (try simp only [Act.put, List.setIfInBounds_toArray, List.set_cons_zero, List.set_cons_succ])
      refine wpAnyH_take (i := 1) (oi := ?o1_1_2) (v := ?v1_1_2) ?i1_1_2 (by kernel_rfl) (by kernel_rfl) (by kernel_rfl) (fun _ _ _ h => h) (Or.inl ⟨?g1_1_2, ?y1_1_2⟩) hS ?_
      case i1_1_2 => simp only [List.getElem?_toArray, List.getElem?_cons_succ, List.getElem?_cons_zero]; rfl
      case g1_1_2 => rfl
      case y1_1_2 => (intro w hSw; (go_simp <;> with_reducible rfl))
      (try simp only [Act.put, List.setIfInBounds_toArray, List.set_cons_zero, List.set_cons_succ])
      refine wpAnyH_take (i := 2) (oi := ?o1_2_3) (v := ?v1_2_3) ?i1_2_3 (by kernel_rfl) (by kernel_rfl) (by kernel_rfl) (fun _ _ _ h => h) (Or.inl ⟨?g1_2_3, ?y1_2_3⟩) hS ?_
      case i1_2_3 => simp only [List.getElem?_toArray, List.getElem?_cons_succ, List.getElem?_cons_zero]; rfl
      case g1_2_3 => rfl
      case y1_2_3 => (intro w hSw; (go_simp <;> with_reducible rfl))
      (try simp only [Act.put, List.setIfInBounds_toArray, List.set_cons_zero, List.set_cons_succ])
      refine wpAnyH_take (i := 3) (oi := ?o1_3_4) (v := ?v1_3_4) ?i1_3_4 (by kernel_rfl) (by kernel_rfl) (by kernel_rfl) (fun _ _ _ h => h) (Or.inl ⟨?g1_3_4, ?y1_3_4⟩) hS ?_
      case i1_3_4 => simp only [List.getElem?_toArray, List.getElem?_cons_succ, List.getElem?_cons_zero]; rfl
      case g1_3_4 => rfl
      case y1_3_4 => (intro w hSw; (go_simp <;> with_reducible rfl))
      (try simp only [Act.put, List.setIfInBounds_toArray, List.set_cons_zero, List.set_cons_succ])
      refine wpAnyH_take (i := 4) (oi := ?o1_4_5) (v := ?v1_4_5) ?i1_4_5 (by kernel_rfl) (by kernel_rfl) (by kernel_rfl) (fun _ _ _ h => h) (Or.inl ⟨?g1_4_5, ?y1_4_5⟩) hS ?_
      case i1_4_5 => simp only [List.getElem?_toArray, List.getElem?_cons_succ, List.getElem?_cons_zero]; rfl
      case g1_4_5 => rfl
      case y1_4_5 => (intro w hSw; have hc := hSw.2; (go_simp <;> with_reducible rfl))
      (try simp only [Act.put, List.setIfInBounds_toArray, List.set_cons_zero, List.set_cons_succ])
      refine wpAnyH_ready (rs := [5]) (by kernel_rfl) (by simp) ?_
      refine (AllReadyH.cons (o := ?o1_6_5) ?i1_6_5 (fun K hK => ?st1_6_5) AllReadyH.nil)
      case i1_6_5 => simp only [List.getElem?_toArray, List.getElem?_cons_succ, List.getElem?_cons_zero]; rfl
      rw [if_pos (by rfl)]
      go_simp
      refine HC.out.mono ?_
      rintro r w3 ⟨rfl, hb3⟩
      have HB3 := Lib.hid (HB.out.drew.trans (hb3.mono HB.out.drew.size))
      have HX3 := Lib.hid (HQ.out.1.below hb3 HQ.out.1.lt)
      have HR3 := Lib.hid ((HR.out.below (Below.refl _ _).drew HR.out.lt).below hb3 HR.out.lt)
      have HK3 := Lib.hid ((HK.out.under (Below.refl _ _).drew (fun g hg => Nat.lt_trans hg.2 HX.out.lt) (fun g hg => Nat.lt_trans hg.2 HX.out.lt)).under hb3 (fun g hg => Nat.lt_trans hg.2 HX.out.lt) (fun g hg => Nat.lt_trans hg.2 HX.out.lt))
      have HF3 := Lib.hid ((HF.out.under (Below.refl _ _).drew (fun g hg => Nat.lt_trans hg.2 HX.out.lt) (fun g hg => Nat.lt_trans hg.2 HX.out.lt)).under hb3 (fun g hg => Nat.lt_trans hg.2 HX.out.lt) (fun g hg => Nat.lt_trans hg.2 HX.out.lt))
      have HS3 := Lib.hid (And.intro HX3.out ((hb3.cell (p := ⟨d, o + k, none⟩) HDA.out).trans HQ.out.2))
      clear hb3
      go_wp2_with fail
      refine hK.out _ _ ?s1_6_5 (fun hS => ?_)
      case s1_6_5 => (exact HS3.out)
      clear hK K
      (try simp only [Act.put, List.setIfInBounds_toArray, List.set_cons_zero, List.set_cons_succ])
      refine wpAnyH_take (i := 6) (oi := ?o1_6_7) (v := ?v1_6_7) ?i1_6_7 (by kernel_rfl) (by kernel_rfl) (by kernel_rfl) (fun _ _ _ h => h) (Or.inl ⟨?g1_6_7, ?y1_6_7⟩) hS ?_
      case i1_6_7 => simp only [List.getElem?_toArray, List.getElem?_cons_succ, List.getElem?_cons_zero]; rfl
      case g1_6_7 => rfl
      case y1_6_7 => (intro w hSw; (go_simp <;> with_reducible rfl))
      (try simp only [Act.put, List.setIfInBounds_toArray, List.set_cons_zero, List.set_cons_succ])
      refine wpAnyH_done (by kernel_rfl) ?_ _
      refine NoPanic.normal ?_
      cases hf : findX n x.2 with
      | none =>
        have e : findI n x.2 = -1 := by unfold findI; rw [hf]
        have HV : Hid (atX v l = ((zeroD, .nil), 22)) := Lib.hid (by rw [HAT.out, down_stop (k := k + 1) (by rw [HD1.out]; unfold downX; rw [hf])])
        have RE : Hid (Blk (set9 w3 w.heap.size (.string ⟨#[]⟩) (.int .i64 0) (.int .i64 0) (.int .u64 0) (.int .u64 0) (.slice none 0 0) (.bool false) (.int .i64 0) (.slice none 0 0)) w.heap.size 33 #[.string ⟨#[]⟩, .int .i64 0, .int .i64 0, .int .u64 0, .int .u64 0, .slice none 0 0, .bool false, .int .i64 0, .slice none 0 0]) := Lib.hid (HR3.out.set9 _ _ _ _ _ _ _ _ _)
        have HE : Hid (Below w.heap.size w (set9 w3 w.heap.size (.string ⟨#[]⟩) (.int .i64 0) (.int .i64 0) (.int .u64 0) (.int .u64 0) (.slice none 0 0) (.bool false) (.int .i64 0) (.slice none 0 0))) := Lib.hid (HB3.out.trans (set9_below (Nat.le_refl _)))
        rw [e]
        have f0 : w3.frozen? ⟨w.heap.size, 0, none⟩ = false := HR3.out.frozen 0
        have q0 := (HR3.out.cell 0).trans rfl
        have f1 : w3.frozen? ⟨w.heap.size, 1, none⟩ = false := HR3.out.frozen 1
        have q1 := (HR3.out.cell 1).trans rfl
        have f2 : w3.frozen? ⟨w.heap.size, 2, none⟩ = false := HR3.out.frozen 2
        have q2 := (HR3.out.cell 2).trans rfl
        have f3 : w3.frozen? ⟨w.heap.size, 3, none⟩ = false := HR3.out.frozen 3
        have q3 := (HR3.out.cell 3).trans rfl
        have f4 : w3.frozen? ⟨w.heap.size, 4, none⟩ = false := HR3.out.frozen 4
        have q4 := (HR3.out.cell 4).trans rfl
        have f5 : w3.frozen? ⟨w.heap.size, 5, none⟩ = false := HR3.out.frozen 5
        have q5 := (HR3.out.cell 5).trans rfl
        have f6 : w3.frozen? ⟨w.heap.size, 6, none⟩ = false := HR3.out.frozen 6
        have q6 := (HR3.out.cell 6).trans rfl
        have f7 : w3.frozen? ⟨w.heap.size, 7, none⟩ = false := HR3.out.frozen 7
        have q7 := (HR3.out.cell 7).trans rfl
        have f8 : w3.frozen? ⟨w.heap.size, 8, none⟩ = false := HR3.out.frozen 8
        have q8 := (HR3.out.cell 8).trans rfl
        clear hf e hS
        go_wp2
        refine bodyPost_ret (res_cell_tmp rfl _ _ w.heap.size 33 _ (0, 0) _ rfl RE.out Try.underlying33 rfl (by kernel_rfl)) rfl ?_
        exact ⟨spC zeroD (.slice none 0 0) (.slice none 0 0), by rw [HV.out]; rfl, by rw [HV.out]; exact leaf_n rfl, HE.out⟩
      | some j =>
        have e : findI n x.2 = (j : Int) := by unfold findI; rw [hf]
        obtain ⟨⟨a, q⟩, hg, -, -⟩ := find_some hf
        have HD2 : Hid (downX (rootD, rootF v.toNat) (l.take (k + 1)) = some (a, q)) := Lib.hid (by rw [HD1.out]; unfold downX; rw [hf]; simp only [hg]; rfl)
        obtain ⟨b', o', c', cs', ee, -, hSb, hN, hcl⟩ := HF3.out.at hg
        injection ee with e1 e2 e3
        subst e1 e3
        have hlj := Fr.get_lt hg
        have hsh := SpN.shape (x := (a, q)) hN
        have HKN := Lib.hid hN
        obtain ⟨B', m', A', c'', d', rfl, -, -, -⟩ := hsh
        have j1 : (0 : Int) ≤ (j : Int) := by omega
        have j2 : (j : Int) < (x.2.len : Int) := by omega
        have j3 : ¬ (j : Int) < 0 := by omega
        have u0 : w3.cell? ⟨b', o' + j * 9, none⟩ = _ := hcl 0 _ rfl
        have u1 := hcl 1 _ rfl
        have u2 := hcl 2 _ rfl
        have u3 := hcl 3 _ rfl
        have u4 := hcl 4 _ rfl
        have u5 := hcl 5 _ rfl
        have u6 := hcl 6 _ rfl
        have u7 := hcl 7 _ rfl
        have u8 := hcl 8 _ rfl
        have HX4 : Hid (Blk (set9 w3 w1.heap.size (.string (txt a.name)) (.int .i64 (a.kind : Int)) (.int .i64 (a.typ : Int)) (.int .u64 (a.low : Int)) (.int .u64 (a.high : Int)) (.slice B' a.names.length m') (.bool a.must) (.int .i64 (a.most : Int)) (.slice A' q.len c'')) w1.heap.size 33 #[.string (txt a.name), .int .i64 (a.kind : Int), .int .i64 (a.typ : Int), .int .u64 (a.low : Int), .int .u64 (a.high : Int), .slice B' a.names.length m', .bool a.must, .int .i64 (a.most : Int), .slice A' q.len c'']) := Lib.hid (HX3.out.set9 _ _ _ _ _ _ _ _ _)
        have HR4 : Hid (Blk (set9 w3 w1.heap.size (.string (txt a.name)) (.int .i64 (a.kind : Int)) (.int .i64 (a.typ : Int)) (.int .u64 (a.low : Int)) (.int .u64 (a.high : Int)) (.slice B' a.names.length m') (.bool a.must) (.int .i64 (a.most : Int)) (.slice A' q.len c'')) w.heap.size 33 #[.string ⟨#[]⟩, .int .i64 0, .int .i64 0, .int .u64 0, .int .u64 0, .slice none 0 0, .bool false, .int .i64 0, .slice none 0 0]) := Lib.hid ((set9_other (Nat.ne_of_lt Z2.out)).trans HR3.out)
        have HK4 : Hid (SpN (set9 w3 w1.heap.size (.string (txt a.name)) (.int .i64 (a.kind : Int)) (.int .i64 (a.typ : Int)) (.int .u64 (a.low : Int)) (.int .u64 (a.high : Int)) (.slice B' a.names.length m') (.bool a.must) (.int .i64 (a.most : Int)) (.slice A' q.len c'')) (fun g => w.heap.size < g ∧ g < w1.heap.size) (fun g => w.heap.size < g ∧ g < w1.heap.size) [.string (txt a.name), .int .i64 (a.kind : Int), .int .i64 (a.typ : Int), .int .u64 (a.low : Int), .int .u64 (a.high : Int), .slice B' a.names.length m', .bool a.must, .int .i64 (a.most : Int), .slice A' q.len c''] (a, q)) := Lib.hid (SpN.apart HKN.out (fun g hg => set9_other (Nat.ne_of_lt hg.2)) (fun g hg => set9_other (Nat.ne_of_lt hg.2)))
        have HB4 : Hid (Below w.heap.size w (set9 w3 w1.heap.size (.string (txt a.name)) (.int .i64 (a.kind : Int)) (.int .i64 (a.typ : Int)) (.int .u64 (a.low : Int)) (.int .u64 (a.high : Int)) (.slice B' a.names.length m') (.bool a.must) (.int .i64 (a.most : Int)) (.slice A' q.len c''))) := Lib.hid (HB3.out.trans (set9_below (Nat.le_of_lt Z2.out)))
        rw [e]
        have f0 : w3.frozen? ⟨w1.heap.size, 0, none⟩ = false := HX3.out.frozen 0
        have q0 := (HX3.out.cell 0).trans rfl
        have f1 : w3.frozen? ⟨w1.heap.size, 1, none⟩ = false := HX3.out.frozen 1
        have q1 := (HX3.out.cell 1).trans rfl
        have f2 : w3.frozen? ⟨w1.heap.size, 2, none⟩ = false := HX3.out.frozen 2
        have q2 := (HX3.out.cell 2).trans rfl
        have f3 : w3.frozen? ⟨w1.heap.size, 3, none⟩ = false := HX3.out.frozen 3
        have q3 := (HX3.out.cell 3).trans rfl
        have f4 : w3.frozen? ⟨w1.heap.size, 4, none⟩ = false := HX3.out.frozen 4
        have q4 := (HX3.out.cell 4).trans rfl
        have f5 : w3.frozen? ⟨w1.heap.size, 5, none⟩ = false := HX3.out.frozen 5
        have q5 := (HX3.out.cell 5).trans rfl
        have f6 : w3.frozen? ⟨w1.heap.size, 6, none⟩ = false := HX3.out.frozen 6
        have q6 := (HX3.out.cell 6).trans rfl
        have f7 : w3.frozen? ⟨w1.heap.size, 7, none⟩ = false := HX3.out.frozen 7
        have q7 := (HX3.out.cell 7).trans rfl
        have f8 : w3.frozen? ⟨w1.heap.size, 8, none⟩ = false := HX3.out.frozen 8
        have q8 := (HX3.out.cell 8).trans rfl
        clear hf e hS hg hN hcl hSb e2 hlj
        go_wp2
        go_roundw
        case rel => exact ⟨k + 1, (a, q), _, by omega, by go_num, HD2, HX4.out, HR4.out, HK4, HB4.out⟩
        case measure => simp [intOf]; omega
    · obtain rfl : k = l.length := by omega
      have HV : Hid (atX v l = (x, 0)) := Lib.hid (by rw [HAT.out]; have h := HD.out; rw [List.take_length] at h; rw [h])
      have i2 : ¬ (l.length : Int) < (l.length : Int) := by omega
      have RE : Hid (Blk (set9 wr w.heap.size (.string (txt x.1.name)) (.int .i64 (x.1.kind : Int)) (.int .i64 (x.1.typ : Int)) (.int .u64 (x.1.low : Int)) (.int .u64 (x.1.high : Int)) (.slice B x.1.names.length m) (.bool x.1.must) (.int .i64 (x.1.most : Int)) (.slice A x.2.len c)) w.heap.size 33 #[.string (txt x.1.name), .int .i64 (x.1.kind : Int), .int .i64 (x.1.typ : Int), .int .u64 (x.1.low : Int), .int .u64 (x.1.high : Int), .slice B x.1.names.length m, .bool x.1.must, .int .i64 (x.1.most : Int), .slice A x.2.len c]) := Lib.hid (HR.out.set9 _ _ _ _ _ _ _ _ _)
      have HE : Hid (Below w.heap.size w (set9 wr w.heap.size (.string (txt x.1.name)) (.int .i64 (x.1.kind : Int)) (.int .i64 (x.1.typ : Int)) (.int .u64 (x.1.low : Int)) (.int .u64 (x.1.high : Int)) (.slice B x.1.names.length m) (.bool x.1.must) (.int .i64 (x.1.most : Int)) (.slice A x.2.len c))) := Lib.hid (HB.out.trans (set9_below (Nat.le_refl _)))
      have KE : Hid (SpN (set9 wr w.heap.size (.string (txt x.1.name)) (.int .i64 (x.1.kind : Int)) (.int .i64 (x.1.typ : Int)) (.int .u64 (x.1.low : Int)) (.int .u64 (x.1.high : Int)) (.slice B x.1.names.length m) (.bool x.1.must) (.int .i64 (x.1.most : Int)) (.slice A x.2.len c)) (Rng w.heap.size (set9 wr w.heap.size (.string (txt x.1.name)) (.int .i64 (x.1.kind : Int)) (.int .i64 (x.1.typ : Int)) (.int .u64 (x.1.low : Int)) (.int .u64 (x.1.high : Int)) (.slice B x.1.names.length m) (.bool x.1.must) (.int .i64 (x.1.most : Int)) (.slice A x.2.len c)).heap.size) (Rng w.heap.size (set9 wr w.heap.size (.string (txt x.1.name)) (.int .i64 (x.1.kind : Int)) (.int .i64 (x.1.typ : Int)) (.int .u64 (x.1.low : Int)) (.int .u64 (x.1.high : Int)) (.slice B x.1.names.length m) (.bool x.1.must) (.int .i64 (x.1.most : Int)) (.slice A x.2.len c)).heap.size) [.string (txt x.1.name), .int .i64 (x.1.kind : Int), .int .i64 (x.1.typ : Int), .int .u64 (x.1.low : Int), .int .u64 (x.1.high : Int), .slice B x.1.names.length m, .bool x.1.must, .int .i64 (x.1.most : Int), .slice A x.2.len c] x) := Lib.hid ((HK.out.apart (fun g hg => set9_other (Nat.ne_of_gt hg.1)) (fun g hg => set9_other (Nat.ne_of_gt hg.1))).mono stay_spc (fun g hg => ⟨Nat.le_of_lt hg.1, by rw [set9_size]; exact Nat.lt_trans hg.2 HX.out.lt⟩) (fun g hg => ⟨Nat.le_of_lt hg.1, by rw [set9_size]; exact Nat.lt_trans hg.2 HX.out.lt⟩))
      clear hX hR hB hlt
      have q0 := (HX.out.cell 0).trans rfl
      have q1 := (HX.out.cell 1).trans rfl
      have q2 := (HX.out.cell 2).trans rfl
      have q3 := (HX.out.cell 3).trans rfl
      have q4 := (HX.out.cell 4).trans rfl
      have q5 := (HX.out.cell 5).trans rfl
      have q6 := (HX.out.cell 6).trans rfl
      have q7 := (HX.out.cell 7).trans rfl
      have q8 := (HX.out.cell 8).trans rfl
      have f0 : wr.frozen? ⟨w.heap.size, 0, none⟩ = false := HR.out.frozen 0
      have r0 := (HR.out.cell 0).trans rfl
      have f1 : wr.frozen? ⟨w.heap.size, 1, none⟩ = false := HR.out.frozen 1
      have r1 := (HR.out.cell 1).trans rfl
      have f2 : wr.frozen? ⟨w.heap.size, 2, none⟩ = false := HR.out.frozen 2
      have r2 := (HR.out.cell 2).trans rfl
      have f3 : wr.frozen? ⟨w.heap.size, 3, none⟩ = false := HR.out.frozen 3
      have r3 := (HR.out.cell 3).trans rfl
      have f4 : wr.frozen? ⟨w.heap.size, 4, none⟩ = false := HR.out.frozen 4
      have r4 := (HR.out.cell 4).trans rfl
      have f5 : wr.frozen? ⟨w.heap.size, 5, none⟩ = false := HR.out.frozen 5
      have r5 := (HR.out.cell 5).trans rfl
      have f6 : wr.frozen? ⟨w.heap.size, 6, none⟩ = false := HR.out.frozen 6
      have r6 := (HR.out.cell 6).trans rfl
      have f7 : wr.frozen? ⟨w.heap.size, 7, none⟩ = false := HR.out.frozen 7
      have r7 := (HR.out.cell 7).trans rfl
      have f8 : wr.frozen? ⟨w.heap.size, 8, none⟩ = false := HR.out.frozen 8
      have r8 := (HR.out.cell 8).trans rfl
      go_wp2
      refine bodyPost_ret (res_cell_tmp rfl _ _ w.heap.size 33 _ (0, 0) _ rfl RE.out Try.underlying33 rfl (by kernel_rfl)) rfl ?_
      exact ⟨_, by rw [HV.out]; rfl, by rw [HV.out]; exact KE.out, HE.out⟩

end Go.Proofs.Ytkpbjgjflabloaa
