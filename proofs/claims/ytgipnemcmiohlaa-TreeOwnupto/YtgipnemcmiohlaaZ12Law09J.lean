/- What the laws of package tree want of Law09J. -/
import Derived.Test.YtgipnemcmiohlaaZ12Law09I
namespace Go.Proofs.Ytgipnemcmiohlaa
open Go.RowKit
set_option linter.unusedSimpArgs false
set_option linter.unusedVariables false
theorem over_mine {f : NdF} {a : NdD} {A : Option Addr} {c n : Nat} {S : Nat → Prop} {w : World} (hS : ∀ g, S g → UnF w g) (h : Mine9 S w (.slice A n c) f) (hn : n = f.len) (hf : f.size ≤ 1000000) :
    Calls Try.prog 26 #[.agg #[.string (txt a.name), .string (txt a.key), .int .i64 a.kind, .int .u64 (a.num : Int), .string (txt a.text), .slice A n c]] w (OverP S w) := by
  obtain ⟨f', h1, h2⟩ := h
  have e : n = f'.len := by rw [hn, like_len9 h1]
  subst e
  exact over_any hS h2 (by rw [like_size9 h1]; exact hf)
theorem Over9.to_below {S : Nat → Prop} {B : Nat} {w w' : World} (h : Over9 S w w') (hS : ∀ g, S g → B ≤ g) (hB : B ≤ w.heap.size) : Below B w w' :=
  ⟨h.os, h.tape, h.output, h.size, fun k hk => h.out k (Nat.lt_of_lt_of_le hk hB) (fun hs => by have := hS k hs; omega)⟩
theorem NewT.new9 {base : Nat} {w : World} {cs : List Value} {a : NdD} {f : NdF} (h : NewT base w cs (a, f)) : ∃ A c, cs = ndC a (.slice A f.len c) ∧ New9 base w.heap.size w (.slice A f.len c) f := by
  obtain ⟨S, h1, hcl, ⟨⟨kv, rfl, h2⟩, h3⟩, v, h4, h5⟩ := h
  obtain ⟨A, c, rfl⟩ := h5.shape
  simp at h4
  subst h4
  refine ⟨A, c, rfl, Nat.le_refl _, S, fun g hg => ?_, h5, fun b o n c e => ?_⟩
  · obtain ⟨x1, cs, t, x2⟩ := h1 g hg
    exact ⟨x1, (h1 g hg).lt, cs, t, x2⟩
  · injection e with e1 e2 e3
    subst e1 e2 e3
    exact h3 b o _ _ rfl
theorem TreP.new9 {a : NdD} {f : NdF} {u : Value} {w : World} {r : Ending} {w' : World} (h : TreP (a, f) u w r w') : ∃ A c, r = .returned (.tuple #[.agg #[.string (txt a.name), .string (txt a.key), .int .i64 a.kind, .int .u64 (a.num : Int), .string (txt a.text), .slice A f.len c], u]) ∧ New9 w.heap.size w'.heap.size w' (.slice A f.len c) f ∧ Below w.heap.size w w' := by
  obtain ⟨cs, rfl, h1, hb⟩ := h
  obtain ⟨A, c, rfl, h2⟩ := h1.new9
  exact ⟨A, c, rfl, h2, hb⟩
theorem TreP1.new9 {a : NdD} {f : NdF} {w : World} {r : Ending} {w' : World} (h : TreP1 (a, f) w r w') : ∃ A c, r = .returned (.agg #[.string (txt a.name), .string (txt a.key), .int .i64 a.kind, .int .u64 (a.num : Int), .string (txt a.text), .slice A f.len c]) ∧ New9 w.heap.size w'.heap.size w' (.slice A f.len c) f ∧ Below w.heap.size w w' := by
  obtain ⟨cs, rfl, h1, hb⟩ := h
  obtain ⟨A, c, rfl, h2⟩ := h1.new9
  exact ⟨A, c, rfl, h2, hb⟩
theorem join9 {w : World} {B kA b1 kB b2 kC : Nat} {va vb vc : Value} {fa fb fc : NdF} (ha : New9 B kA w va fa) (hb : New9 b1 kB w vb fb) (hc : New9 b2 kC w vc fc) (h1 : B ≤ kA) (h2 : kA < b1) (h3 : b1 ≤ kB) (h4 : kB < b2) (h5 : b2 ≤ kC) :
    ∃ S : Nat → Prop, (∀ g, S g → B ≤ g ∧ g ≠ kA ∧ g ≠ kB ∧ g ≠ kC ∧ UnF w g) ∧ Mine9 S w va fa ∧ Mine9 S w vb fb ∧ Mine9 S w vc fc := by
  obtain ⟨_, Sa, a1, a2⟩ := ha
  obtain ⟨_, Sb, b1', b2'⟩ := hb
  obtain ⟨_, Sc, c1, c2⟩ := hc
  refine ⟨fun g => Sa g ∨ Sb g ∨ Sc g, fun g hg => ?_, ⟨_, like_refl9 _, a2.mono (fun _ h => .inl h)⟩, ⟨_, like_refl9 _, b2'.mono (fun _ h => .inr (.inl h))⟩, ⟨_, like_refl9 _, c2.mono (fun _ h => .inr (.inr h))⟩⟩
  rcases hg with h | h | h
  · obtain ⟨x1, x2, x3⟩ := a1 g h; exact ⟨by omega, by omega, by omega, by omega, x3⟩
  · obtain ⟨x1, x2, x3⟩ := b1' g h; exact ⟨by omega, by omega, by omega, by omega, x3⟩
  · obtain ⟨x1, x2, x3⟩ := c1 g h; exact ⟨by omega, by omega, by omega, by omega, x3⟩
set_option maxRecDepth 100000 in
set_option maxHeartbeats 8000000 in
theorem treeOwn_none (a b : NdD) (f g : NdF) (A B : Option Addr) (c d : Nat) (l : List Stp) (V : Option Addr) (N m : Nat) (w : World) (hx : LieN w (ndC a (.slice A f.len c)) (a, f)) (hy : LieN w (ndC b (.slice B g.len d)) (b, g)) (hv : WayV w.heap.size w (.slice V N m) l) (hN : N = l.length) (hf : f.size ≤ 1000000) (hg : g.size ≤ 1000000) (HA : Awake9 w) (h1 : decide (f.size + 1 ≤ 300) = false) (h2 : decide (g.size + 1 ≤ 300) = false) :
    Calls Try.prog 7 #[.agg #[.string (txt a.name), .string (txt a.key), .int .i64 a.kind, .int .u64 (a.num : Int), .string (txt a.text), .slice A f.len c], .slice V N m, .agg #[.string (txt b.name), .string (txt b.key), .int .i64 b.kind, .int .u64 (b.num : Int), .string (txt b.text), .slice B g.len d]] w (Ans9 (.bool true) w) := by
  have hb2 : Blk ((w.alloc (.cells #[.string (txt a.name), .string (txt a.key), .int .i64 a.kind, .int .u64 (a.num : Int), .string (txt a.text), .slice A f.len c] 27)).alloc (.cells #[.string (txt b.name), .string (txt b.key), .int .i64 b.kind, .int .u64 (b.num : Int), .string (txt b.text), .slice B g.len d] 27)) (w.heap.size + 1) 27 #[.string (txt b.name), .string (txt b.key), .int .i64 b.kind, .int .u64 (b.num : Int), .string (txt b.text), .slice B g.len d] := by
    have h := Blk.new (w.alloc (.cells #[.string (txt a.name), .string (txt a.key), .int .i64 a.kind, .int .u64 (a.num : Int), .string (txt a.text), .slice A f.len c] 27)) 27 #[.string (txt b.name), .string (txt b.key), .int .i64 b.kind, .int .u64 (b.num : Int), .string (txt b.text), .slice B g.len d]
    rw [show (w.alloc (.cells #[.string (txt a.name), .string (txt a.key), .int .i64 a.kind, .int .u64 (a.num : Int), .string (txt a.text), .slice A f.len c] 27)).heap.size = w.heap.size + 1 by simp] at h
    exact h
  have HX := Lib.hid ((Blk.new w 27 #[.string (txt a.name), .string (txt a.key), .int .i64 a.kind, .int .u64 (a.num : Int), .string (txt a.text), .slice A f.len c]).alloc (.cells #[.string (txt b.name), .string (txt b.key), .int .i64 b.kind, .int .u64 (b.num : Int), .string (txt b.text), .slice B g.len d] 27))
  have HY := Lib.hid hb2
  have HB : Hid (Below w.heap.size w ((w.alloc (.cells #[.string (txt a.name), .string (txt a.key), .int .i64 a.kind, .int .u64 (a.num : Int), .string (txt a.text), .slice A f.len c] 27)).alloc (.cells #[.string (txt b.name), .string (txt b.key), .int .i64 b.kind, .int .u64 (b.num : Int), .string (txt b.text), .slice B g.len d] 27))) := Lib.hid (((Below.refl _ _).alloc (Nat.le_refl _) _).alloc (by simp) _)
  clear hb2
  have KA := Lib.hid HA
  have K1 : Hid (∀ W, Below w.heap.size w W → Calls Try.prog 9 #[.agg #[.string (txt a.name), .string (txt a.key), .int .i64 a.kind, .int .u64 (a.num : Int), .string (txt a.text), .slice A f.len c]] W (Ans9 (.bool false) W)) := Lib.hid (fun W hW => by have h := small_q hx hf W hW; rwa [h1] at h)
  have K2 : Hid (∀ W, Below w.heap.size w W → Calls Try.prog 9 #[.agg #[.string (txt b.name), .string (txt b.key), .int .i64 b.kind, .int .u64 (b.num : Int), .string (txt b.text), .slice B g.len d]] W (Ans9 (.bool false) W)) := Lib.hid (fun W hW => by have h := small_q hy hg W hW; rwa [h2] at h)
  clear HA hx hy hv hN hf hg h1 h2
  go_enter Try.func7, Try.ntmps7
  go_wp2_with fail
  refine (KA.out _ HB.out).mono ?_
  rintro r w1 ⟨rfl, hb⟩
  replace HX := Lib.hid (HX.out.below hb HX.out.lt)
  replace HY := Lib.hid (HY.out.below hb HY.out.lt)
  replace HB := Lib.hid (HB.out.trans (hb.mono HB.out.size))
  clear hb
  have ld0_0 := (HX.out.cell 0).trans rfl
  have ld0_1 := (HX.out.cell 1).trans rfl
  have ld0_2 := (HX.out.cell 2).trans rfl
  have ld0_3 := (HX.out.cell 3).trans rfl
  have ld0_4 := (HX.out.cell 4).trans rfl
  have ld0_5 := (HX.out.cell 5).trans rfl
  go_wp2_with fail
  refine (K1.out _ HB.out).mono ?_
  rintro r w2 ⟨rfl, hb⟩
  replace HX := Lib.hid (HX.out.below hb HX.out.lt)
  replace HY := Lib.hid (HY.out.below hb HY.out.lt)
  replace HB := Lib.hid (HB.out.trans (hb.mono HB.out.size))
  clear ld0_0 ld0_1 ld0_2 ld0_3 ld0_4 ld0_5 hb
  have ld0_0 := (HY.out.cell 0).trans rfl
  have ld0_1 := (HY.out.cell 1).trans rfl
  have ld0_2 := (HY.out.cell 2).trans rfl
  have ld0_3 := (HY.out.cell 3).trans rfl
  have ld0_4 := (HY.out.cell 4).trans rfl
  have ld0_5 := (HY.out.cell 5).trans rfl
  go_wp2_with fail
  refine (K2.out _ HB.out).mono ?_
  rintro r w3 ⟨rfl, hb⟩
  replace HX := Lib.hid (HX.out.below hb HX.out.lt)
  replace HY := Lib.hid (HY.out.below hb HY.out.lt)
  replace HB := Lib.hid (HB.out.trans (hb.mono HB.out.size))
  clear ld0_0 ld0_1 ld0_2 ld0_3 ld0_4 ld0_5 hb
  go_wp2
  go_ret
  exact ⟨rfl, HB.out⟩
set_option maxRecDepth 100000 in
set_option maxHeartbeats 8000000 in
theorem treeOwn_two (a b : NdD) (f g : NdF) (A B : Option Addr) (c d : Nat) (l : List Stp) (V : Option Addr) (N m : Nat) (w : World) (hx : LieN w (ndC a (.slice A f.len c)) (a, f)) (hy : LieN w (ndC b (.slice B g.len d)) (b, g)) (hv : WayV w.heap.size w (.slice V N m) l) (hN : N = l.length) (hf : f.size ≤ 1000000) (hg : g.size ≤ 1000000) (HA : Awake9 w) (h1 : decide (f.size + 1 ≤ 300) = false) (h2 : decide (g.size + 1 ≤ 300) = true) :
    Calls Try.prog 7 #[.agg #[.string (txt a.name), .string (txt a.key), .int .i64 a.kind, .int .u64 (a.num : Int), .string (txt a.text), .slice A f.len c], .slice V N m, .agg #[.string (txt b.name), .string (txt b.key), .int .i64 b.kind, .int .u64 (b.num : Int), .string (txt b.text), .slice B g.len d]] w (Ans9 (.bool true) w) := by
  have hb2 : Blk ((w.alloc (.cells #[.string (txt a.name), .string (txt a.key), .int .i64 a.kind, .int .u64 (a.num : Int), .string (txt a.text), .slice A f.len c] 27)).alloc (.cells #[.string (txt b.name), .string (txt b.key), .int .i64 b.kind, .int .u64 (b.num : Int), .string (txt b.text), .slice B g.len d] 27)) (w.heap.size + 1) 27 #[.string (txt b.name), .string (txt b.key), .int .i64 b.kind, .int .u64 (b.num : Int), .string (txt b.text), .slice B g.len d] := by
    have h := Blk.new (w.alloc (.cells #[.string (txt a.name), .string (txt a.key), .int .i64 a.kind, .int .u64 (a.num : Int), .string (txt a.text), .slice A f.len c] 27)) 27 #[.string (txt b.name), .string (txt b.key), .int .i64 b.kind, .int .u64 (b.num : Int), .string (txt b.text), .slice B g.len d]
    rw [show (w.alloc (.cells #[.string (txt a.name), .string (txt a.key), .int .i64 a.kind, .int .u64 (a.num : Int), .string (txt a.text), .slice A f.len c] 27)).heap.size = w.heap.size + 1 by simp] at h
    exact h
  have HX := Lib.hid ((Blk.new w 27 #[.string (txt a.name), .string (txt a.key), .int .i64 a.kind, .int .u64 (a.num : Int), .string (txt a.text), .slice A f.len c]).alloc (.cells #[.string (txt b.name), .string (txt b.key), .int .i64 b.kind, .int .u64 (b.num : Int), .string (txt b.text), .slice B g.len d] 27))
  have HY := Lib.hid hb2
  have HB : Hid (Below w.heap.size w ((w.alloc (.cells #[.string (txt a.name), .string (txt a.key), .int .i64 a.kind, .int .u64 (a.num : Int), .string (txt a.text), .slice A f.len c] 27)).alloc (.cells #[.string (txt b.name), .string (txt b.key), .int .i64 b.kind, .int .u64 (b.num : Int), .string (txt b.text), .slice B g.len d] 27))) := Lib.hid (((Below.refl _ _).alloc (Nat.le_refl _) _).alloc (by simp) _)
  clear hb2
  have KA := Lib.hid HA
  have K1 : Hid (∀ W, Below w.heap.size w W → Calls Try.prog 9 #[.agg #[.string (txt a.name), .string (txt a.key), .int .i64 a.kind, .int .u64 (a.num : Int), .string (txt a.text), .slice A f.len c]] W (Ans9 (.bool false) W)) := Lib.hid (fun W hW => by have h := small_q hx hf W hW; rwa [h1] at h)
  have K2 : Hid (∀ W, Below w.heap.size w W → Calls Try.prog 9 #[.agg #[.string (txt b.name), .string (txt b.key), .int .i64 b.kind, .int .u64 (b.num : Int), .string (txt b.text), .slice B g.len d]] W (Ans9 (.bool true) W)) := Lib.hid (fun W hW => by have h := small_q hy hg W hW; rwa [h2] at h)
  clear HA hx hy hv hN hf hg h1 h2
  go_enter Try.func7, Try.ntmps7
  go_wp2_with fail
  refine (KA.out _ HB.out).mono ?_
  rintro r w1 ⟨rfl, hb⟩
  replace HX := Lib.hid (HX.out.below hb HX.out.lt)
  replace HY := Lib.hid (HY.out.below hb HY.out.lt)
  replace HB := Lib.hid (HB.out.trans (hb.mono HB.out.size))
  clear hb
  have ld0_0 := (HX.out.cell 0).trans rfl
  have ld0_1 := (HX.out.cell 1).trans rfl
  have ld0_2 := (HX.out.cell 2).trans rfl
  have ld0_3 := (HX.out.cell 3).trans rfl
  have ld0_4 := (HX.out.cell 4).trans rfl
  have ld0_5 := (HX.out.cell 5).trans rfl
  go_wp2_with fail
  refine (K1.out _ HB.out).mono ?_
  rintro r w2 ⟨rfl, hb⟩
  replace HX := Lib.hid (HX.out.below hb HX.out.lt)
  replace HY := Lib.hid (HY.out.below hb HY.out.lt)
  replace HB := Lib.hid (HB.out.trans (hb.mono HB.out.size))
  clear ld0_0 ld0_1 ld0_2 ld0_3 ld0_4 ld0_5 hb
  have ld0_0 := (HY.out.cell 0).trans rfl
  have ld0_1 := (HY.out.cell 1).trans rfl
  have ld0_2 := (HY.out.cell 2).trans rfl
  have ld0_3 := (HY.out.cell 3).trans rfl
  have ld0_4 := (HY.out.cell 4).trans rfl
  have ld0_5 := (HY.out.cell 5).trans rfl
  go_wp2_with fail
  refine (K2.out _ HB.out).mono ?_
  rintro r w3 ⟨rfl, hb⟩
  replace HX := Lib.hid (HX.out.below hb HX.out.lt)
  replace HY := Lib.hid (HY.out.below hb HY.out.lt)
  replace HB := Lib.hid (HB.out.trans (hb.mono HB.out.size))
  clear ld0_0 ld0_1 ld0_2 ld0_3 ld0_4 ld0_5 hb
  go_wp2
  go_ret
  exact ⟨rfl, HB.out⟩
set_option maxRecDepth 100000 in
set_option maxHeartbeats 8000000 in
theorem treeOwn_one (a b : NdD) (f g : NdF) (A B : Option Addr) (c d : Nat) (l : List Stp) (V : Option Addr) (N m : Nat) (w : World) (hx : LieN w (ndC a (.slice A f.len c)) (a, f)) (hy : LieN w (ndC b (.slice B g.len d)) (b, g)) (hv : WayV w.heap.size w (.slice V N m) l) (hN : N = l.length) (hf : f.size ≤ 1000000) (hg : g.size ≤ 1000000) (HA : Awake9 w) (h1 : decide (f.size + 1 ≤ 300) = true) (h2 : decide (g.size + 1 ≤ 300) = false) :
    Calls Try.prog 7 #[.agg #[.string (txt a.name), .string (txt a.key), .int .i64 a.kind, .int .u64 (a.num : Int), .string (txt a.text), .slice A f.len c], .slice V N m, .agg #[.string (txt b.name), .string (txt b.key), .int .i64 b.kind, .int .u64 (b.num : Int), .string (txt b.text), .slice B g.len d]] w (Ans9 (.bool true) w) := by
  have hb2 : Blk ((w.alloc (.cells #[.string (txt a.name), .string (txt a.key), .int .i64 a.kind, .int .u64 (a.num : Int), .string (txt a.text), .slice A f.len c] 27)).alloc (.cells #[.string (txt b.name), .string (txt b.key), .int .i64 b.kind, .int .u64 (b.num : Int), .string (txt b.text), .slice B g.len d] 27)) (w.heap.size + 1) 27 #[.string (txt b.name), .string (txt b.key), .int .i64 b.kind, .int .u64 (b.num : Int), .string (txt b.text), .slice B g.len d] := by
    have h := Blk.new (w.alloc (.cells #[.string (txt a.name), .string (txt a.key), .int .i64 a.kind, .int .u64 (a.num : Int), .string (txt a.text), .slice A f.len c] 27)) 27 #[.string (txt b.name), .string (txt b.key), .int .i64 b.kind, .int .u64 (b.num : Int), .string (txt b.text), .slice B g.len d]
    rw [show (w.alloc (.cells #[.string (txt a.name), .string (txt a.key), .int .i64 a.kind, .int .u64 (a.num : Int), .string (txt a.text), .slice A f.len c] 27)).heap.size = w.heap.size + 1 by simp] at h
    exact h
  have HX := Lib.hid ((Blk.new w 27 #[.string (txt a.name), .string (txt a.key), .int .i64 a.kind, .int .u64 (a.num : Int), .string (txt a.text), .slice A f.len c]).alloc (.cells #[.string (txt b.name), .string (txt b.key), .int .i64 b.kind, .int .u64 (b.num : Int), .string (txt b.text), .slice B g.len d] 27))
  have HY := Lib.hid hb2
  have HB : Hid (Below w.heap.size w ((w.alloc (.cells #[.string (txt a.name), .string (txt a.key), .int .i64 a.kind, .int .u64 (a.num : Int), .string (txt a.text), .slice A f.len c] 27)).alloc (.cells #[.string (txt b.name), .string (txt b.key), .int .i64 b.kind, .int .u64 (b.num : Int), .string (txt b.text), .slice B g.len d] 27))) := Lib.hid (((Below.refl _ _).alloc (Nat.le_refl _) _).alloc (by simp) _)
  clear hb2
  have KA := Lib.hid HA
  have K1 : Hid (∀ W, Below w.heap.size w W → Calls Try.prog 9 #[.agg #[.string (txt a.name), .string (txt a.key), .int .i64 a.kind, .int .u64 (a.num : Int), .string (txt a.text), .slice A f.len c]] W (Ans9 (.bool true) W)) := Lib.hid (fun W hW => by have h := small_q hx hf W hW; rwa [h1] at h)
  have K2 : Hid (∀ W, Below w.heap.size w W → Calls Try.prog 9 #[.agg #[.string (txt b.name), .string (txt b.key), .int .i64 b.kind, .int .u64 (b.num : Int), .string (txt b.text), .slice B g.len d]] W (Ans9 (.bool false) W)) := Lib.hid (fun W hW => by have h := small_q hy hg W hW; rwa [h2] at h)
  clear HA hx hy hv hN hf hg h1 h2
  go_enter Try.func7, Try.ntmps7
  go_wp2_with fail
  refine (KA.out _ HB.out).mono ?_
  rintro r w1 ⟨rfl, hb⟩
  replace HX := Lib.hid (HX.out.below hb HX.out.lt)
  replace HY := Lib.hid (HY.out.below hb HY.out.lt)
  replace HB := Lib.hid (HB.out.trans (hb.mono HB.out.size))
  clear hb
  have ld0_0 := (HX.out.cell 0).trans rfl
  have ld0_1 := (HX.out.cell 1).trans rfl
  have ld0_2 := (HX.out.cell 2).trans rfl
  have ld0_3 := (HX.out.cell 3).trans rfl
  have ld0_4 := (HX.out.cell 4).trans rfl
  have ld0_5 := (HX.out.cell 5).trans rfl
  go_wp2_with fail
  refine (K1.out _ HB.out).mono ?_
  rintro r w2 ⟨rfl, hb⟩
  replace HX := Lib.hid (HX.out.below hb HX.out.lt)
  replace HY := Lib.hid (HY.out.below hb HY.out.lt)
  replace HB := Lib.hid (HB.out.trans (hb.mono HB.out.size))
  clear ld0_0 ld0_1 ld0_2 ld0_3 ld0_4 ld0_5 hb
  have ld0_0 := (HY.out.cell 0).trans rfl
  have ld0_1 := (HY.out.cell 1).trans rfl
  have ld0_2 := (HY.out.cell 2).trans rfl
  have ld0_3 := (HY.out.cell 3).trans rfl
  have ld0_4 := (HY.out.cell 4).trans rfl
  have ld0_5 := (HY.out.cell 5).trans rfl
  go_wp2_with fail
  refine (K2.out _ HB.out).mono ?_
  rintro r w3 ⟨rfl, hb⟩
  replace HX := Lib.hid (HX.out.below hb HX.out.lt)
  replace HY := Lib.hid (HY.out.below hb HY.out.lt)
  replace HB := Lib.hid (HB.out.trans (hb.mono HB.out.size))
  clear ld0_0 ld0_1 ld0_2 ld0_3 ld0_4 ld0_5 hb
  go_wp2
  go_ret
  exact ⟨rfl, HB.out⟩
set_option maxRecDepth 100000 in
set_option maxHeartbeats 8000000 in
theorem treeOwn_long (a b : NdD) (f g : NdF) (A B : Option Addr) (c d : Nat) (l : List Stp) (V : Option Addr) (N m : Nat) (w : World) (hx : LieN w (ndC a (.slice A f.len c)) (a, f)) (hy : LieN w (ndC b (.slice B g.len d)) (b, g)) (hv : WayV w.heap.size w (.slice V N m) l) (hN : N = l.length) (hf : f.size ≤ 1000000) (hg : g.size ≤ 1000000) (HA : Awake9 w) (h1 : decide (f.size + 1 ≤ 300) = true) (h2 : decide (g.size + 1 ≤ 300) = true) (hl : 20 < N) :
    Calls Try.prog 7 #[.agg #[.string (txt a.name), .string (txt a.key), .int .i64 a.kind, .int .u64 (a.num : Int), .string (txt a.text), .slice A f.len c], .slice V N m, .agg #[.string (txt b.name), .string (txt b.key), .int .i64 b.kind, .int .u64 (b.num : Int), .string (txt b.text), .slice B g.len d]] w (Ans9 (.bool true) w) := by
  have hb2 : Blk ((w.alloc (.cells #[.string (txt a.name), .string (txt a.key), .int .i64 a.kind, .int .u64 (a.num : Int), .string (txt a.text), .slice A f.len c] 27)).alloc (.cells #[.string (txt b.name), .string (txt b.key), .int .i64 b.kind, .int .u64 (b.num : Int), .string (txt b.text), .slice B g.len d] 27)) (w.heap.size + 1) 27 #[.string (txt b.name), .string (txt b.key), .int .i64 b.kind, .int .u64 (b.num : Int), .string (txt b.text), .slice B g.len d] := by
    have h := Blk.new (w.alloc (.cells #[.string (txt a.name), .string (txt a.key), .int .i64 a.kind, .int .u64 (a.num : Int), .string (txt a.text), .slice A f.len c] 27)) 27 #[.string (txt b.name), .string (txt b.key), .int .i64 b.kind, .int .u64 (b.num : Int), .string (txt b.text), .slice B g.len d]
    rw [show (w.alloc (.cells #[.string (txt a.name), .string (txt a.key), .int .i64 a.kind, .int .u64 (a.num : Int), .string (txt a.text), .slice A f.len c] 27)).heap.size = w.heap.size + 1 by simp] at h
    exact h
  have HX := Lib.hid ((Blk.new w 27 #[.string (txt a.name), .string (txt a.key), .int .i64 a.kind, .int .u64 (a.num : Int), .string (txt a.text), .slice A f.len c]).alloc (.cells #[.string (txt b.name), .string (txt b.key), .int .i64 b.kind, .int .u64 (b.num : Int), .string (txt b.text), .slice B g.len d] 27))
  have HY := Lib.hid hb2
  have HB : Hid (Below w.heap.size w ((w.alloc (.cells #[.string (txt a.name), .string (txt a.key), .int .i64 a.kind, .int .u64 (a.num : Int), .string (txt a.text), .slice A f.len c] 27)).alloc (.cells #[.string (txt b.name), .string (txt b.key), .int .i64 b.kind, .int .u64 (b.num : Int), .string (txt b.text), .slice B g.len d] 27))) := Lib.hid (((Below.refl _ _).alloc (Nat.le_refl _) _).alloc (by simp) _)
  clear hb2
  have KA := Lib.hid HA
  have K1 : Hid (∀ W, Below w.heap.size w W → Calls Try.prog 9 #[.agg #[.string (txt a.name), .string (txt a.key), .int .i64 a.kind, .int .u64 (a.num : Int), .string (txt a.text), .slice A f.len c]] W (Ans9 (.bool true) W)) := Lib.hid (fun W hW => by have h := small_q hx hf W hW; rwa [h1] at h)
  have K2 : Hid (∀ W, Below w.heap.size w W → Calls Try.prog 9 #[.agg #[.string (txt b.name), .string (txt b.key), .int .i64 b.kind, .int .u64 (b.num : Int), .string (txt b.text), .slice B g.len d]] W (Ans9 (.bool true) W)) := Lib.hid (fun W hW => by have h := small_q hy hg W hW; rwa [h2] at h)
  have n1 : (20 : Int) < (N : Int) := by omega
  clear HA hx hy hv hN hf hg h1 h2 hl
  go_enter Try.func7, Try.ntmps7
  go_wp2_with fail
  refine (KA.out _ HB.out).mono ?_
  rintro r w1 ⟨rfl, hb⟩
  replace HX := Lib.hid (HX.out.below hb HX.out.lt)
  replace HY := Lib.hid (HY.out.below hb HY.out.lt)
  replace HB := Lib.hid (HB.out.trans (hb.mono HB.out.size))
  clear hb
  have ld0_0 := (HX.out.cell 0).trans rfl
  have ld0_1 := (HX.out.cell 1).trans rfl
  have ld0_2 := (HX.out.cell 2).trans rfl
  have ld0_3 := (HX.out.cell 3).trans rfl
  have ld0_4 := (HX.out.cell 4).trans rfl
  have ld0_5 := (HX.out.cell 5).trans rfl
  go_wp2_with fail
  refine (K1.out _ HB.out).mono ?_
  rintro r w2 ⟨rfl, hb⟩
  replace HX := Lib.hid (HX.out.below hb HX.out.lt)
  replace HY := Lib.hid (HY.out.below hb HY.out.lt)
  replace HB := Lib.hid (HB.out.trans (hb.mono HB.out.size))
  clear ld0_0 ld0_1 ld0_2 ld0_3 ld0_4 ld0_5 hb
  have ld0_0 := (HY.out.cell 0).trans rfl
  have ld0_1 := (HY.out.cell 1).trans rfl
  have ld0_2 := (HY.out.cell 2).trans rfl
  have ld0_3 := (HY.out.cell 3).trans rfl
  have ld0_4 := (HY.out.cell 4).trans rfl
  have ld0_5 := (HY.out.cell 5).trans rfl
  go_wp2_with fail
  refine (K2.out _ HB.out).mono ?_
  rintro r w3 ⟨rfl, hb⟩
  replace HX := Lib.hid (HX.out.below hb HX.out.lt)
  replace HY := Lib.hid (HY.out.below hb HY.out.lt)
  replace HB := Lib.hid (HB.out.trans (hb.mono HB.out.size))
  clear ld0_0 ld0_1 ld0_2 ld0_3 ld0_4 ld0_5 hb
  go_wp2
  go_ret
  exact ⟨rfl, HB.out⟩
set_option maxRecDepth 100000 in
set_option maxHeartbeats 8000000 in
theorem treeOwn_wrong (a b : NdD) (f g : NdF) (A B : Option Addr) (c d : Nat) (l : List Stp) (V : Option Addr) (N m : Nat) (w : World) (hx : LieN w (ndC a (.slice A f.len c)) (a, f)) (hy : LieN w (ndC b (.slice B g.len d)) (b, g)) (hv : WayV w.heap.size w (.slice V N m) l) (hN : N = l.length) (hf : f.size ≤ 1000000) (hg : g.size ≤ 1000000) (HA : Awake9 w) (h1 : decide (f.size + 1 ≤ 300) = true) (h2 : decide (g.size + 1 ≤ 300) = true) (hl : ¬ 20 < N) (hr : rgtX (a, f) = false) :
    Calls Try.prog 7 #[.agg #[.string (txt a.name), .string (txt a.key), .int .i64 a.kind, .int .u64 (a.num : Int), .string (txt a.text), .slice A f.len c], .slice V N m, .agg #[.string (txt b.name), .string (txt b.key), .int .i64 b.kind, .int .u64 (b.num : Int), .string (txt b.text), .slice B g.len d]] w (Ans9 (.bool true) w) := by
  have hb2 : Blk ((w.alloc (.cells #[.string (txt a.name), .string (txt a.key), .int .i64 a.kind, .int .u64 (a.num : Int), .string (txt a.text), .slice A f.len c] 27)).alloc (.cells #[.string (txt b.name), .string (txt b.key), .int .i64 b.kind, .int .u64 (b.num : Int), .string (txt b.text), .slice B g.len d] 27)) (w.heap.size + 1) 27 #[.string (txt b.name), .string (txt b.key), .int .i64 b.kind, .int .u64 (b.num : Int), .string (txt b.text), .slice B g.len d] := by
    have h := Blk.new (w.alloc (.cells #[.string (txt a.name), .string (txt a.key), .int .i64 a.kind, .int .u64 (a.num : Int), .string (txt a.text), .slice A f.len c] 27)) 27 #[.string (txt b.name), .string (txt b.key), .int .i64 b.kind, .int .u64 (b.num : Int), .string (txt b.text), .slice B g.len d]
    rw [show (w.alloc (.cells #[.string (txt a.name), .string (txt a.key), .int .i64 a.kind, .int .u64 (a.num : Int), .string (txt a.text), .slice A f.len c] 27)).heap.size = w.heap.size + 1 by simp] at h
    exact h
  have HX := Lib.hid ((Blk.new w 27 #[.string (txt a.name), .string (txt a.key), .int .i64 a.kind, .int .u64 (a.num : Int), .string (txt a.text), .slice A f.len c]).alloc (.cells #[.string (txt b.name), .string (txt b.key), .int .i64 b.kind, .int .u64 (b.num : Int), .string (txt b.text), .slice B g.len d] 27))
  have HY := Lib.hid hb2
  have HB : Hid (Below w.heap.size w ((w.alloc (.cells #[.string (txt a.name), .string (txt a.key), .int .i64 a.kind, .int .u64 (a.num : Int), .string (txt a.text), .slice A f.len c] 27)).alloc (.cells #[.string (txt b.name), .string (txt b.key), .int .i64 b.kind, .int .u64 (b.num : Int), .string (txt b.text), .slice B g.len d] 27))) := Lib.hid (((Below.refl _ _).alloc (Nat.le_refl _) _).alloc (by simp) _)
  clear hb2
  have KA := Lib.hid HA
  have K1 : Hid (∀ W, Below w.heap.size w W → Calls Try.prog 9 #[.agg #[.string (txt a.name), .string (txt a.key), .int .i64 a.kind, .int .u64 (a.num : Int), .string (txt a.text), .slice A f.len c]] W (Ans9 (.bool true) W)) := Lib.hid (fun W hW => by have h := small_q hx hf W hW; rwa [h1] at h)
  have K2 : Hid (∀ W, Below w.heap.size w W → Calls Try.prog 9 #[.agg #[.string (txt b.name), .string (txt b.key), .int .i64 b.kind, .int .u64 (b.num : Int), .string (txt b.text), .slice B g.len d]] W (Ans9 (.bool true) W)) := Lib.hid (fun W hW => by have h := small_q hy hg W hW; rwa [h2] at h)
  have n1 : ¬ (20 : Int) < (N : Int) := by omega
  have KR : Hid (∀ W, Below w.heap.size w W → Calls Try.prog 12 #[.agg #[.string (txt a.name), .string (txt a.key), .int .i64 a.kind, .int .u64 (a.num : Int), .string (txt a.text), .slice A f.len c]] W (Ans9 (.bool false) W)) := Lib.hid (fun W hW => by have h := rright_q hx hf W hW; rwa [hr] at h)
  clear HA hx hy hv hN hf hg h1 h2 hl hr
  go_enter Try.func7, Try.ntmps7
  go_wp2_with fail
  refine (KA.out _ HB.out).mono ?_
  rintro r w1 ⟨rfl, hb⟩
  replace HX := Lib.hid (HX.out.below hb HX.out.lt)
  replace HY := Lib.hid (HY.out.below hb HY.out.lt)
  replace HB := Lib.hid (HB.out.trans (hb.mono HB.out.size))
  clear hb
  have ld0_0 := (HX.out.cell 0).trans rfl
  have ld0_1 := (HX.out.cell 1).trans rfl
  have ld0_2 := (HX.out.cell 2).trans rfl
  have ld0_3 := (HX.out.cell 3).trans rfl
  have ld0_4 := (HX.out.cell 4).trans rfl
  have ld0_5 := (HX.out.cell 5).trans rfl
  go_wp2_with fail
  refine (K1.out _ HB.out).mono ?_
  rintro r w2 ⟨rfl, hb⟩
  replace HX := Lib.hid (HX.out.below hb HX.out.lt)
  replace HY := Lib.hid (HY.out.below hb HY.out.lt)
  replace HB := Lib.hid (HB.out.trans (hb.mono HB.out.size))
  clear ld0_0 ld0_1 ld0_2 ld0_3 ld0_4 ld0_5 hb
  have ld0_0 := (HY.out.cell 0).trans rfl
  have ld0_1 := (HY.out.cell 1).trans rfl
  have ld0_2 := (HY.out.cell 2).trans rfl
  have ld0_3 := (HY.out.cell 3).trans rfl
  have ld0_4 := (HY.out.cell 4).trans rfl
  have ld0_5 := (HY.out.cell 5).trans rfl
  go_wp2_with fail
  refine (K2.out _ HB.out).mono ?_
  rintro r w3 ⟨rfl, hb⟩
  replace HX := Lib.hid (HX.out.below hb HX.out.lt)
  replace HY := Lib.hid (HY.out.below hb HY.out.lt)
  replace HB := Lib.hid (HB.out.trans (hb.mono HB.out.size))
  clear ld0_0 ld0_1 ld0_2 ld0_3 ld0_4 ld0_5 hb
  have ld0_0 := (HX.out.cell 0).trans rfl
  have ld0_1 := (HX.out.cell 1).trans rfl
  have ld0_2 := (HX.out.cell 2).trans rfl
  have ld0_3 := (HX.out.cell 3).trans rfl
  have ld0_4 := (HX.out.cell 4).trans rfl
  have ld0_5 := (HX.out.cell 5).trans rfl
  go_wp2_with fail
  refine (KR.out _ HB.out).mono ?_
  rintro r w4 ⟨rfl, hb⟩
  replace HX := Lib.hid (HX.out.below hb HX.out.lt)
  replace HY := Lib.hid (HY.out.below hb HY.out.lt)
  replace HB := Lib.hid (HB.out.trans (hb.mono HB.out.size))
  clear ld0_0 ld0_1 ld0_2 ld0_3 ld0_4 ld0_5 hb
  go_wp2
  go_ret
  exact ⟨rfl, HB.out⟩
set_option maxRecDepth 100000 in
set_option maxHeartbeats 8000000 in
theorem treeOwn_main (a b : NdD) (f g : NdF) (A B : Option Addr) (c d : Nat) (l : List Stp) (V : Option Addr) (N m : Nat) (w : World) (hx : LieN w (ndC a (.slice A f.len c)) (a, f)) (hy : LieN w (ndC b (.slice B g.len d)) (b, g)) (hv : WayV w.heap.size w (.slice V N m) l) (hN : N = l.length) (hf : f.size ≤ 1000000) (hg : g.size ≤ 1000000) (HA : Awake9 w) (C : TreC w) (h1 : decide (f.size + 1 ≤ 300) = true) (h2 : decide (g.size + 1 ≤ 300) = true) (hl : ¬ 20 < N) (hr : rgtX (a, f) = true) (oa sa ka : NdD) (of_ sf kf : NdF) (wv : Bool) (se ce : Nat) (hG : GetX (a, f) l = ((oa, of_), wv)) (hS : SetX (a, f) l (b, g) = ((sa, sf), se)) (hC : CutX (a, f) l = ((ka, kf), ce)) :
    Calls Try.prog 7 #[.agg #[.string (txt a.name), .string (txt a.key), .int .i64 a.kind, .int .u64 (a.num : Int), .string (txt a.text), .slice A f.len c], .slice V N m, .agg #[.string (txt b.name), .string (txt b.key), .int .i64 b.kind, .int .u64 (b.num : Int), .string (txt b.text), .slice B g.len d]] w (Ans9 (.bool true) w) := by
  have hb2 : Blk ((w.alloc (.cells #[.string (txt a.name), .string (txt a.key), .int .i64 a.kind, .int .u64 (a.num : Int), .string (txt a.text), .slice A f.len c] 27)).alloc (.cells #[.string (txt b.name), .string (txt b.key), .int .i64 b.kind, .int .u64 (b.num : Int), .string (txt b.text), .slice B g.len d] 27)) (w.heap.size + 1) 27 #[.string (txt b.name), .string (txt b.key), .int .i64 b.kind, .int .u64 (b.num : Int), .string (txt b.text), .slice B g.len d] := by
    have h := Blk.new (w.alloc (.cells #[.string (txt a.name), .string (txt a.key), .int .i64 a.kind, .int .u64 (a.num : Int), .string (txt a.text), .slice A f.len c] 27)) 27 #[.string (txt b.name), .string (txt b.key), .int .i64 b.kind, .int .u64 (b.num : Int), .string (txt b.text), .slice B g.len d]
    rw [show (w.alloc (.cells #[.string (txt a.name), .string (txt a.key), .int .i64 a.kind, .int .u64 (a.num : Int), .string (txt a.text), .slice A f.len c] 27)).heap.size = w.heap.size + 1 by simp] at h
    exact h
  have HX := Lib.hid ((Blk.new w 27 #[.string (txt a.name), .string (txt a.key), .int .i64 a.kind, .int .u64 (a.num : Int), .string (txt a.text), .slice A f.len c]).alloc (.cells #[.string (txt b.name), .string (txt b.key), .int .i64 b.kind, .int .u64 (b.num : Int), .string (txt b.text), .slice B g.len d] 27))
  have HY := Lib.hid hb2
  have HB : Hid (Below w.heap.size w ((w.alloc (.cells #[.string (txt a.name), .string (txt a.key), .int .i64 a.kind, .int .u64 (a.num : Int), .string (txt a.text), .slice A f.len c] 27)).alloc (.cells #[.string (txt b.name), .string (txt b.key), .int .i64 b.kind, .int .u64 (b.num : Int), .string (txt b.text), .slice B g.len d] 27))) := Lib.hid (((Below.refl _ _).alloc (Nat.le_refl _) _).alloc (by simp) _)
  clear hb2
  have KA := Lib.hid HA
  have K1 : Hid (∀ W, Below w.heap.size w W → Calls Try.prog 9 #[.agg #[.string (txt a.name), .string (txt a.key), .int .i64 a.kind, .int .u64 (a.num : Int), .string (txt a.text), .slice A f.len c]] W (Ans9 (.bool true) W)) := Lib.hid (fun W hW => by have h := small_q hx hf W hW; rwa [h1] at h)
  have K2 : Hid (∀ W, Below w.heap.size w W → Calls Try.prog 9 #[.agg #[.string (txt b.name), .string (txt b.key), .int .i64 b.kind, .int .u64 (b.num : Int), .string (txt b.text), .slice B g.len d]] W (Ans9 (.bool true) W)) := Lib.hid (fun W hW => by have h := small_q hy hg W hW; rwa [h2] at h)
  have n1 : ¬ (20 : Int) < (N : Int) := by omega
  have KR : Hid (∀ W, Below w.heap.size w W → Calls Try.prog 12 #[.agg #[.string (txt a.name), .string (txt a.key), .int .i64 a.kind, .int .u64 (a.num : Int), .string (txt a.text), .slice A f.len c]] W (Ans9 (.bool true) W)) := Lib.hid (fun W hW => by have h := rright_q hx hf W hW; rwa [hr] at h)
  have hln : l.length ≤ 1000000 := by omega
  have hsx : sortA .nil f = f := congrArg Prod.snd (sortX_right hr)
  have KW : Hid (∀ W, Below w.heap.size w W → Calls Try.prog 16 #[.agg #[.string (txt a.name), .string (txt a.key), .int .i64 a.kind, .int .u64 (a.num : Int), .string (txt a.text), .slice A f.len c]] W (RTreP1 (a, f) W)) := Lib.hid (fun W hW => by have h := rsort_q hx hf W hW; rw [hsx] at h; exact h)
  have KT : Hid (∀ W, Below w.heap.size w W → Calls Try.prog 10 #[.agg #[.string (txt a.name), .string (txt a.key), .int .i64 a.kind, .int .u64 (a.num : Int), .string (txt a.text), .slice A f.len c]] W (TreP1 (a, f) W)) := Lib.hid (fun W hW => by have h := sort_q C (Below.refl _ _) hx hf W hW; rw [hsx] at h; exact h)
  have KQ : Hid (∀ W, Below w.heap.size w W → Calls Try.prog 11 #[.agg #[.string (txt a.name), .string (txt a.key), .int .i64 a.kind, .int .u64 (a.num : Int), .string (txt a.text), .slice A f.len c]] W (Ans9 (.bool true) W)) := Lib.hid (fun W hW => by have h := right_q C (Below.refl _ _) hx hf W hW; rwa [hr] at h)
  have KG : Hid (∀ W, Below w.heap.size w W → Calls Try.prog 20 #[.agg #[.string (txt a.name), .string (txt a.key), .int .i64 a.kind, .int .u64 (a.num : Int), .string (txt a.text), .slice A f.len c], .slice V N m] W (TreP (oa, of_) (.bool wv) W)) := Lib.hid (fun W hW => by have h := get_q C (Below.refl _ _) hx hv hf hln W hW; rw [hG] at h; exact h)
  have KS : Hid (∀ W, Below w.heap.size w W → Calls Try.prog 22 #[.agg #[.string (txt a.name), .string (txt a.key), .int .i64 a.kind, .int .u64 (a.num : Int), .string (txt a.text), .slice A f.len c], .slice V N m, .agg #[.string (txt b.name), .string (txt b.key), .int .i64 b.kind, .int .u64 (b.num : Int), .string (txt b.text), .slice B g.len d]] W (TreP (sa, sf) (.int .i64 (se : Int)) W)) := Lib.hid (fun W hW => by have h := set_q C (Below.refl _ _) hx hy hv hf hg hr hln W hW; rw [hS] at h; exact h)
  have KC : Hid (∀ W, Below w.heap.size w W → Calls Try.prog 24 #[.agg #[.string (txt a.name), .string (txt a.key), .int .i64 a.kind, .int .u64 (a.num : Int), .string (txt a.text), .slice A f.len c], .slice V N m] W (TreP (ka, kf) (.int .i64 (ce : Int)) W)) := Lib.hid (fun W hW => by have h := cut_q C (Below.refl _ _) hx hv hf hr hln W hW; rw [hC] at h; exact h)
  have hs1 : of_.size ≤ 1000000 := by have h := GetX_few (a, f) l; rw [hG] at h; simp only at h; omega
  have hs2 : sf.size ≤ 1000000 := by have h := SetX_few (a, f) (b, g) l; have := of_decide_eq_true h1; have := of_decide_eq_true h2; rw [hS] at h; simp only at h; omega
  have hs3 : kf.size ≤ 1000000 := by have h := CutX_few (a, f) l; rw [hC] at h; simp only at h; omega
  have HSZ := Lib.hid (And.intro hs1 (And.intro hs2 (And.intro hs3 hf)))
  have HLX := Lib.hid hx
  clear HA C hx hy hv hN hf hg h1 h2 hl hr hln hsx hG hS hC hs1 hs2 hs3
  go_enter Try.func7, Try.ntmps7
  go_wp2_with fail
  refine (KA.out _ HB.out).mono ?_
  rintro r w1 ⟨rfl, hb⟩
  replace HX := Lib.hid (HX.out.below hb HX.out.lt)
  replace HY := Lib.hid (HY.out.below hb HY.out.lt)
  replace HB := Lib.hid (HB.out.trans (hb.mono HB.out.size))
  clear hb
  have ld0_0 := (HX.out.cell 0).trans rfl
  have ld0_1 := (HX.out.cell 1).trans rfl
  have ld0_2 := (HX.out.cell 2).trans rfl
  have ld0_3 := (HX.out.cell 3).trans rfl
  have ld0_4 := (HX.out.cell 4).trans rfl
  have ld0_5 := (HX.out.cell 5).trans rfl
  go_wp2_with fail
  refine (K1.out _ HB.out).mono ?_
  rintro r w2 ⟨rfl, hb⟩
  replace HX := Lib.hid (HX.out.below hb HX.out.lt)
  replace HY := Lib.hid (HY.out.below hb HY.out.lt)
  replace HB := Lib.hid (HB.out.trans (hb.mono HB.out.size))
  clear ld0_0 ld0_1 ld0_2 ld0_3 ld0_4 ld0_5 hb
  have ld0_0 := (HY.out.cell 0).trans rfl
  have ld0_1 := (HY.out.cell 1).trans rfl
  have ld0_2 := (HY.out.cell 2).trans rfl
  have ld0_3 := (HY.out.cell 3).trans rfl
  have ld0_4 := (HY.out.cell 4).trans rfl
  have ld0_5 := (HY.out.cell 5).trans rfl
  go_wp2_with fail
  refine (K2.out _ HB.out).mono ?_
  rintro r w3 ⟨rfl, hb⟩
  replace HX := Lib.hid (HX.out.below hb HX.out.lt)
  replace HY := Lib.hid (HY.out.below hb HY.out.lt)
  replace HB := Lib.hid (HB.out.trans (hb.mono HB.out.size))
  clear ld0_0 ld0_1 ld0_2 ld0_3 ld0_4 ld0_5 hb
  have ld0_0 := (HX.out.cell 0).trans rfl
  have ld0_1 := (HX.out.cell 1).trans rfl
  have ld0_2 := (HX.out.cell 2).trans rfl
  have ld0_3 := (HX.out.cell 3).trans rfl
  have ld0_4 := (HX.out.cell 4).trans rfl
  have ld0_5 := (HX.out.cell 5).trans rfl
  go_wp2_with fail
  refine (KR.out _ HB.out).mono ?_
  rintro r w4 ⟨rfl, hb⟩
  replace HX := Lib.hid (HX.out.below hb HX.out.lt)
  replace HY := Lib.hid (HY.out.below hb HY.out.lt)
  replace HB := Lib.hid (HB.out.trans (hb.mono HB.out.size))
  clear ld0_0 ld0_1 ld0_2 ld0_3 ld0_4 ld0_5 hb
  have ld0_0 := (HX.out.cell 0).trans rfl
  have ld0_1 := (HX.out.cell 1).trans rfl
  have ld0_2 := (HX.out.cell 2).trans rfl
  have ld0_3 := (HX.out.cell 3).trans rfl
  have ld0_4 := (HX.out.cell 4).trans rfl
  have ld0_5 := (HX.out.cell 5).trans rfl
  go_wp2_with fail
  refine (KW.out _ HB.out).mono ?_
  intro r w5 hr
  obtain ⟨Awa, cwa, rfl, hl, hb⟩ := hr.flat
  have hal : Below w5.heap.size w5 (w5.alloc (.cells #[.string (txt a.name), .string (txt a.key), .int .i64 a.kind, .int .u64 (a.num : Int), .string (txt a.text), .slice Awa f.len cwa] 27)) := (Below.refl _ _).alloc (Nat.le_refl _) _
  have hb2 := hb.trans (hal.mono hb.size)
  replace HX := Lib.hid (HX.out.below hb2 HX.out.lt)
  replace HY := Lib.hid (HY.out.below hb2 HY.out.lt)
  replace HB := Lib.hid (HB.out.trans (hb2.mono HB.out.size))
  have HXwa := Lib.hid (Blk.new w5 27 #[.string (txt a.name), .string (txt a.key), .int .i64 a.kind, .int .u64 (a.num : Int), .string (txt a.text), .slice Awa f.len cwa])
  have HLwa : Hid (LieN (w5.alloc (.cells #[.string (txt a.name), .string (txt a.key), .int .i64 a.kind, .int .u64 (a.num : Int), .string (txt a.text), .slice Awa f.len cwa] 27)) (ndC a (.slice Awa f.len cwa)) (a, f)) := Lib.hid (hl.below hal)
  clear ld0_0 ld0_1 ld0_2 ld0_3 ld0_4 ld0_5 hr hl hb hal hb2
  have HBB : Hid (Below (w5.alloc (.cells #[.string (txt a.name), .string (txt a.key), .int .i64 a.kind, .int .u64 (a.num : Int), .string (txt a.text), .slice Awa f.len cwa] 27)).heap.size (w5.alloc (.cells #[.string (txt a.name), .string (txt a.key), .int .i64 a.kind, .int .u64 (a.num : Int), .string (txt a.text), .slice Awa f.len cwa] 27)) (w5.alloc (.cells #[.string (txt a.name), .string (txt a.key), .int .i64 a.kind, .int .u64 (a.num : Int), .string (txt a.text), .slice Awa f.len cwa] 27))) := Lib.hid (Below.refl _ _)
  have HX0 := Lib.hid HX.out.lt
  have HW0 := Lib.hid HXwa.out.lt
  have HL0 := Lib.hid HLwa.out
  have HS0 := Lib.hid HB.out.size
  clear HLwa
  have ld0_0 := (HX.out.cell 0).trans rfl
  have ld0_1 := (HX.out.cell 1).trans rfl
  have ld0_2 := (HX.out.cell 2).trans rfl
  have ld0_3 := (HX.out.cell 3).trans rfl
  have ld0_4 := (HX.out.cell 4).trans rfl
  have ld0_5 := (HX.out.cell 5).trans rfl
  go_wp2_with fail
  refine (KG.out _ HB.out).mono ?_
  intro r w6 hr
  obtain ⟨Aoa, coa, rfl, hl, hb⟩ := hr.new9
  have hal : Below w6.heap.size w6 (w6.alloc (.cells #[.string (txt oa.name), .string (txt oa.key), .int .i64 oa.kind, .int .u64 (oa.num : Int), .string (txt oa.text), .slice Aoa of_.len coa] 27)) := (Below.refl _ _).alloc (Nat.le_refl _) _
  have hb2 := hb.trans (hal.mono hb.size)
  replace HX := Lib.hid (HX.out.below hb2 HX.out.lt)
  replace HY := Lib.hid (HY.out.below hb2 HY.out.lt)
  replace HXwa := Lib.hid (HXwa.out.below hb2 HXwa.out.lt)
  replace HB := Lib.hid (HB.out.trans (hb2.mono HB.out.size))
  replace HBB := Lib.hid (HBB.out.trans (hb2.mono HBB.out.size))
  have HXoa := Lib.hid (Blk.new w6 27 #[.string (txt oa.name), .string (txt oa.key), .int .i64 oa.kind, .int .u64 (oa.num : Int), .string (txt oa.text), .slice Aoa of_.len coa])
  have HMoa := Lib.hid (hl.below hal)
  have HZoa := Lib.hid (And.intro hb.size (show w6.heap.size < (w6.alloc (.cells #[.string (txt oa.name), .string (txt oa.key), .int .i64 oa.kind, .int .u64 (oa.num : Int), .string (txt oa.text), .slice Aoa of_.len coa] 27)).heap.size by simp))
  clear ld0_0 ld0_1 ld0_2 ld0_3 ld0_4 ld0_5 hr hl hb hal hb2
  have ld0_0 := (HX.out.cell 0).trans rfl
  have ld0_1 := (HX.out.cell 1).trans rfl
  have ld0_2 := (HX.out.cell 2).trans rfl
  have ld0_3 := (HX.out.cell 3).trans rfl
  have ld0_4 := (HX.out.cell 4).trans rfl
  have ld0_5 := (HX.out.cell 5).trans rfl
  have ld1_0 := (HY.out.cell 0).trans rfl
  have ld1_1 := (HY.out.cell 1).trans rfl
  have ld1_2 := (HY.out.cell 2).trans rfl
  have ld1_3 := (HY.out.cell 3).trans rfl
  have ld1_4 := (HY.out.cell 4).trans rfl
  have ld1_5 := (HY.out.cell 5).trans rfl
  go_wp2_with fail
  refine (KS.out _ HB.out).mono ?_
  intro r w7 hr
  obtain ⟨Asa, csa, rfl, hl, hb⟩ := hr.new9
  have hal : Below w7.heap.size w7 (w7.alloc (.cells #[.string (txt sa.name), .string (txt sa.key), .int .i64 sa.kind, .int .u64 (sa.num : Int), .string (txt sa.text), .slice Asa sf.len csa] 27)) := (Below.refl _ _).alloc (Nat.le_refl _) _
  have hb2 := hb.trans (hal.mono hb.size)
  replace HX := Lib.hid (HX.out.below hb2 HX.out.lt)
  replace HY := Lib.hid (HY.out.below hb2 HY.out.lt)
  replace HXwa := Lib.hid (HXwa.out.below hb2 HXwa.out.lt)
  replace HXoa := Lib.hid (HXoa.out.below hb2 HXoa.out.lt)
  replace HB := Lib.hid (HB.out.trans (hb2.mono HB.out.size))
  replace HBB := Lib.hid (HBB.out.trans (hb2.mono HBB.out.size))
  replace HMoa := Lib.hid (HMoa.out.below hb2)
  have HXsa := Lib.hid (Blk.new w7 27 #[.string (txt sa.name), .string (txt sa.key), .int .i64 sa.kind, .int .u64 (sa.num : Int), .string (txt sa.text), .slice Asa sf.len csa])
  have HMsa := Lib.hid (hl.below hal)
  have HZsa := Lib.hid (And.intro hb.size (show w7.heap.size < (w7.alloc (.cells #[.string (txt sa.name), .string (txt sa.key), .int .i64 sa.kind, .int .u64 (sa.num : Int), .string (txt sa.text), .slice Asa sf.len csa] 27)).heap.size by simp))
  clear ld0_0 ld0_1 ld0_2 ld0_3 ld0_4 ld0_5 ld1_0 ld1_1 ld1_2 ld1_3 ld1_4 ld1_5 hr hl hb hal hb2
  have ld0_0 := (HX.out.cell 0).trans rfl
  have ld0_1 := (HX.out.cell 1).trans rfl
  have ld0_2 := (HX.out.cell 2).trans rfl
  have ld0_3 := (HX.out.cell 3).trans rfl
  have ld0_4 := (HX.out.cell 4).trans rfl
  have ld0_5 := (HX.out.cell 5).trans rfl
  go_wp2_with fail
  refine (KC.out _ HB.out).mono ?_
  intro r w8 hr
  obtain ⟨Aka, cka, rfl, hl, hb⟩ := hr.new9
  have hal : Below w8.heap.size w8 (w8.alloc (.cells #[.string (txt ka.name), .string (txt ka.key), .int .i64 ka.kind, .int .u64 (ka.num : Int), .string (txt ka.text), .slice Aka kf.len cka] 27)) := (Below.refl _ _).alloc (Nat.le_refl _) _
  have hb2 := hb.trans (hal.mono hb.size)
  replace HX := Lib.hid (HX.out.below hb2 HX.out.lt)
  replace HY := Lib.hid (HY.out.below hb2 HY.out.lt)
  replace HXwa := Lib.hid (HXwa.out.below hb2 HXwa.out.lt)
  replace HXoa := Lib.hid (HXoa.out.below hb2 HXoa.out.lt)
  replace HXsa := Lib.hid (HXsa.out.below hb2 HXsa.out.lt)
  replace HB := Lib.hid (HB.out.trans (hb2.mono HB.out.size))
  replace HBB := Lib.hid (HBB.out.trans (hb2.mono HBB.out.size))
  replace HMoa := Lib.hid (HMoa.out.below hb2)
  replace HMsa := Lib.hid (HMsa.out.below hb2)
  have HXka := Lib.hid (Blk.new w8 27 #[.string (txt ka.name), .string (txt ka.key), .int .i64 ka.kind, .int .u64 (ka.num : Int), .string (txt ka.text), .slice Aka kf.len cka])
  have HMka := Lib.hid (hl.below hal)
  have HZka := Lib.hid (And.intro hb.size (show w8.heap.size < (w8.alloc (.cells #[.string (txt ka.name), .string (txt ka.key), .int .i64 ka.kind, .int .u64 (ka.num : Int), .string (txt ka.text), .slice Aka kf.len cka] 27)).heap.size by simp))
  clear ld0_0 ld0_1 ld0_2 ld0_3 ld0_4 ld0_5 hr hl hb hal hb2
  obtain ⟨S, hS, ma, mb, mc⟩ := join9 HMoa.out HMsa.out HMka.out HZoa.out.1 HZoa.out.2 HZsa.out.1 HZsa.out.2 HZka.out.1
  have HS := Lib.hid hS
  replace HMoa := Lib.hid ma
  replace HMsa := Lib.hid mb
  replace HMka := Lib.hid mc
  clear hS ma mb mc HY HZoa HZsa HZka
  have ld0_0 := (HXoa.out.cell 0).trans rfl
  have ld0_1 := (HXoa.out.cell 1).trans rfl
  have ld0_2 := (HXoa.out.cell 2).trans rfl
  have ld0_3 := (HXoa.out.cell 3).trans rfl
  have ld0_4 := (HXoa.out.cell 4).trans rfl
  have ld0_5 := (HXoa.out.cell 5).trans rfl
  go_wp2_with fail
  refine (over_mine (fun g hg => (HS.out g hg).2.2.2.2) HMoa.out rfl HSZ.out.1).mono ?_
  rintro r w9 ⟨rfl, ho⟩
  have hbB := ho.to_below (fun g hg => (HS.out g hg).1) HBB.out.size
  replace HX := Lib.hid (HX.out.below hbB HX0.out)
  replace HXwa := Lib.hid (HXwa.out.below hbB HW0.out)
  replace HBB := Lib.hid (HBB.out.trans hbB)
  replace HB := Lib.hid (HB.out.trans (hbB.mono HS0.out))
  replace HXoa := Lib.hid (ho.blk HXoa.out (fun h => (HS.out _ h).2.1 rfl))
  replace HMoa := Lib.hid (HMoa.out.over ho)
  replace HXsa := Lib.hid (ho.blk HXsa.out (fun h => (HS.out _ h).2.2.1 rfl))
  replace HMsa := Lib.hid (HMsa.out.over ho)
  replace HXka := Lib.hid (ho.blk HXka.out (fun h => (HS.out _ h).2.2.2.1 rfl))
  replace HMka := Lib.hid (HMka.out.over ho)
  replace HS := Lib.hid (fun g hg => (⟨(HS.out g hg).1, (HS.out g hg).2.1, (HS.out g hg).2.2.1, (HS.out g hg).2.2.2.1, ho.unf g hg (HS.out g hg).2.2.2.2⟩ : _ ∧ _ ∧ _ ∧ _ ∧ UnF w9 g))
  clear ld0_0 ld0_1 ld0_2 ld0_3 ld0_4 ld0_5 ho hbB
  have ld0_0 := (HXsa.out.cell 0).trans rfl
  have ld0_1 := (HXsa.out.cell 1).trans rfl
  have ld0_2 := (HXsa.out.cell 2).trans rfl
  have ld0_3 := (HXsa.out.cell 3).trans rfl
  have ld0_4 := (HXsa.out.cell 4).trans rfl
  have ld0_5 := (HXsa.out.cell 5).trans rfl
  go_wp2_with fail
  refine (over_mine (fun g hg => (HS.out g hg).2.2.2.2) HMsa.out rfl HSZ.out.2.1).mono ?_
  rintro r w10 ⟨rfl, ho⟩
  have hbB := ho.to_below (fun g hg => (HS.out g hg).1) HBB.out.size
  replace HX := Lib.hid (HX.out.below hbB HX0.out)
  replace HXwa := Lib.hid (HXwa.out.below hbB HW0.out)
  replace HBB := Lib.hid (HBB.out.trans hbB)
  replace HB := Lib.hid (HB.out.trans (hbB.mono HS0.out))
  replace HXoa := Lib.hid (ho.blk HXoa.out (fun h => (HS.out _ h).2.1 rfl))
  replace HMoa := Lib.hid (HMoa.out.over ho)
  replace HXsa := Lib.hid (ho.blk HXsa.out (fun h => (HS.out _ h).2.2.1 rfl))
  replace HMsa := Lib.hid (HMsa.out.over ho)
  replace HXka := Lib.hid (ho.blk HXka.out (fun h => (HS.out _ h).2.2.2.1 rfl))
  replace HMka := Lib.hid (HMka.out.over ho)
  replace HS := Lib.hid (fun g hg => (⟨(HS.out g hg).1, (HS.out g hg).2.1, (HS.out g hg).2.2.1, (HS.out g hg).2.2.2.1, ho.unf g hg (HS.out g hg).2.2.2.2⟩ : _ ∧ _ ∧ _ ∧ _ ∧ UnF w10 g))
  clear ld0_0 ld0_1 ld0_2 ld0_3 ld0_4 ld0_5 ho hbB
  have ld0_0 := (HXka.out.cell 0).trans rfl
  have ld0_1 := (HXka.out.cell 1).trans rfl
  have ld0_2 := (HXka.out.cell 2).trans rfl
  have ld0_3 := (HXka.out.cell 3).trans rfl
  have ld0_4 := (HXka.out.cell 4).trans rfl
  have ld0_5 := (HXka.out.cell 5).trans rfl
  go_wp2_with fail
  refine (over_mine (fun g hg => (HS.out g hg).2.2.2.2) HMka.out rfl HSZ.out.2.2.1).mono ?_
  rintro r w11 ⟨rfl, ho⟩
  have hbB := ho.to_below (fun g hg => (HS.out g hg).1) HBB.out.size
  replace HX := Lib.hid (HX.out.below hbB HX0.out)
  replace HXwa := Lib.hid (HXwa.out.below hbB HW0.out)
  replace HBB := Lib.hid (HBB.out.trans hbB)
  replace HB := Lib.hid (HB.out.trans (hbB.mono HS0.out))
  replace HXoa := Lib.hid (ho.blk HXoa.out (fun h => (HS.out _ h).2.1 rfl))
  replace HMoa := Lib.hid (HMoa.out.over ho)
  replace HXsa := Lib.hid (ho.blk HXsa.out (fun h => (HS.out _ h).2.2.1 rfl))
  replace HMsa := Lib.hid (HMsa.out.over ho)
  replace HXka := Lib.hid (ho.blk HXka.out (fun h => (HS.out _ h).2.2.2.1 rfl))
  replace HMka := Lib.hid (HMka.out.over ho)
  replace HS := Lib.hid (fun g hg => (⟨(HS.out g hg).1, (HS.out g hg).2.1, (HS.out g hg).2.2.1, (HS.out g hg).2.2.2.1, ho.unf g hg (HS.out g hg).2.2.2.2⟩ : _ ∧ _ ∧ _ ∧ _ ∧ UnF w11 g))
  clear ld0_0 ld0_1 ld0_2 ld0_3 ld0_4 ld0_5 ho hbB
  clear HS HMoa HMsa HMka HXoa HXsa HXka
  have ld0_0 := (HX.out.cell 0).trans rfl
  have ld0_1 := (HX.out.cell 1).trans rfl
  have ld0_2 := (HX.out.cell 2).trans rfl
  have ld0_3 := (HX.out.cell 3).trans rfl
  have ld0_4 := (HX.out.cell 4).trans rfl
  have ld0_5 := (HX.out.cell 5).trans rfl
  go_wp2_with fail
  refine (KT.out _ HB.out).mono ?_
  intro r w12 hr
  obtain ⟨Ad, cd, rfl, ⟨-, S2, hS2, hR2⟩, hb⟩ := hr.new9
  have HS2 := Lib.hid hS2
  have HR2 := Lib.hid hR2
  have HB2 := Lib.hid hb
  clear ld0_0 ld0_1 ld0_2 ld0_3 ld0_4 ld0_5 hr hS2 hR2 hb
  go_wp2_with fail
  refine (over_any (fun g hg => (HS2.out g hg).2.2) HR2.out HSZ.out.2.2.2).mono ?_
  rintro r w13 ⟨rfl, ho⟩
  have hb3 := HB2.out.trans (ho.to_below (fun g hg => (HS2.out g hg).1) HB2.out.size)
  replace HX := Lib.hid (HX.out.below hb3 HX.out.lt)
  replace HXwa := Lib.hid (HXwa.out.below hb3 HXwa.out.lt)
  replace HBB := Lib.hid (HBB.out.trans (hb3.mono HBB.out.size))
  replace HB := Lib.hid (HB.out.trans (hb3.mono HB.out.size))
  clear ho hb3 HS2 HR2 HB2
  have ld0_0 := (HXwa.out.cell 0).trans rfl
  have ld0_1 := (HXwa.out.cell 1).trans rfl
  have ld0_2 := (HXwa.out.cell 2).trans rfl
  have ld0_3 := (HXwa.out.cell 3).trans rfl
  have ld0_4 := (HXwa.out.cell 4).trans rfl
  have ld0_5 := (HXwa.out.cell 5).trans rfl
  have ld1_0 := (HX.out.cell 0).trans rfl
  have ld1_1 := (HX.out.cell 1).trans rfl
  have ld1_2 := (HX.out.cell 2).trans rfl
  have ld1_3 := (HX.out.cell 3).trans rfl
  have ld1_4 := (HX.out.cell 4).trans rfl
  have ld1_5 := (HX.out.cell 5).trans rfl
  go_wp2_with fail
  refine (rsame_eq (HL0.out.below HBB.out) (HLX.out.below HB.out) HSZ.out.2.2.2).mono ?_
  rintro r w14 ⟨rfl, hb⟩
  replace HX := Lib.hid (HX.out.below hb HX.out.lt)
  replace HXwa := Lib.hid (HXwa.out.below hb HXwa.out.lt)
  replace HB := Lib.hid (HB.out.trans (hb.mono HB.out.size))
  clear ld0_0 ld0_1 ld0_2 ld0_3 ld0_4 ld0_5 ld1_0 ld1_1 ld1_2 ld1_3 ld1_4 ld1_5 hb
  have ld0_0 := (HX.out.cell 0).trans rfl
  have ld0_1 := (HX.out.cell 1).trans rfl
  have ld0_2 := (HX.out.cell 2).trans rfl
  have ld0_3 := (HX.out.cell 3).trans rfl
  have ld0_4 := (HX.out.cell 4).trans rfl
  have ld0_5 := (HX.out.cell 5).trans rfl
  go_wp2_with fail
  refine (KQ.out _ HB.out).mono ?_
  rintro r w15 ⟨rfl, hb⟩
  replace HX := Lib.hid (HX.out.below hb HX.out.lt)
  replace HXwa := Lib.hid (HXwa.out.below hb HXwa.out.lt)
  replace HB := Lib.hid (HB.out.trans (hb.mono HB.out.size))
  clear ld0_0 ld0_1 ld0_2 ld0_3 ld0_4 ld0_5 hb
  go_wp2
  go_ret
  exact ⟨rfl, HB.out⟩
theorem treeOwn_walk (a b : NdD) (f g : NdF) (A B : Option Addr) (c d : Nat) (l : List Stp) (V : Option Addr) (N m : Nat) (w : World) (hx : LieN w (ndC a (.slice A f.len c)) (a, f)) (hy : LieN w (ndC b (.slice B g.len d)) (b, g)) (hv : WayV w.heap.size w (.slice V N m) l) (hN : N = l.length) (hf : f.size ≤ 1000000) (hg : g.size ≤ 1000000) (C : TreC w) (HA : Awake9 w) :
    Calls Try.prog 7 #[.agg #[.string (txt a.name), .string (txt a.key), .int .i64 a.kind, .int .u64 (a.num : Int), .string (txt a.text), .slice A f.len c], .slice V N m, .agg #[.string (txt b.name), .string (txt b.key), .int .i64 b.kind, .int .u64 (b.num : Int), .string (txt b.text), .slice B g.len d]] w (Ans9 (.bool true) w) := by
  cases h1 : decide (f.size + 1 ≤ 300) with
  | false =>
    cases h2 : decide (g.size + 1 ≤ 300) with
    | false => exact treeOwn_none a b f g A B c d l V N m w hx hy hv hN hf hg HA h1 h2
    | true => exact treeOwn_two a b f g A B c d l V N m w hx hy hv hN hf hg HA h1 h2
  | true =>
    cases h2 : decide (g.size + 1 ≤ 300) with
    | false => exact treeOwn_one a b f g A B c d l V N m w hx hy hv hN hf hg HA h1 h2
    | true =>
      by_cases hl : 20 < N
      · exact treeOwn_long a b f g A B c d l V N m w hx hy hv hN hf hg HA h1 h2 hl
      · cases hr : rgtX (a, f) with
        | false => exact treeOwn_wrong a b f g A B c d l V N m w hx hy hv hN hf hg HA h1 h2 hl hr
        | true => exact treeOwn_main a b f g A B c d l V N m w hx hy hv hN hf hg HA C h1 h2 hl hr _ _ _ _ _ _ _ _ _ rfl rfl rfl
end Go.Proofs.Ytgipnemcmiohlaa

