/-
  The laws of layer 7 are awake, where package spec answers as it is to. No condition but those of each theorem.
-/
import Derived.Test.YtkpbjgjflabloaaSpcSame
namespace Go.Proofs.Ytkpbjgjflabloaa
open Go.RowKit
set_option linter.unusedSimpArgs false
set_option linter.unusedVariables false

def Awake7 (W0 : World) : Prop := ∀ w, Below W0.heap.size W0 w → Calls Try.prog 7 #[] w fun r w' => r = .returned (.bool true) ∧ Below w.heap.size w w'
/-- What a thing in new memory leaves: a world behind keeps it. -/
theorem NewSp.under {base : Nat} {w w' : World} {cs : List Value} {x : Sp} (h : NewSp base w cs x) (hb : Below w.heap.size w w') : NewSp base w' cs x := by
  obtain ⟨S, N, hS, hN, h⟩ := h
  exact ⟨S, N, fun g hg => (hS g hg).below hb, fun g hg => ⟨(hN g hg).1.below hb, (hN g hg).2⟩, h.under hb (fun g hg => (hS g hg).lt) (fun g hg => (hN g hg).1.lt)⟩
theorem NewSp.shape {base : Nat} {w : World} {cs : List Value} {x : Sp} (h : NewSp base w cs x) : ∃ B m A c, cs = [.string (txt x.1.name), .int .i64 (x.1.kind : Int), .int .i64 (x.1.typ : Int), .int .u64 (x.1.low : Int), .int .u64 (x.1.high : Int), .slice B x.1.names.length m, .bool x.1.must, .int .i64 (x.1.most : Int), .slice A x.2.len c] := by
  obtain ⟨S, N, hS, hN, h⟩ := h
  obtain ⟨B, m, A, c, d, e, _⟩ := h.shape
  exact ⟨B, m, A, c, e⟩
/-- A row of texts that is written out. -/
theorem texts_lit {w : World} {l : List (List UInt8)} (h : 0 < l.length) (t : TypeId) : Vals (w.alloc (.cells (txts l).toArray t)) w.heap.size (.slice (some ⟨w.heap.size, 0, none⟩) (txts l).length (txts l).length) (txts l) :=
  ⟨_, _, rfl, Nat.le_refl _, fun _ => ⟨by simp, 0, rfl, fun j u hj => by
    rw [Nat.zero_add, (Blk.new w t (txts l).toArray).cell]
    simpa using hj⟩⟩
theorem ex7a : findI nPort (rootF 1) = 1 := by decide
theorem ex7b : findI nWait (rootF 1) = -1 := by decide
theorem ex7c : tagX (rootF 1) 0 = 2 := by decide
theorem ex7d : tagX (rootF 1) 1 = 5 := by decide
theorem ex7e : kidX (rootF 1) 5 = 1 := by decide
theorem ex7f : (rootF 1).len = 2 := by decide
theorem ex7g : ∃ x : Sp, atX 3 [nPort, nClass, nDepth] = (x, 0) ∧ x.1.high = 64 := ⟨(numD nDepth 1 1 64, .nil), by decide, rfl⟩
theorem ex7h : ∃ x : Sp, atX 3 [nPort, nLimit] = (x, 22) := ⟨(zeroD, .nil), by decide⟩
theorem ex7i : ∃ x : Sp, rootX 4 = (x, 28) := ⟨(zeroD, .nil), by decide⟩
set_option maxRecDepth 100000 in
set_option maxHeartbeats 4000000 in
theorem awake7 (W0 : World) (C : SpcC W0) : Awake7 W0 := by
  intro w hw
  obtain ⟨x1, hx1⟩ : ∃ x1 : Sp, x1 = (rootD, rootF 1) := ⟨_, rfl⟩
  have a1 : findI nPort x1.2 = 1 := by rw [hx1]; exact ex7a
  have a2 : findI nWait x1.2 = -1 := by rw [hx1]; exact ex7b
  have a3 : tagX x1.2 0 = 2 := by rw [hx1]; exact ex7c
  have a4 : tagX x1.2 1 = 5 := by rw [hx1]; exact ex7d
  have a5 : kidX x1.2 5 = 1 := by rw [hx1]; exact ex7e
  have a6 : x1.2.len ≤ 1000000 := by rw [hx1]; have := ex7f; simp only; omega
  have r1 : rootX 1 = (x1, 0) := by rw [hx1]; rfl
  obtain ⟨x3, r3, h64⟩ := ex7g
  obtain ⟨x4, r4⟩ := ex7h
  obtain ⟨x2, r2⟩ := ex7i
  have NR1 : ∀ W, Below W0.heap.size W0 W → Hid (Calls Try.prog 8 #[.int .i64 1] W (fun r w' => ∃ cs, r = .returned (.tuple #[.agg cs.toArray, .int .i64 0]) ∧ NewSp W.heap.size w' cs x1 ∧ Below W.heap.size W w')) := fun W h => Lib.hid (by have := C.root 1 W (by omega) (by omega) h; rw [r1] at this; exact this)
  have NR2 : ∀ W, Below W0.heap.size W0 W → Hid (Calls Try.prog 8 #[.int .i64 4] W (fun r w' => ∃ cs, r = .returned (.tuple #[.agg cs.toArray, .int .i64 28]) ∧ NewSp W.heap.size w' cs x2 ∧ Below W.heap.size W w')) := fun W h => Lib.hid (by have := C.root 4 W (by omega) (by omega) h; rw [r2] at this; exact this)
  have NA3 : ∀ W d nv, Vals W d nv (txts [nPort, nClass, nDepth]) → Below W0.heap.size W0 W → Hid (Calls Try.prog 10 #[.int .i64 3, nv] W (fun r w' => ∃ cs, r = .returned (.tuple #[.agg cs.toArray, .int .i64 0]) ∧ NewSp W.heap.size w' cs x3 ∧ Below W.heap.size W w')) := fun W d nv hv h => Lib.hid (by have := C.at_ 3 [nPort, nClass, nDepth] d nv W (by omega) (by omega) (by decide) hv h; rw [r3] at this; exact this)
  have NA4 : ∀ W d nv, Vals W d nv (txts [nPort, nLimit]) → Below W0.heap.size W0 W → Hid (Calls Try.prog 10 #[.int .i64 3, nv] W (fun r w' => ∃ cs, r = .returned (.tuple #[.agg cs.toArray, .int .i64 22]) ∧ NewSp W.heap.size w' cs x4 ∧ Below W.heap.size W w')) := fun W d nv hv h => Lib.hid (by have := C.at_ 3 [nPort, nLimit] d nv W (by omega) (by omega) (by decide) hv h; rw [r4] at this; exact this)
  have ASK : ∀ (base : Nat) (cs : List Value) (W : World), NewSp base W cs x1 → Below W0.heap.size W0 W →
      Hid (Calls Try.prog 14 #[.agg cs.toArray, .string ⟨#[112, 111, 114, 116]⟩] W (AnsP (.int .i64 1) W)) ∧ Hid (Calls Try.prog 14 #[.agg cs.toArray, .string ⟨#[119, 97, 105, 116]⟩] W (AnsP (.int .i64 (-1)) W)) ∧
      Hid (Calls Try.prog 18 #[.agg cs.toArray, .int .i64 0] W (AnsP (.int .u64 2) W)) ∧ Hid (Calls Try.prog 18 #[.agg cs.toArray, .int .i64 1] W (AnsP (.int .u64 5) W)) ∧
      Hid (Calls Try.prog 16 #[.agg cs.toArray, .int .u64 5] W (AnsP (.int .i64 1) W)) := by
    intro base cs W hn h
    obtain ⟨S, N, hS, hN, hc⟩ := hn
    have hl := fun g hg => (hS g hg).lt
    exact ⟨Lib.hid (by have := C.find nPort S N cs x1 W hc hl a6 h; rw [a1] at this; exact this), Lib.hid (by have := C.find nWait S N cs x1 W hc hl a6 h; rw [a2] at this; exact this),
      Lib.hid (by have := C.tag 0 S N cs x1 W (by omega) (by omega) hc hl a6 h; rw [a3] at this; exact this), Lib.hid (by have := C.tag 1 S N cs x1 W (by omega) (by omega) hc hl a6 h; rw [a4] at this; exact this),
      Lib.hid (by have := C.kid 5 S N cs x1 W (by omega) hc hl a6 h; rw [a5] at this; exact this)⟩
  have HASK := Lib.hid ASK
  have H64 : Hid ((x3.1.high : Int) = 64) := Lib.hid (by rw [h64]; rfl)
  have HW := Lib.hid hw
  have HS : Hid (∀ W, Below w.heap.size w W → Below W0.heap.size W0 W) := Lib.hid (fun W h => hw.trans (h.mono hw.size))
  have M1 := Lib.hid NR1
  have M2 := Lib.hid NR2
  have M3 := Lib.hid NA3
  have M4 := Lib.hid NA4
  clear C hw a1 a2 a3 a4 a5 a6 r1 r2 r3 r4 h64 hx1 NR1 NR2 NA3 NA4 ASK
  go_enter Try.func7, Try.ntmps7
  go_wp2_with fail
  refine (M1.out _ HW.out).out.mono ?_
  rintro r w1 ⟨cs, rfl, hn, hB⟩
  obtain ⟨B1, m1, A1, c1, rfl⟩ := hn.shape
  have hb : Below w.heap.size w (w1.alloc (.cells #[.string (txt x1.1.name), .int .i64 (x1.1.kind : Int), .int .i64 (x1.1.typ : Int), .int .u64 (x1.1.low : Int), .int .u64 (x1.1.high : Int), .slice B1 x1.1.names.length m1, .bool x1.1.must, .int .i64 (x1.1.most : Int), .slice A1 x1.2.len c1] 27)) := hB.alloc hB.size _
  have H1 := Lib.hid hb
  have E1 := Lib.hid (hn.under ((Below.refl w1.heap.size w1).alloc (Nat.le_refl _) (.cells #[.string (txt x1.1.name), .int .i64 (x1.1.kind : Int), .int .i64 (x1.1.typ : Int), .int .u64 (x1.1.low : Int), .int .u64 (x1.1.high : Int), .slice B1 x1.1.names.length m1, .bool x1.1.must, .int .i64 (x1.1.most : Int), .slice A1 x1.2.len c1] 27)))
  have X1 := Lib.hid (Blk.new w1 27 #[.string (txt x1.1.name), .int .i64 (x1.1.kind : Int), .int .i64 (x1.1.typ : Int), .int .u64 (x1.1.low : Int), .int .u64 (x1.1.high : Int), .slice B1 x1.1.names.length m1, .bool x1.1.must, .int .i64 (x1.1.most : Int), .slice A1 x1.2.len c1])
  clear hn hB hb
  go_wp2_with fail
  refine (M2.out _ (HS.out _ H1.out)).out.mono ?_
  rintro r w2 ⟨cs, rfl, hn, hB⟩
  obtain ⟨B2, m2, A2, c2, rfl⟩ := hn.shape
  have hb : Below w.heap.size w (w2.alloc (.cells #[.string (txt x2.1.name), .int .i64 (x2.1.kind : Int), .int .i64 (x2.1.typ : Int), .int .u64 (x2.1.low : Int), .int .u64 (x2.1.high : Int), .slice B2 x2.1.names.length m2, .bool x2.1.must, .int .i64 (x2.1.most : Int), .slice A2 x2.2.len c2] 27)) := (H1.out.trans (hB.mono H1.out.size)).alloc (Nat.le_trans H1.out.size hB.size) _
  have hk : Below (w1.alloc (.cells #[.string (txt x1.1.name), .int .i64 (x1.1.kind : Int), .int .i64 (x1.1.typ : Int), .int .u64 (x1.1.low : Int), .int .u64 (x1.1.high : Int), .slice B1 x1.1.names.length m1, .bool x1.1.must, .int .i64 (x1.1.most : Int), .slice A1 x1.2.len c1] 27)).heap.size (w1.alloc (.cells #[.string (txt x1.1.name), .int .i64 (x1.1.kind : Int), .int .i64 (x1.1.typ : Int), .int .u64 (x1.1.low : Int), .int .u64 (x1.1.high : Int), .slice B1 x1.1.names.length m1, .bool x1.1.must, .int .i64 (x1.1.most : Int), .slice A1 x1.2.len c1] 27)) (w2.alloc (.cells #[.string (txt x2.1.name), .int .i64 (x2.1.kind : Int), .int .i64 (x2.1.typ : Int), .int .u64 (x2.1.low : Int), .int .u64 (x2.1.high : Int), .slice B2 x2.1.names.length m2, .bool x2.1.must, .int .i64 (x2.1.most : Int), .slice A2 x2.2.len c2] 27)) := hB.alloc hB.size _
  have H2 := Lib.hid hb
  have E2 := Lib.hid (E1.out.under hk)
  have X2 := Lib.hid (X1.out.below hk X1.out.lt)
  clear hn hB hb hk
  have hv : Vals ((w2.alloc (.cells #[.string (txt x2.1.name), .int .i64 (x2.1.kind : Int), .int .i64 (x2.1.typ : Int), .int .u64 (x2.1.low : Int), .int .u64 (x2.1.high : Int), .slice B2 x2.1.names.length m2, .bool x2.1.must, .int .i64 (x2.1.most : Int), .slice A2 x2.2.len c2] 27)).alloc (.cells #[.string ⟨#[112, 111, 114, 116]⟩, .string ⟨#[99, 108, 97, 115, 115]⟩, .string ⟨#[100, 101, 112, 116, 104]⟩] 9)) (w2.alloc (.cells #[.string (txt x2.1.name), .int .i64 (x2.1.kind : Int), .int .i64 (x2.1.typ : Int), .int .u64 (x2.1.low : Int), .int .u64 (x2.1.high : Int), .slice B2 x2.1.names.length m2, .bool x2.1.must, .int .i64 (x2.1.most : Int), .slice A2 x2.2.len c2] 27)).heap.size (.slice (some ⟨(w2.alloc (.cells #[.string (txt x2.1.name), .int .i64 (x2.1.kind : Int), .int .i64 (x2.1.typ : Int), .int .u64 (x2.1.low : Int), .int .u64 (x2.1.high : Int), .slice B2 x2.1.names.length m2, .bool x2.1.must, .int .i64 (x2.1.most : Int), .slice A2 x2.2.len c2] 27)).heap.size, 0, none⟩) 3 3) (txts [nPort, nClass, nDepth]) := texts_lit (l := [nPort, nClass, nDepth]) (by decide) _
  rw [show (w2.alloc (.cells #[.string (txt x2.1.name), .int .i64 (x2.1.kind : Int), .int .i64 (x2.1.typ : Int), .int .u64 (x2.1.low : Int), .int .u64 (x2.1.high : Int), .slice B2 x2.1.names.length m2, .bool x2.1.must, .int .i64 (x2.1.most : Int), .slice A2 x2.2.len c2] 27)).heap.size = w2.heap.size + 1 by simp] at hv
  have HV := Lib.hid hv
  have H2n : Hid (Below w.heap.size w ((w2.alloc (.cells #[.string (txt x2.1.name), .int .i64 (x2.1.kind : Int), .int .i64 (x2.1.typ : Int), .int .u64 (x2.1.low : Int), .int .u64 (x2.1.high : Int), .slice B2 x2.1.names.length m2, .bool x2.1.must, .int .i64 (x2.1.most : Int), .slice A2 x2.2.len c2] 27)).alloc (.cells #[.string ⟨#[112, 111, 114, 116]⟩, .string ⟨#[99, 108, 97, 115, 115]⟩, .string ⟨#[100, 101, 112, 116, 104]⟩] 9))) := Lib.hid (H2.out.alloc H2.out.size _)
  have hk : Below (w2.alloc (.cells #[.string (txt x2.1.name), .int .i64 (x2.1.kind : Int), .int .i64 (x2.1.typ : Int), .int .u64 (x2.1.low : Int), .int .u64 (x2.1.high : Int), .slice B2 x2.1.names.length m2, .bool x2.1.must, .int .i64 (x2.1.most : Int), .slice A2 x2.2.len c2] 27)).heap.size (w2.alloc (.cells #[.string (txt x2.1.name), .int .i64 (x2.1.kind : Int), .int .i64 (x2.1.typ : Int), .int .u64 (x2.1.low : Int), .int .u64 (x2.1.high : Int), .slice B2 x2.1.names.length m2, .bool x2.1.must, .int .i64 (x2.1.most : Int), .slice A2 x2.2.len c2] 27)) ((w2.alloc (.cells #[.string (txt x2.1.name), .int .i64 (x2.1.kind : Int), .int .i64 (x2.1.typ : Int), .int .u64 (x2.1.low : Int), .int .u64 (x2.1.high : Int), .slice B2 x2.1.names.length m2, .bool x2.1.must, .int .i64 (x2.1.most : Int), .slice A2 x2.2.len c2] 27)).alloc (.cells #[.string ⟨#[112, 111, 114, 116]⟩, .string ⟨#[99, 108, 97, 115, 115]⟩, .string ⟨#[100, 101, 112, 116, 104]⟩] 9)) := (Below.refl _ _).alloc (Nat.le_refl _) _
  have E2n := Lib.hid (E2.out.under hk)
  have X2n := Lib.hid (X2.out.below hk X2.out.lt)
  clear hv hk
  go_wp2_with fail
  refine (M3.out _ _ _ HV.out (HS.out _ H2n.out)).out.mono ?_
  rintro r w3 ⟨cs, rfl, hn, hB⟩
  obtain ⟨B3, m3, A3, c3, rfl⟩ := hn.shape
  have hb : Below w.heap.size w (w3.alloc (.cells #[.string (txt x3.1.name), .int .i64 (x3.1.kind : Int), .int .i64 (x3.1.typ : Int), .int .u64 (x3.1.low : Int), .int .u64 (x3.1.high : Int), .slice B3 x3.1.names.length m3, .bool x3.1.must, .int .i64 (x3.1.most : Int), .slice A3 x3.2.len c3] 27)) := (H2n.out.trans (hB.mono H2n.out.size)).alloc (Nat.le_trans H2n.out.size hB.size) _
  have hk : Below ((w2.alloc (.cells #[.string (txt x2.1.name), .int .i64 (x2.1.kind : Int), .int .i64 (x2.1.typ : Int), .int .u64 (x2.1.low : Int), .int .u64 (x2.1.high : Int), .slice B2 x2.1.names.length m2, .bool x2.1.must, .int .i64 (x2.1.most : Int), .slice A2 x2.2.len c2] 27)).alloc (.cells #[.string ⟨#[112, 111, 114, 116]⟩, .string ⟨#[99, 108, 97, 115, 115]⟩, .string ⟨#[100, 101, 112, 116, 104]⟩] 9)).heap.size ((w2.alloc (.cells #[.string (txt x2.1.name), .int .i64 (x2.1.kind : Int), .int .i64 (x2.1.typ : Int), .int .u64 (x2.1.low : Int), .int .u64 (x2.1.high : Int), .slice B2 x2.1.names.length m2, .bool x2.1.must, .int .i64 (x2.1.most : Int), .slice A2 x2.2.len c2] 27)).alloc (.cells #[.string ⟨#[112, 111, 114, 116]⟩, .string ⟨#[99, 108, 97, 115, 115]⟩, .string ⟨#[100, 101, 112, 116, 104]⟩] 9)) (w3.alloc (.cells #[.string (txt x3.1.name), .int .i64 (x3.1.kind : Int), .int .i64 (x3.1.typ : Int), .int .u64 (x3.1.low : Int), .int .u64 (x3.1.high : Int), .slice B3 x3.1.names.length m3, .bool x3.1.must, .int .i64 (x3.1.most : Int), .slice A3 x3.2.len c3] 27)) := hB.alloc hB.size _
  have H3 := Lib.hid hb
  have E3 := Lib.hid (E2n.out.under hk)
  have X3 := Lib.hid (X2n.out.below hk X2n.out.lt)
  have Y3 := Lib.hid (Blk.new w3 27 #[.string (txt x3.1.name), .int .i64 (x3.1.kind : Int), .int .i64 (x3.1.typ : Int), .int .u64 (x3.1.low : Int), .int .u64 (x3.1.high : Int), .slice B3 x3.1.names.length m3, .bool x3.1.must, .int .i64 (x3.1.most : Int), .slice A3 x3.2.len c3])
  clear hn hB hb hk
  have hv : Vals ((w3.alloc (.cells #[.string (txt x3.1.name), .int .i64 (x3.1.kind : Int), .int .i64 (x3.1.typ : Int), .int .u64 (x3.1.low : Int), .int .u64 (x3.1.high : Int), .slice B3 x3.1.names.length m3, .bool x3.1.must, .int .i64 (x3.1.most : Int), .slice A3 x3.2.len c3] 27)).alloc (.cells #[.string ⟨#[112, 111, 114, 116]⟩, .string ⟨#[108, 105, 109, 105, 116]⟩] 9)) (w3.alloc (.cells #[.string (txt x3.1.name), .int .i64 (x3.1.kind : Int), .int .i64 (x3.1.typ : Int), .int .u64 (x3.1.low : Int), .int .u64 (x3.1.high : Int), .slice B3 x3.1.names.length m3, .bool x3.1.must, .int .i64 (x3.1.most : Int), .slice A3 x3.2.len c3] 27)).heap.size (.slice (some ⟨(w3.alloc (.cells #[.string (txt x3.1.name), .int .i64 (x3.1.kind : Int), .int .i64 (x3.1.typ : Int), .int .u64 (x3.1.low : Int), .int .u64 (x3.1.high : Int), .slice B3 x3.1.names.length m3, .bool x3.1.must, .int .i64 (x3.1.most : Int), .slice A3 x3.2.len c3] 27)).heap.size, 0, none⟩) 2 2) (txts [nPort, nLimit]) := texts_lit (l := [nPort, nLimit]) (by decide) _
  rw [show (w3.alloc (.cells #[.string (txt x3.1.name), .int .i64 (x3.1.kind : Int), .int .i64 (x3.1.typ : Int), .int .u64 (x3.1.low : Int), .int .u64 (x3.1.high : Int), .slice B3 x3.1.names.length m3, .bool x3.1.must, .int .i64 (x3.1.most : Int), .slice A3 x3.2.len c3] 27)).heap.size = w3.heap.size + 1 by simp] at hv
  have HV3 := Lib.hid hv
  have H3n : Hid (Below w.heap.size w ((w3.alloc (.cells #[.string (txt x3.1.name), .int .i64 (x3.1.kind : Int), .int .i64 (x3.1.typ : Int), .int .u64 (x3.1.low : Int), .int .u64 (x3.1.high : Int), .slice B3 x3.1.names.length m3, .bool x3.1.must, .int .i64 (x3.1.most : Int), .slice A3 x3.2.len c3] 27)).alloc (.cells #[.string ⟨#[112, 111, 114, 116]⟩, .string ⟨#[108, 105, 109, 105, 116]⟩] 9))) := Lib.hid (H3.out.alloc H3.out.size _)
  have hk : Below (w3.alloc (.cells #[.string (txt x3.1.name), .int .i64 (x3.1.kind : Int), .int .i64 (x3.1.typ : Int), .int .u64 (x3.1.low : Int), .int .u64 (x3.1.high : Int), .slice B3 x3.1.names.length m3, .bool x3.1.must, .int .i64 (x3.1.most : Int), .slice A3 x3.2.len c3] 27)).heap.size (w3.alloc (.cells #[.string (txt x3.1.name), .int .i64 (x3.1.kind : Int), .int .i64 (x3.1.typ : Int), .int .u64 (x3.1.low : Int), .int .u64 (x3.1.high : Int), .slice B3 x3.1.names.length m3, .bool x3.1.must, .int .i64 (x3.1.most : Int), .slice A3 x3.2.len c3] 27)) ((w3.alloc (.cells #[.string (txt x3.1.name), .int .i64 (x3.1.kind : Int), .int .i64 (x3.1.typ : Int), .int .u64 (x3.1.low : Int), .int .u64 (x3.1.high : Int), .slice B3 x3.1.names.length m3, .bool x3.1.must, .int .i64 (x3.1.most : Int), .slice A3 x3.2.len c3] 27)).alloc (.cells #[.string ⟨#[112, 111, 114, 116]⟩, .string ⟨#[108, 105, 109, 105, 116]⟩] 9)) := (Below.refl _ _).alloc (Nat.le_refl _) _
  have E3n := Lib.hid (E3.out.under hk)
  have X3n := Lib.hid (X3.out.below hk X3.out.lt)
  have Y3n := Lib.hid (Y3.out.below hk Y3.out.lt)
  clear hv hk
  go_wp2_with fail
  refine (M4.out _ _ _ HV3.out (HS.out _ H3n.out)).out.mono ?_
  rintro r w4 ⟨cs, rfl, hn, hB⟩
  obtain ⟨B4, m4, A4, c4, rfl⟩ := hn.shape
  have hb : Below w.heap.size w (w4.alloc (.cells #[.string (txt x4.1.name), .int .i64 (x4.1.kind : Int), .int .i64 (x4.1.typ : Int), .int .u64 (x4.1.low : Int), .int .u64 (x4.1.high : Int), .slice B4 x4.1.names.length m4, .bool x4.1.must, .int .i64 (x4.1.most : Int), .slice A4 x4.2.len c4] 27)) := (H3n.out.trans (hB.mono H3n.out.size)).alloc (Nat.le_trans H3n.out.size hB.size) _
  have hk : Below ((w3.alloc (.cells #[.string (txt x3.1.name), .int .i64 (x3.1.kind : Int), .int .i64 (x3.1.typ : Int), .int .u64 (x3.1.low : Int), .int .u64 (x3.1.high : Int), .slice B3 x3.1.names.length m3, .bool x3.1.must, .int .i64 (x3.1.most : Int), .slice A3 x3.2.len c3] 27)).alloc (.cells #[.string ⟨#[112, 111, 114, 116]⟩, .string ⟨#[108, 105, 109, 105, 116]⟩] 9)).heap.size ((w3.alloc (.cells #[.string (txt x3.1.name), .int .i64 (x3.1.kind : Int), .int .i64 (x3.1.typ : Int), .int .u64 (x3.1.low : Int), .int .u64 (x3.1.high : Int), .slice B3 x3.1.names.length m3, .bool x3.1.must, .int .i64 (x3.1.most : Int), .slice A3 x3.2.len c3] 27)).alloc (.cells #[.string ⟨#[112, 111, 114, 116]⟩, .string ⟨#[108, 105, 109, 105, 116]⟩] 9)) (w4.alloc (.cells #[.string (txt x4.1.name), .int .i64 (x4.1.kind : Int), .int .i64 (x4.1.typ : Int), .int .u64 (x4.1.low : Int), .int .u64 (x4.1.high : Int), .slice B4 x4.1.names.length m4, .bool x4.1.must, .int .i64 (x4.1.most : Int), .slice A4 x4.2.len c4] 27)) := hB.alloc hB.size _
  have H4 := Lib.hid hb
  have E4 := Lib.hid (E3n.out.under hk)
  have X4 := Lib.hid (X3n.out.below hk X3n.out.lt)
  have Y4 := Lib.hid (Y3n.out.below hk Y3n.out.lt)
  clear hn hB hb hk
  have q0 := (X4.out.cell 0).trans rfl
  have q1 := (X4.out.cell 1).trans rfl
  have q2 := (X4.out.cell 2).trans rfl
  have q3 := (X4.out.cell 3).trans rfl
  have q4 := (X4.out.cell 4).trans rfl
  have q5 := (X4.out.cell 5).trans rfl
  have q6 := (X4.out.cell 6).trans rfl
  have q7 := (X4.out.cell 7).trans rfl
  have q8 := (X4.out.cell 8).trans rfl
  go_wp2_with fail
  refine (HASK.out _ _ _ E4.out (HS.out _ H4.out)).1.out.mono ?_
  rintro r w5 ⟨rfl, hB⟩
  have H5 := Lib.hid (H4.out.trans (hB.mono H4.out.size))
  have E5 := Lib.hid (E4.out.under hB)
  have X5 := Lib.hid (X4.out.below hB X4.out.lt)
  have Y5 := Lib.hid (Y4.out.below hB Y4.out.lt)
  clear hB q0 q1 q2 q3 q4 q5 q6 q7 q8
  have q0 := (X5.out.cell 0).trans rfl
  have q1 := (X5.out.cell 1).trans rfl
  have q2 := (X5.out.cell 2).trans rfl
  have q3 := (X5.out.cell 3).trans rfl
  have q4 := (X5.out.cell 4).trans rfl
  have q5 := (X5.out.cell 5).trans rfl
  have q6 := (X5.out.cell 6).trans rfl
  have q7 := (X5.out.cell 7).trans rfl
  have q8 := (X5.out.cell 8).trans rfl
  go_wp2_with fail
  refine (HASK.out _ _ _ E5.out (HS.out _ H5.out)).2.1.out.mono ?_
  rintro r w6 ⟨rfl, hB⟩
  have H6 := Lib.hid (H5.out.trans (hB.mono H5.out.size))
  have E6 := Lib.hid (E5.out.under hB)
  have X6 := Lib.hid (X5.out.below hB X5.out.lt)
  have Y6 := Lib.hid (Y5.out.below hB Y5.out.lt)
  clear hB q0 q1 q2 q3 q4 q5 q6 q7 q8
  have q0 := (X6.out.cell 0).trans rfl
  have q1 := (X6.out.cell 1).trans rfl
  have q2 := (X6.out.cell 2).trans rfl
  have q3 := (X6.out.cell 3).trans rfl
  have q4 := (X6.out.cell 4).trans rfl
  have q5 := (X6.out.cell 5).trans rfl
  have q6 := (X6.out.cell 6).trans rfl
  have q7 := (X6.out.cell 7).trans rfl
  have q8 := (X6.out.cell 8).trans rfl
  go_wp2_with fail
  refine (HASK.out _ _ _ E6.out (HS.out _ H6.out)).2.2.1.out.mono ?_
  rintro r w7 ⟨rfl, hB⟩
  have H7 := Lib.hid (H6.out.trans (hB.mono H6.out.size))
  have E7 := Lib.hid (E6.out.under hB)
  have X7 := Lib.hid (X6.out.below hB X6.out.lt)
  have Y7 := Lib.hid (Y6.out.below hB Y6.out.lt)
  clear hB q0 q1 q2 q3 q4 q5 q6 q7 q8
  have q0 := (X7.out.cell 0).trans rfl
  have q1 := (X7.out.cell 1).trans rfl
  have q2 := (X7.out.cell 2).trans rfl
  have q3 := (X7.out.cell 3).trans rfl
  have q4 := (X7.out.cell 4).trans rfl
  have q5 := (X7.out.cell 5).trans rfl
  have q6 := (X7.out.cell 6).trans rfl
  have q7 := (X7.out.cell 7).trans rfl
  have q8 := (X7.out.cell 8).trans rfl
  go_wp2_with fail
  refine (HASK.out _ _ _ E7.out (HS.out _ H7.out)).2.2.2.1.out.mono ?_
  rintro r w8 ⟨rfl, hB⟩
  have H8 := Lib.hid (H7.out.trans (hB.mono H7.out.size))
  have E8 := Lib.hid (E7.out.under hB)
  have X8 := Lib.hid (X7.out.below hB X7.out.lt)
  have Y8 := Lib.hid (Y7.out.below hB Y7.out.lt)
  clear hB q0 q1 q2 q3 q4 q5 q6 q7 q8
  have q0 := (X8.out.cell 0).trans rfl
  have q1 := (X8.out.cell 1).trans rfl
  have q2 := (X8.out.cell 2).trans rfl
  have q3 := (X8.out.cell 3).trans rfl
  have q4 := (X8.out.cell 4).trans rfl
  have q5 := (X8.out.cell 5).trans rfl
  have q6 := (X8.out.cell 6).trans rfl
  have q7 := (X8.out.cell 7).trans rfl
  have q8 := (X8.out.cell 8).trans rfl
  go_wp2_with fail
  refine (HASK.out _ _ _ E8.out (HS.out _ H8.out)).2.2.2.2.out.mono ?_
  rintro r w9 ⟨rfl, hB⟩
  have H9 := Lib.hid (H8.out.trans (hB.mono H8.out.size))
  have E9 := Lib.hid (E8.out.under hB)
  have X9 := Lib.hid (X8.out.below hB X8.out.lt)
  have Y9 := Lib.hid (Y8.out.below hB Y8.out.lt)
  clear hB q0 q1 q2 q3 q4 q5 q6 q7 q8
  have q0 := (X9.out.cell 0).trans rfl
  have q1 := (X9.out.cell 1).trans rfl
  have q2 := (X9.out.cell 2).trans rfl
  have q3 := (X9.out.cell 3).trans rfl
  have q4 := (X9.out.cell 4).trans rfl
  have q5 := (X9.out.cell 5).trans rfl
  have q6 := (X9.out.cell 6).trans rfl
  have q7 := (X9.out.cell 7).trans rfl
  have q8 := (X9.out.cell 8).trans rfl
  have y4 := (Y9.out.cell 4).trans rfl
  have h64 := H64.out
  go_wp2
  go_ret
  exact ⟨rfl, H9.out⟩

end Go.Proofs.Ytkpbjgjflabloaa
