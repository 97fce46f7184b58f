/-
  What package spec's At answers; package spec answers as it is to. Written by wip/tools/mk07spv.py. No condition but those of each theorem.
-/
import Derived.Test.YtkpbjgjflabloaaSpvFnJ
import Derived.Test.YtkpbjgjflabloaaSpcRefG
namespace Go.Proofs.Ytkpbjgjflabloaa
open Go.RowKit
set_option linter.unusedSimpArgs false
set_option linter.unusedVariables false

/-- A fact that no tactic looks through. -/
inductive Veil (P : Prop) : Prop where
  | mk (h : P) : Veil P
theorem Veil.out {P : Prop} (h : Veil P) : P := by
  obtain ⟨h⟩ := h
  exact h
theorem Fresh.set9 {b : Nat} {w : World} {g : Nat} (h : Fresh (b + 1) w g) (x0 x1 x2 x3 x4 x5 x6 x7 x8 : Value) : Fresh b (set9 w b x0 x1 x2 x3 x4 x5 x6 x7 x8) g := by
  obtain ⟨h0, cs, t, h⟩ := h
  exact ⟨by omega, cs, t, (set9_other (by omega)).trans h⟩
theorem leaf_new {base : Nat} {w : World} {a : SpD} (h : a.names = []) : NewSp base w (spC a (.slice none 0 0) (.slice none 0 0)) (a, .nil) := ⟨fun _ => False, fun _ => False, fun g h => h.elim, fun g h => h.elim, leaf_n h⟩
set_option maxRecDepth 100000 in
set_option maxHeartbeats 2000000 in
theorem at_no (v : Int) (l : List (List UInt8)) (nv : Value) (d : Nat) (w : World) (hv : v < 1 ∨ 3 < v) (hn : Vals w d nv (txts l)) : Calls Try.prog 10 #[.int .i64 v, nv] w (SpP (atX v l) w) := by
  have hx0 : atX v l = ((zeroD, .nil), 28) := by unfold atX; rw [if_pos hv]
  have e1 : rootX v = ((zeroD, .nil), 28) := by unfold rootX; rw [if_pos hv]
  have HX := Lib.hid hx0
  obtain ⟨z, hz⟩ : ∃ z : Sp, z = (zeroD, .nil) := ⟨_, rfl⟩
  rw [← hz] at e1
  clear hx0 hz
  have NR : ∀ W, Hid (Calls Try.prog 8 #[.int .i64 v] W (fun r w' => ∃ cs, r = .returned (.tuple #[.agg cs.toArray, .int .i64 28]) ∧ NewSp W.heap.size w' cs z ∧ Below W.heap.size W w')) := fun W => Lib.hid (by have h := root_any v W; rw [e1] at h; exact h)
  obtain ⟨An, cn, e⟩ := hn.shape
  rw [txts_len] at e
  subst e
  have H0 : Hid (Below w.heap.size w (w.alloc (.cells #[.string ⟨#[]⟩, .int .i64 0, .int .i64 0, .int .u64 0, .int .u64 0, .slice none 0 0, .bool false, .int .i64 0, .slice none 0 0] 27))) := Lib.hid ((Below.refl _ _).alloc (Nat.le_refl _) _)
  have R0 : Hid (Blk (w.alloc (.cells #[.string ⟨#[]⟩, .int .i64 0, .int .i64 0, .int .u64 0, .int .u64 0, .slice none 0 0, .bool false, .int .i64 0, .slice none 0 0] 27)) w.heap.size 27 #[.string ⟨#[]⟩, .int .i64 0, .int .i64 0, .int .u64 0, .int .u64 0, .slice none 0 0, .bool false, .int .i64 0, .slice none 0 0]) := Lib.hid (Blk.new w _ _)
  clear e1 hn hv
  go_enter Try.func10, Try.ntmps10
  go_wp2_with fail
  refine (NR _).out.mono ?_
  rintro r w1 ⟨cs, rfl, hc, hB⟩
  obtain ⟨S, N, -, -, hc⟩ := hc
  obtain ⟨B, m, A, c, dn, rfl, -, -, -⟩ := hc.shape
  have H1 := Lib.hid (H0.out.trans (hB.mono H0.out.size))
  have R1 := Lib.hid (R0.out.below hB R0.out.lt)
  have R2 : Hid (Blk (w1.alloc (.cells #[.string (txt z.1.name), .int .i64 (z.1.kind : Int), .int .i64 (z.1.typ : Int), .int .u64 (z.1.low : Int), .int .u64 (z.1.high : Int), .slice B z.1.names.length m, .bool z.1.must, .int .i64 (z.1.most : Int), .slice A z.2.len c] 27)) w.heap.size 27 #[.string ⟨#[]⟩, .int .i64 0, .int .i64 0, .int .u64 0, .int .u64 0, .slice none 0 0, .bool false, .int .i64 0, .slice none 0 0]) := Lib.hid (R1.out.alloc _)
  have RE : Hid (Blk (set9 (w1.alloc (.cells #[.string (txt z.1.name), .int .i64 (z.1.kind : Int), .int .i64 (z.1.typ : Int), .int .u64 (z.1.low : Int), .int .u64 (z.1.high : Int), .slice B z.1.names.length m, .bool z.1.must, .int .i64 (z.1.most : Int), .slice A z.2.len c] 27)) w.heap.size (.string ⟨#[]⟩) (.int .i64 0) (.int .i64 0) (.int .u64 0) (.int .u64 0) (.slice none 0 0) (.bool false) (.int .i64 0) (.slice none 0 0)) w.heap.size 27 #[.string ⟨#[]⟩, .int .i64 0, .int .i64 0, .int .u64 0, .int .u64 0, .slice none 0 0, .bool false, .int .i64 0, .slice none 0 0]) := Lib.hid (R2.out.set9 _ _ _ _ _ _ _ _ _)
  have HE : Hid (Below w.heap.size w (set9 (w1.alloc (.cells #[.string (txt z.1.name), .int .i64 (z.1.kind : Int), .int .i64 (z.1.typ : Int), .int .u64 (z.1.low : Int), .int .u64 (z.1.high : Int), .slice B z.1.names.length m, .bool z.1.must, .int .i64 (z.1.most : Int), .slice A z.2.len c] 27)) w.heap.size (.string ⟨#[]⟩) (.int .i64 0) (.int .i64 0) (.int .u64 0) (.int .u64 0) (.slice none 0 0) (.bool false) (.int .i64 0) (.slice none 0 0))) := Lib.hid ((H1.out.alloc H1.out.size _).trans (set9_below (Nat.le_refl _)))
  have f0 : (w1.alloc (.cells #[.string (txt z.1.name), .int .i64 (z.1.kind : Int), .int .i64 (z.1.typ : Int), .int .u64 (z.1.low : Int), .int .u64 (z.1.high : Int), .slice B z.1.names.length m, .bool z.1.must, .int .i64 (z.1.most : Int), .slice A z.2.len c] 27)).frozen? ⟨w.heap.size, 0, none⟩ = false := R2.out.frozen 0
  have q0 := (R2.out.cell 0).trans rfl
  have f1 : (w1.alloc (.cells #[.string (txt z.1.name), .int .i64 (z.1.kind : Int), .int .i64 (z.1.typ : Int), .int .u64 (z.1.low : Int), .int .u64 (z.1.high : Int), .slice B z.1.names.length m, .bool z.1.must, .int .i64 (z.1.most : Int), .slice A z.2.len c] 27)).frozen? ⟨w.heap.size, 1, none⟩ = false := R2.out.frozen 1
  have q1 := (R2.out.cell 1).trans rfl
  have f2 : (w1.alloc (.cells #[.string (txt z.1.name), .int .i64 (z.1.kind : Int), .int .i64 (z.1.typ : Int), .int .u64 (z.1.low : Int), .int .u64 (z.1.high : Int), .slice B z.1.names.length m, .bool z.1.must, .int .i64 (z.1.most : Int), .slice A z.2.len c] 27)).frozen? ⟨w.heap.size, 2, none⟩ = false := R2.out.frozen 2
  have q2 := (R2.out.cell 2).trans rfl
  have f3 : (w1.alloc (.cells #[.string (txt z.1.name), .int .i64 (z.1.kind : Int), .int .i64 (z.1.typ : Int), .int .u64 (z.1.low : Int), .int .u64 (z.1.high : Int), .slice B z.1.names.length m, .bool z.1.must, .int .i64 (z.1.most : Int), .slice A z.2.len c] 27)).frozen? ⟨w.heap.size, 3, none⟩ = false := R2.out.frozen 3
  have q3 := (R2.out.cell 3).trans rfl
  have f4 : (w1.alloc (.cells #[.string (txt z.1.name), .int .i64 (z.1.kind : Int), .int .i64 (z.1.typ : Int), .int .u64 (z.1.low : Int), .int .u64 (z.1.high : Int), .slice B z.1.names.length m, .bool z.1.must, .int .i64 (z.1.most : Int), .slice A z.2.len c] 27)).frozen? ⟨w.heap.size, 4, none⟩ = false := R2.out.frozen 4
  have q4 := (R2.out.cell 4).trans rfl
  have f5 : (w1.alloc (.cells #[.string (txt z.1.name), .int .i64 (z.1.kind : Int), .int .i64 (z.1.typ : Int), .int .u64 (z.1.low : Int), .int .u64 (z.1.high : Int), .slice B z.1.names.length m, .bool z.1.must, .int .i64 (z.1.most : Int), .slice A z.2.len c] 27)).frozen? ⟨w.heap.size, 5, none⟩ = false := R2.out.frozen 5
  have q5 := (R2.out.cell 5).trans rfl
  have f6 : (w1.alloc (.cells #[.string (txt z.1.name), .int .i64 (z.1.kind : Int), .int .i64 (z.1.typ : Int), .int .u64 (z.1.low : Int), .int .u64 (z.1.high : Int), .slice B z.1.names.length m, .bool z.1.must, .int .i64 (z.1.most : Int), .slice A z.2.len c] 27)).frozen? ⟨w.heap.size, 6, none⟩ = false := R2.out.frozen 6
  have q6 := (R2.out.cell 6).trans rfl
  have f7 : (w1.alloc (.cells #[.string (txt z.1.name), .int .i64 (z.1.kind : Int), .int .i64 (z.1.typ : Int), .int .u64 (z.1.low : Int), .int .u64 (z.1.high : Int), .slice B z.1.names.length m, .bool z.1.must, .int .i64 (z.1.most : Int), .slice A z.2.len c] 27)).frozen? ⟨w.heap.size, 7, none⟩ = false := R2.out.frozen 7
  have q7 := (R2.out.cell 7).trans rfl
  have f8 : (w1.alloc (.cells #[.string (txt z.1.name), .int .i64 (z.1.kind : Int), .int .i64 (z.1.typ : Int), .int .u64 (z.1.low : Int), .int .u64 (z.1.high : Int), .slice B z.1.names.length m, .bool z.1.must, .int .i64 (z.1.most : Int), .slice A z.2.len c] 27)).frozen? ⟨w.heap.size, 8, none⟩ = false := R2.out.frozen 8
  have q8 := (R2.out.cell 8).trans rfl
  clear hB hc R1 R0 H0 H1 NR R2
  go_wp2
  refine bodyPost_ret (res_cell_tmp rfl _ _ w.heap.size 27 _ (0, 0) _ rfl RE.out Try.underlying27 rfl (by kernel_rfl)) rfl ?_
  exact ⟨spC zeroD (.slice none 0 0) (.slice none 0 0), by rw [HX.out]; rfl, by rw [HX.out]; exact leaf_new rfl, HE.out⟩
set_option maxRecDepth 100000 in
set_option maxHeartbeats 4000000 in
theorem at_in (v : Int) (l : List (List UInt8)) (nv : Value) (d : Nat) (w : World) (h1 : 1 ≤ v) (h3 : v ≤ 3) (hn : Vals w d nv (txts l)) (hl : l.length ≤ 1000000) : Calls Try.prog 10 #[.int .i64 v, nv] w (SpP (atX v l) w) := by
  have hno : ¬ (v < 1 ∨ 3 < v) := by omega
  have HAT : Hid (atX v l = match downX (rootD, rootF v.toNat) l with | none => ((zeroD, .nil), 22) | some x => (x, 0)) := Lib.hid (by unfold atX; rw [if_neg hno]; cases downX (rootD, rootF v.toNat) l <;> rfl)
  have e1 : rootX v = ((rootD, rootF v.toNat), 0) := by unfold rootX; rw [if_neg hno]
  have NR : ∀ W, Hid (Calls Try.prog 8 #[.int .i64 v] W (fun r w' => ∃ cs, r = .returned (.tuple #[.agg cs.toArray, .int .i64 0]) ∧ NewSp W.heap.size w' cs (rootD, rootF v.toNat) ∧ Below W.heap.size W w')) := fun W => Lib.hid (by have h := root_any v W; rw [e1] at h; exact h)
  have HSM : Hid (∀ m x, downX (rootD, rootF v.toNat) m = some x → x.2.len ≤ 7) := Lib.hid (fun m x h => small_at h1 h3 h)
  obtain ⟨An, cn, e⟩ := hn.shape
  rw [txts_len] at e
  subst e
  have H0 : Hid (Below w.heap.size w (w.alloc (.cells #[.string ⟨#[]⟩, .int .i64 0, .int .i64 0, .int .u64 0, .int .u64 0, .slice none 0 0, .bool false, .int .i64 0, .slice none 0 0] 27))) := Lib.hid ((Below.refl _ _).alloc (Nat.le_refl _) _)
  have R0 : Hid (Blk (w.alloc (.cells #[.string ⟨#[]⟩, .int .i64 0, .int .i64 0, .int .u64 0, .int .u64 0, .slice none 0 0, .bool false, .int .i64 0, .slice none 0 0] 27)) w.heap.size 27 #[.string ⟨#[]⟩, .int .i64 0, .int .i64 0, .int .u64 0, .int .u64 0, .slice none 0 0, .bool false, .int .i64 0, .slice none 0 0]) := Lib.hid (Blk.new w _ _)
  have S0 : Hid ((w.alloc (.cells #[.string ⟨#[]⟩, .int .i64 0, .int .i64 0, .int .u64 0, .int .u64 0, .slice none 0 0, .bool false, .int .i64 0, .slice none 0 0] 27)).heap.size = w.heap.size + 1) := Lib.hid (by simp)
  have HN := Lib.hid hn
  clear hno e1 hn h1 h3
  go_enter Try.func10, Try.ntmps10
  go_wp2_with fail
  refine (NR _).out.mono ?_
  rintro r w1 ⟨cs, rfl, hc, hB⟩
  obtain ⟨S, N, hSF, hNF, hc⟩ := hc
  obtain ⟨B, m, A, c, dn, rfl, -, -, -⟩ := hc.shape
  have H1 := Lib.hid (H0.out.trans (hB.mono H0.out.size))
  have R1 := Lib.hid (R0.out.below hB R0.out.lt)
  have HSF : Hid (∀ g, S g → Fresh (w.heap.size + 1) w1 g) := Lib.hid (fun g hg => by have := hSF g hg; rw [S0.out] at this; exact this)
  have HNF : Hid (∀ g, N g → Fresh (w.heap.size + 1) w1 g ∧ ¬ S g) := Lib.hid (fun g hg => by have := hNF g hg; rw [S0.out] at this; exact this)
  have K1 : Hid (SpN w1 S N [.string (txt rootD.name), .int .i64 (rootD.kind : Int), .int .i64 (rootD.typ : Int), .int .u64 (rootD.low : Int), .int .u64 (rootD.high : Int), .slice B rootD.names.length m, .bool rootD.must, .int .i64 (rootD.most : Int), .slice A (rootF v.toNat).len c] (rootD, rootF v.toNat)) := Lib.hid hc
  clear hB hc hSF hNF
  go_wp2
  have W2 : Hid (Below w1.heap.size w1 (w1.alloc (.cells #[.string (txt rootD.name), .int .i64 (rootD.kind : Int), .int .i64 (rootD.typ : Int), .int .u64 (rootD.low : Int), .int .u64 (rootD.high : Int), .slice B rootD.names.length m, .bool rootD.must, .int .i64 (rootD.most : Int), .slice A (rootF v.toNat).len c] 27))) := Lib.hid ((Below.refl _ _).alloc (Nat.le_refl _) _)
  have R2 : Hid (Blk (w1.alloc (.cells #[.string (txt rootD.name), .int .i64 (rootD.kind : Int), .int .i64 (rootD.typ : Int), .int .u64 (rootD.low : Int), .int .u64 (rootD.high : Int), .slice B rootD.names.length m, .bool rootD.must, .int .i64 (rootD.most : Int), .slice A (rootF v.toNat).len c] 27)) w.heap.size 27 #[.string ⟨#[]⟩, .int .i64 0, .int .i64 0, .int .u64 0, .int .u64 0, .slice none 0 0, .bool false, .int .i64 0, .slice none 0 0]) := Lib.hid (R1.out.alloc _)
  have X2 : Hid (Blk (w1.alloc (.cells #[.string (txt rootD.name), .int .i64 (rootD.kind : Int), .int .i64 (rootD.typ : Int), .int .u64 (rootD.low : Int), .int .u64 (rootD.high : Int), .slice B rootD.names.length m, .bool rootD.must, .int .i64 (rootD.most : Int), .slice A (rootF v.toNat).len c] 27)) w1.heap.size 27 #[.string (txt rootD.name), .int .i64 (rootD.kind : Int), .int .i64 (rootD.typ : Int), .int .u64 (rootD.low : Int), .int .u64 (rootD.high : Int), .slice B rootD.names.length m, .bool rootD.must, .int .i64 (rootD.most : Int), .slice A (rootF v.toNat).len c]) := Lib.hid (Blk.new w1 _ _)
  have K2 : Hid (SpN (w1.alloc (.cells #[.string (txt rootD.name), .int .i64 (rootD.kind : Int), .int .i64 (rootD.typ : Int), .int .u64 (rootD.low : Int), .int .u64 (rootD.high : Int), .slice B rootD.names.length m, .bool rootD.must, .int .i64 (rootD.most : Int), .slice A (rootF v.toNat).len c] 27)) S N [.string (txt rootD.name), .int .i64 (rootD.kind : Int), .int .i64 (rootD.typ : Int), .int .u64 (rootD.low : Int), .int .u64 (rootD.high : Int), .slice B rootD.names.length m, .bool rootD.must, .int .i64 (rootD.most : Int), .slice A (rootF v.toNat).len c] (rootD, rootF v.toNat)) := Lib.hid (K1.out.under W2.out (fun g hg => (HSF.out g hg).lt) (fun g hg => (HNF.out g hg).1.lt))
  have Z2 : Hid (w.heap.size < w1.heap.size) := Lib.hid R1.out.lt
  go_loopw [22] (fun i wr => ∃ (k : Nat) (x : Sp) (cs : List Value), k ≤ l.length ∧ i = .int .i64 (k : Int) ∧ Hid (downX (rootD, rootF v.toNat) (l.take k) = some x) ∧ Hid (Blk wr w1.heap.size 27 cs.toArray) ∧ Hid (Blk wr w.heap.size 27 #[.string ⟨#[]⟩, .int .i64 0, .int .i64 0, .int .u64 0, .int .u64 0, .slice none 0 0, .bool false, .int .i64 0, .slice none 0 0]) ∧
    Hid (SpN wr S N cs x) ∧ Hid (Below w1.heap.size w1 wr)) (fun i _ => l.length - (intOf i).toNat)
  case atStart => exact ⟨0, (rootD, rootF v.toNat), _, Nat.zero_le _, rfl, Lib.hid rfl, X2, R2, K2, W2⟩
  case round =>
    obtain ⟨k, x, cs, hk, rfl, HD, HX, HR, HK, HBW⟩ := hrel
    obtain ⟨B, m, A, c, dn, rfl, -, -, hkv⟩ := HK.out.shape
    have HF := Lib.hid hkv
    clear hkv
    have HB : Hid (Below w.heap.size w wr) := Lib.hid (H1.out.trans (HBW.out.mono H1.out.size))
    have HSL : Hid (∀ g, S g → g < wr.heap.size ∧ g ≠ w1.heap.size ∧ g ≠ w.heap.size) := Lib.hid (fun g hg => by have a1 := (HSF.out g hg).lt; have a2 := (HSF.out g hg).1; have := HBW.out.size; omega)
    have HNL : Hid (∀ g, N g → g < wr.heap.size ∧ g ≠ w1.heap.size ∧ g ≠ w.heap.size) := Lib.hid (fun g hg => by have a1 := (HNF.out g hg).1.lt; have a2 := (HNF.out g hg).1.1; have := HBW.out.size; omega)
    by_cases hlt : k < l.length
    · obtain ⟨n, hn⟩ : ∃ n, l[k]? = some n := ⟨_, List.getElem?_eq_getElem hlt⟩
      obtain ⟨o, rfl, hda, -, -, hcn⟩ := HN.out.at (txts_at hn)
      have HD1 := Lib.hid (down_step HD.out hn)
      have i1 : (0 : Int) ≤ (k : Int) := by omega
      have i2 : (k : Int) < (l.length : Int) := by omega
      have HC := Lib.hid (find_any n S N _ x wr HK.out (fun g hg => (HSL.out g hg).1) (fun g hg => (HNL.out g hg).1) (Nat.le_trans (HSM.out _ _ HD.out) (by omega)))
      have hcw : wr.cell? ⟨d, o + k, none⟩ = some (.string (txt n)) := (HB.out.cell (p := ⟨d, o + k, none⟩) hda).trans hcn
      have q0 := (HX.out.cell 0).trans rfl
      have q1 := (HX.out.cell 1).trans rfl
      have q2 := (HX.out.cell 2).trans rfl
      have q3 := (HX.out.cell 3).trans rfl
      have q4 := (HX.out.cell 4).trans rfl
      have q5 := (HX.out.cell 5).trans rfl
      have q6 := (HX.out.cell 6).trans rfl
      have q7 := (HX.out.cell 7).trans rfl
      have q8 := (HX.out.cell 8).trans rfl
      clear hn hcn hda
      go_wp2_with fail
      refine HC.out.mono ?_
      rintro r w3 ⟨rfl, hb3⟩
      have HB3 := Lib.hid (HBW.out.trans (hb3.mono HBW.out.size))
      have HX3 := Lib.hid (HX.out.below hb3 HX.out.lt)
      have HR3 := Lib.hid (HR.out.below hb3 HR.out.lt)
      have HF3 := Lib.hid (HF.out.under hb3 (fun g hg => (HSL.out g hg).1) (fun g hg => (HNL.out g hg).1))
      clear hb3 hcw q0 q1 q2 q3 q4 q5 q6 q7 q8
      cases hf : findX n x.2 with
      | none =>
        have e : findI n x.2 = -1 := by unfold findI; rw [hf]
        have HV : Hid (atX v l = ((zeroD, .nil), 22)) := Lib.hid (by rw [HAT.out, down_stop (k := k + 1) (by rw [HD1.out]; unfold downX; rw [hf])])
        have RE : Hid (Blk (set9 w3 w.heap.size (.string ⟨#[]⟩) (.int .i64 0) (.int .i64 0) (.int .u64 0) (.int .u64 0) (.slice none 0 0) (.bool false) (.int .i64 0) (.slice none 0 0)) w.heap.size 27 #[.string ⟨#[]⟩, .int .i64 0, .int .i64 0, .int .u64 0, .int .u64 0, .slice none 0 0, .bool false, .int .i64 0, .slice none 0 0]) := Lib.hid (HR3.out.set9 _ _ _ _ _ _ _ _ _)
        have HE : Hid (Below w.heap.size w (set9 w3 w.heap.size (.string ⟨#[]⟩) (.int .i64 0) (.int .i64 0) (.int .u64 0) (.int .u64 0) (.slice none 0 0) (.bool false) (.int .i64 0) (.slice none 0 0))) := Lib.hid ((H1.out.trans (HB3.out.mono H1.out.size)).trans (set9_below (Nat.le_refl _)))
        rw [e]
        have f0 : w3.frozen? ⟨w.heap.size, 0, none⟩ = false := HR3.out.frozen 0
        have q0 := (HR3.out.cell 0).trans rfl
        have f1 : w3.frozen? ⟨w.heap.size, 1, none⟩ = false := HR3.out.frozen 1
        have q1 := (HR3.out.cell 1).trans rfl
        have f2 : w3.frozen? ⟨w.heap.size, 2, none⟩ = false := HR3.out.frozen 2
        have q2 := (HR3.out.cell 2).trans rfl
        have f3 : w3.frozen? ⟨w.heap.size, 3, none⟩ = false := HR3.out.frozen 3
        have q3 := (HR3.out.cell 3).trans rfl
        have f4 : w3.frozen? ⟨w.heap.size, 4, none⟩ = false := HR3.out.frozen 4
        have q4 := (HR3.out.cell 4).trans rfl
        have f5 : w3.frozen? ⟨w.heap.size, 5, none⟩ = false := HR3.out.frozen 5
        have q5 := (HR3.out.cell 5).trans rfl
        have f6 : w3.frozen? ⟨w.heap.size, 6, none⟩ = false := HR3.out.frozen 6
        have q6 := (HR3.out.cell 6).trans rfl
        have f7 : w3.frozen? ⟨w.heap.size, 7, none⟩ = false := HR3.out.frozen 7
        have q7 := (HR3.out.cell 7).trans rfl
        have f8 : w3.frozen? ⟨w.heap.size, 8, none⟩ = false := HR3.out.frozen 8
        have q8 := (HR3.out.cell 8).trans rfl
        clear hf e
        go_wp2
        refine bodyPost_ret (res_cell_tmp rfl _ _ w.heap.size 27 _ (0, 0) _ rfl RE.out Try.underlying27 rfl (by kernel_rfl)) rfl ?_
        exact ⟨spC zeroD (.slice none 0 0) (.slice none 0 0), by rw [HV.out]; rfl, by rw [HV.out]; exact leaf_new rfl, HE.out⟩
      | some j =>
        have e : findI n x.2 = (j : Int) := by unfold findI; rw [hf]
        obtain ⟨⟨a, q⟩, hg, -, -⟩ := find_some hf
        have HD2 : Hid (downX (rootD, rootF v.toNat) (l.take (k + 1)) = some (a, q)) := Lib.hid (by rw [HD1.out]; unfold downX; rw [hf]; simp only [hg]; rfl)
        obtain ⟨b', o', c', cs', ee, -, hSb, hN, hcl⟩ := HF3.out.at hg
        injection ee with e1 e2 e3
        subst e1 e3
        have hlj := Fr.get_lt hg
        have hsh := SpN.shape (x := (a, q)) hN
        have HKN := Lib.hid hN
        obtain ⟨B', m', A', c'', d', rfl, -, -, -⟩ := hsh
        have j1 : (0 : Int) ≤ (j : Int) := by omega
        have j2 : (j : Int) < (x.2.len : Int) := by omega
        have j3 : ¬ (j : Int) < 0 := by omega
        have v0 : w3.cell? ⟨b', o' + j * 9, none⟩ = some (.string (txt a.name)) := hcl 0 _ rfl
        have v1 : w3.cell? ⟨b', o' + j * 9 + 1, none⟩ = some (.int .i64 (a.kind : Int)) := hcl 1 _ rfl
        have v2 : w3.cell? ⟨b', o' + j * 9 + 2, none⟩ = some (.int .i64 (a.typ : Int)) := hcl 2 _ rfl
        have v3 : w3.cell? ⟨b', o' + j * 9 + 3, none⟩ = some (.int .u64 (a.low : Int)) := hcl 3 _ rfl
        have v4 : w3.cell? ⟨b', o' + j * 9 + 4, none⟩ = some (.int .u64 (a.high : Int)) := hcl 4 _ rfl
        have v5 : w3.cell? ⟨b', o' + j * 9 + 5, none⟩ = some (.slice B' a.names.length m') := hcl 5 _ rfl
        have v6 : w3.cell? ⟨b', o' + j * 9 + 6, none⟩ = some (.bool a.must) := hcl 6 _ rfl
        have v7 : w3.cell? ⟨b', o' + j * 9 + 7, none⟩ = some (.int .i64 (a.most : Int)) := hcl 7 _ rfl
        have v8 : w3.cell? ⟨b', o' + j * 9 + 8, none⟩ = some (.slice A' q.len c'') := hcl 8 _ rfl
        have HX4 : Hid (Blk (set9 w3 w1.heap.size (.string (txt a.name)) (.int .i64 (a.kind : Int)) (.int .i64 (a.typ : Int)) (.int .u64 (a.low : Int)) (.int .u64 (a.high : Int)) (.slice B' a.names.length m') (.bool a.must) (.int .i64 (a.most : Int)) (.slice A' q.len c'')) w1.heap.size 27 #[.string (txt a.name), .int .i64 (a.kind : Int), .int .i64 (a.typ : Int), .int .u64 (a.low : Int), .int .u64 (a.high : Int), .slice B' a.names.length m', .bool a.must, .int .i64 (a.most : Int), .slice A' q.len c'']) := Lib.hid (HX3.out.set9 _ _ _ _ _ _ _ _ _)
        have HR4 : Hid (Blk (set9 w3 w1.heap.size (.string (txt a.name)) (.int .i64 (a.kind : Int)) (.int .i64 (a.typ : Int)) (.int .u64 (a.low : Int)) (.int .u64 (a.high : Int)) (.slice B' a.names.length m') (.bool a.must) (.int .i64 (a.most : Int)) (.slice A' q.len c'')) w.heap.size 27 #[.string ⟨#[]⟩, .int .i64 0, .int .i64 0, .int .u64 0, .int .u64 0, .slice none 0 0, .bool false, .int .i64 0, .slice none 0 0]) := Lib.hid ((set9_other (Nat.ne_of_lt Z2.out)).trans HR3.out)
        have HK4 : Hid (SpN (set9 w3 w1.heap.size (.string (txt a.name)) (.int .i64 (a.kind : Int)) (.int .i64 (a.typ : Int)) (.int .u64 (a.low : Int)) (.int .u64 (a.high : Int)) (.slice B' a.names.length m') (.bool a.must) (.int .i64 (a.most : Int)) (.slice A' q.len c'')) S N [.string (txt a.name), .int .i64 (a.kind : Int), .int .i64 (a.typ : Int), .int .u64 (a.low : Int), .int .u64 (a.high : Int), .slice B' a.names.length m', .bool a.must, .int .i64 (a.most : Int), .slice A' q.len c''] (a, q)) := Lib.hid (SpN.apart HKN.out (fun g hg => set9_other (HSL.out g hg).2.1) (fun g hg => set9_other (HNL.out g hg).2.1))
        have HB4 : Hid (Below w1.heap.size w1 (set9 w3 w1.heap.size (.string (txt a.name)) (.int .i64 (a.kind : Int)) (.int .i64 (a.typ : Int)) (.int .u64 (a.low : Int)) (.int .u64 (a.high : Int)) (.slice B' a.names.length m') (.bool a.must) (.int .i64 (a.most : Int)) (.slice A' q.len c''))) := Lib.hid (HB3.out.trans (set9_below (Nat.le_refl _)))
        rw [e]
        have f0 : w3.frozen? ⟨w1.heap.size, 0, none⟩ = false := HX3.out.frozen 0
        have q0 := (HX3.out.cell 0).trans rfl
        have f1 : w3.frozen? ⟨w1.heap.size, 1, none⟩ = false := HX3.out.frozen 1
        have q1 := (HX3.out.cell 1).trans rfl
        have f2 : w3.frozen? ⟨w1.heap.size, 2, none⟩ = false := HX3.out.frozen 2
        have q2 := (HX3.out.cell 2).trans rfl
        have f3 : w3.frozen? ⟨w1.heap.size, 3, none⟩ = false := HX3.out.frozen 3
        have q3 := (HX3.out.cell 3).trans rfl
        have f4 : w3.frozen? ⟨w1.heap.size, 4, none⟩ = false := HX3.out.frozen 4
        have q4 := (HX3.out.cell 4).trans rfl
        have f5 : w3.frozen? ⟨w1.heap.size, 5, none⟩ = false := HX3.out.frozen 5
        have q5 := (HX3.out.cell 5).trans rfl
        have f6 : w3.frozen? ⟨w1.heap.size, 6, none⟩ = false := HX3.out.frozen 6
        have q6 := (HX3.out.cell 6).trans rfl
        have f7 : w3.frozen? ⟨w1.heap.size, 7, none⟩ = false := HX3.out.frozen 7
        have q7 := (HX3.out.cell 7).trans rfl
        have f8 : w3.frozen? ⟨w1.heap.size, 8, none⟩ = false := HX3.out.frozen 8
        have q8 := (HX3.out.cell 8).trans rfl
        clear hf e hg hN hcl hSb e2 hlj HKN HF3 HK HF HC HX HR HSL HNL HX3 HR3
        have HV4 := Veil.mk (And.intro HX4.out HR4.out)
        clear HX4 HR4
        go_wp2
        go_roundw
        case rel => exact ⟨k + 1, (a, q), _, by omega, by go_num, HD2, Lib.hid HV4.out.1, Lib.hid HV4.out.2, HK4, HB4⟩
        case measure => simp [intOf]; omega
    · obtain rfl : k = l.length := by omega
      have HV : Hid (atX v l = (x, 0)) := Lib.hid (by rw [HAT.out]; have h := HD.out; rw [List.take_length] at h; rw [h])
      have i2 : ¬ (l.length : Int) < (l.length : Int) := by omega
      have RE : Hid (Blk (set9 wr w.heap.size (.string (txt x.1.name)) (.int .i64 (x.1.kind : Int)) (.int .i64 (x.1.typ : Int)) (.int .u64 (x.1.low : Int)) (.int .u64 (x.1.high : Int)) (.slice B x.1.names.length m) (.bool x.1.must) (.int .i64 (x.1.most : Int)) (.slice A x.2.len c)) w.heap.size 27 #[.string (txt x.1.name), .int .i64 (x.1.kind : Int), .int .i64 (x.1.typ : Int), .int .u64 (x.1.low : Int), .int .u64 (x.1.high : Int), .slice B x.1.names.length m, .bool x.1.must, .int .i64 (x.1.most : Int), .slice A x.2.len c]) := Lib.hid (HR.out.set9 _ _ _ _ _ _ _ _ _)
      have HE : Hid (Below w.heap.size w (set9 wr w.heap.size (.string (txt x.1.name)) (.int .i64 (x.1.kind : Int)) (.int .i64 (x.1.typ : Int)) (.int .u64 (x.1.low : Int)) (.int .u64 (x.1.high : Int)) (.slice B x.1.names.length m) (.bool x.1.must) (.int .i64 (x.1.most : Int)) (.slice A x.2.len c))) := Lib.hid (HB.out.trans (set9_below (Nat.le_refl _)))
      have KE : Hid (NewSp w.heap.size (set9 wr w.heap.size (.string (txt x.1.name)) (.int .i64 (x.1.kind : Int)) (.int .i64 (x.1.typ : Int)) (.int .u64 (x.1.low : Int)) (.int .u64 (x.1.high : Int)) (.slice B x.1.names.length m) (.bool x.1.must) (.int .i64 (x.1.most : Int)) (.slice A x.2.len c)) [.string (txt x.1.name), .int .i64 (x.1.kind : Int), .int .i64 (x.1.typ : Int), .int .u64 (x.1.low : Int), .int .u64 (x.1.high : Int), .slice B x.1.names.length m, .bool x.1.must, .int .i64 (x.1.most : Int), .slice A x.2.len c] x) := Lib.hid ⟨S, N, fun g hg => ((HSF.out g hg).below HBW.out).set9 _ _ _ _ _ _ _ _ _, fun g hg => ⟨((HNF.out g hg).1.below HBW.out).set9 _ _ _ _ _ _ _ _ _, (HNF.out g hg).2⟩, SpN.apart HK.out (fun g hg => set9_other (HSL.out g hg).2.2) (fun g hg => set9_other (HNL.out g hg).2.2)⟩
      clear hlt
      have q0 := (HX.out.cell 0).trans rfl
      have q1 := (HX.out.cell 1).trans rfl
      have q2 := (HX.out.cell 2).trans rfl
      have q3 := (HX.out.cell 3).trans rfl
      have q4 := (HX.out.cell 4).trans rfl
      have q5 := (HX.out.cell 5).trans rfl
      have q6 := (HX.out.cell 6).trans rfl
      have q7 := (HX.out.cell 7).trans rfl
      have q8 := (HX.out.cell 8).trans rfl
      have f0 : wr.frozen? ⟨w.heap.size, 0, none⟩ = false := HR.out.frozen 0
      have r0 := (HR.out.cell 0).trans rfl
      have f1 : wr.frozen? ⟨w.heap.size, 1, none⟩ = false := HR.out.frozen 1
      have r1 := (HR.out.cell 1).trans rfl
      have f2 : wr.frozen? ⟨w.heap.size, 2, none⟩ = false := HR.out.frozen 2
      have r2 := (HR.out.cell 2).trans rfl
      have f3 : wr.frozen? ⟨w.heap.size, 3, none⟩ = false := HR.out.frozen 3
      have r3 := (HR.out.cell 3).trans rfl
      have f4 : wr.frozen? ⟨w.heap.size, 4, none⟩ = false := HR.out.frozen 4
      have r4 := (HR.out.cell 4).trans rfl
      have f5 : wr.frozen? ⟨w.heap.size, 5, none⟩ = false := HR.out.frozen 5
      have r5 := (HR.out.cell 5).trans rfl
      have f6 : wr.frozen? ⟨w.heap.size, 6, none⟩ = false := HR.out.frozen 6
      have r6 := (HR.out.cell 6).trans rfl
      have f7 : wr.frozen? ⟨w.heap.size, 7, none⟩ = false := HR.out.frozen 7
      have r7 := (HR.out.cell 7).trans rfl
      have f8 : wr.frozen? ⟨w.heap.size, 8, none⟩ = false := HR.out.frozen 8
      have r8 := (HR.out.cell 8).trans rfl
      go_wp2
      refine bodyPost_ret (res_cell_tmp rfl _ _ w.heap.size 27 _ (0, 0) _ rfl RE.out Try.underlying27 rfl (by kernel_rfl)) rfl ?_
      exact ⟨_, by rw [HV.out]; rfl, by rw [HV.out]; exact KE.out, HE.out⟩
/-- PACKAGE SPEC ANSWERS AS IT IS TO. -/
theorem spcC (W0 : World) : SpcC W0 where
  root := fun v w _ _ _ => root_any v w
  at_ := fun v l d nv w _ _ hl hn _ => by
    by_cases h : v < 1 ∨ 3 < v
    · exact at_no v l nv d w h hn
    · exact at_in v l nv d w (by omega) (by omega) hn hl
  find := findC W0
  tag := fun i S N cs x w h0 h1 hx hS hl _ => tag_any i S N cs x w h0 h1 hx hS hl
  kid := fun t S N cs x w ht hx hS hl _ => kid_any t S _ cs x w hx.lim hS (fun g hg => hg.2) hl

end Go.Proofs.Ytkpbjgjflabloaa
