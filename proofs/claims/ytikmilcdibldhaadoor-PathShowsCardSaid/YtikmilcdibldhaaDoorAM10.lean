/- PthRefB -/
import Derived.Test.YtikmilcdibldhaaDoorAM0
import Derived.Test.YtikmilcdibldhaaDoorAM4
import Derived.Test.YtikmilcdibldhaaDoorAM9
import Derived.Deep.DeepCutAuto
set_option linter.unusedSimpArgs false
set_option linter.unusedVariables false
namespace Go.Proofs.YtikmilcdibldhaaDoor
open Go.RowKit
theorem drop_step {l : List Stp} {k : Nat} {s : Stp} (h : l[k]? = some s) : l.drop k = s :: l.drop (k + 1) := by
 have hk : k < l.length := (List.getElem?_eq_some_iff.1 h).1
 rw [List.drop_eq_getElem_cons hk]
 rw [List.getElem?_eq_getElem hk] at h
 injection h with h
 rw [h]
theorem goA_err {R : Sp × Nat} {x : Sp} {s : Stp} {l : List Stp} {e : Nat} (h : R = goA x (s :: l)) (hs : goS x s = .inr e) : R = ((zeroD, .nil), e) := by rw [h]; unfold goA; rw [hs]
theorem goA_go {R : Sp × Nat} {x y : Sp} {s : Stp} {l : List Stp} (h : R = goA x (s :: l)) (hs : goS x s = .inl y) : R = goA y l := by
 rw [h]
 show (match goS x s with | .inr e => ((zeroD, .nil), e) | .inl y => goA y l) = goA y l
 rw [hs]
theorem goS_none {x : Sp} {s : Stp} (h : findX s.1 x.2 = none) : goS x s = .inr 22 := by unfold goS; rw [h]
theorem goS_bad {x y : Sp} {s : Stp} {i : Nat} (h : findX s.1 x.2 = some i) (hg : x.2.get? i = some y) (hb : (y.1.kind = 3 ∧ identX s.2 = false) ∨ (y.1.kind ≠ 3 ∧ s.2 ≠ [])) : goS x s = .inr 23 := by
 unfold goS
 rw [h]
 simp only
 rw [hg]
 simp only
 rw [if_pos hb]
theorem goS_ok {x y : Sp} {s : Stp} {i : Nat} (h : findX s.1 x.2 = some i) (hg : x.2.get? i = some y) (hb : ¬ ((y.1.kind = 3 ∧ identX s.2 = false) ∨ (y.1.kind ≠ 3 ∧ s.2 ≠ []))) : goS x s = .inl y := by
 unfold goS
 rw [h]
 simp only
 rw [hg]
 simp only
 rw [if_neg hb]
def InV (v : Int) (x : Sp) : Prop := x = (rootD, rootF v.toNat) ∨ x ∈ inner (rootF v.toNat)
theorem InV.get {v : Int} {x y : Sp} {i : Nat} (h : InV v x) (hg : x.2.get? i = some y) : InV v y := by
 have hy := inner_get hg
 rcases h with rfl | h
 ·exact .inr hy
 ·exact .inr (inner_in h hy)
set_option maxRecDepth 100000 in
set_option maxHeartbeats 4000000 in
theorem rat15_no (v : Int) (l : List Stp) (nv : Value) (w : World) (hv : v < 1 ∨ 3 < v) (hn : WayV w.heap.size w nv l) : Calls Tryd.prog 13 #[.int .i64 v, nv] w (RSpP (atP v l) w) := by
 have hx0 : atP v l = ((zeroD, .nil), 28) := by unfold atP; rw [if_pos hv]
 have e1 : rootX v = ((zeroD, .nil), 28) := by unfold rootX; rw [if_pos hv]
 obtain ⟨z, hz⟩ : ∃ z : Sp, z = (zeroD, .nil) := ⟨_, rfl⟩
 rw [← hz] at hx0 e1
 clear hz
 have HX := Lib.hid hx0
 clear hx0
 have NR : ∀ W, Hid (Calls Tryd.prog 28 #[.int .i64 v] W (fun r w' => ∃ cs, r = .returned (.tuple #[.agg cs.toArray, .int .i64 28]) ∧ SpN w' (Rng W.heap.size w'.heap.size) (Rng W.heap.size w'.heap.size) cs z ∧ Below W.heap.size W w')) := fun W => Lib.hid (by have h := rroot_any v W; rw [e1] at h; exact h)
 obtain ⟨An, cn, rfl⟩ := hn.shape
 have H0 : Hid (Below w.heap.size w (w.alloc (.cells #[.string ⟨#[]⟩, .int .i64 0, .int .i64 0, .int .u64 0, .int .u64 0, .slice none 0 0, .bool false, .int .i64 0, .slice none 0 0] 39))) := Lib.hid ((Below.refl _ _).alloc (Nat.le_refl _) _)
 have R0 : Hid (Blk (w.alloc (.cells #[.string ⟨#[]⟩, .int .i64 0, .int .i64 0, .int .u64 0, .int .u64 0, .slice none 0 0, .bool false, .int .i64 0, .slice none 0 0] 39)) w.heap.size 39 #[.string ⟨#[]⟩, .int .i64 0, .int .i64 0, .int .u64 0, .int .u64 0, .slice none 0 0, .bool false, .int .i64 0, .slice none 0 0]) := Lib.hid (Blk.new w _ _)
 clear e1 hn hv
 go_enter Tryd.func13, Tryd.ntmps13
 go_wp2_with fail
 refine (NR _).out.mono ?_
 rintro r w1 ⟨cs, rfl, hc, hB⟩
 obtain ⟨B, m, A, c, dn, rfl, -, -, -⟩ := hc.shape
 have H1 := Lib.hid (H0.out.trans (hB.mono H0.out.size))
 have R1 := Lib.hid (R0.out.below hB R0.out.lt)
 have K1 : Hid (SpN w1 (Rng (w.alloc (.cells #[.string ⟨#[]⟩, .int .i64 0, .int .i64 0, .int .u64 0, .int .u64 0, .slice none 0 0, .bool false, .int .i64 0, .slice none 0 0] 39)).heap.size w1.heap.size) (Rng (w.alloc (.cells #[.string ⟨#[]⟩, .int .i64 0, .int .i64 0, .int .u64 0, .int .u64 0, .slice none 0 0, .bool false, .int .i64 0, .slice none 0 0] 39)).heap.size w1.heap.size) [.string (txt z.1.name), .int .i64 (z.1.kind : Int), .int .i64 (z.1.typ : Int), .int .u64 (z.1.low : Int), .int .u64 (z.1.high : Int), .slice B z.1.names.length m, .bool z.1.must, .int .i64 (z.1.most : Int), .slice A z.2.len c] z) := Lib.hid hc
 have S0 : Hid ((w.alloc (.cells #[.string ⟨#[]⟩, .int .i64 0, .int .i64 0, .int .u64 0, .int .u64 0, .slice none 0 0, .bool false, .int .i64 0, .slice none 0 0] 39)).heap.size = w.heap.size + 1) := Lib.hid (by simp)
 clear hB hc
 go_wp2
 have H2 : Hid (Below w.heap.size w (w1.alloc (.cells #[.string (txt z.1.name), .int .i64 (z.1.kind : Int), .int .i64 (z.1.typ : Int), .int .u64 (z.1.low : Int), .int .u64 (z.1.high : Int), .slice B z.1.names.length m, .bool z.1.must, .int .i64 (z.1.most : Int), .slice A z.2.len c] 39))) := Lib.hid (H1.out.alloc H1.out.size _)
 have R2 : Hid (Blk (w1.alloc (.cells #[.string (txt z.1.name), .int .i64 (z.1.kind : Int), .int .i64 (z.1.typ : Int), .int .u64 (z.1.low : Int), .int .u64 (z.1.high : Int), .slice B z.1.names.length m, .bool z.1.must, .int .i64 (z.1.most : Int), .slice A z.2.len c] 39)) w.heap.size 39 #[.string ⟨#[]⟩, .int .i64 0, .int .i64 0, .int .u64 0, .int .u64 0, .slice none 0 0, .bool false, .int .i64 0, .slice none 0 0]) := Lib.hid (R1.out.alloc _)
 have X2 : Hid (Blk (w1.alloc (.cells #[.string (txt z.1.name), .int .i64 (z.1.kind : Int), .int .i64 (z.1.typ : Int), .int .u64 (z.1.low : Int), .int .u64 (z.1.high : Int), .slice B z.1.names.length m, .bool z.1.must, .int .i64 (z.1.most : Int), .slice A z.2.len c] 39)) w1.heap.size 39 #[.string (txt z.1.name), .int .i64 (z.1.kind : Int), .int .i64 (z.1.typ : Int), .int .u64 (z.1.low : Int), .int .u64 (z.1.high : Int), .slice B z.1.names.length m, .bool z.1.must, .int .i64 (z.1.most : Int), .slice A z.2.len c]) := Lib.hid (Blk.new w1 _ _)
 have K2 : Hid (SpN (w1.alloc (.cells #[.string (txt z.1.name), .int .i64 (z.1.kind : Int), .int .i64 (z.1.typ : Int), .int .u64 (z.1.low : Int), .int .u64 (z.1.high : Int), .slice B z.1.names.length m, .bool z.1.must, .int .i64 (z.1.most : Int), .slice A z.2.len c] 39)) (fun g => w.heap.size < g ∧ g < w1.heap.size) (fun g => w.heap.size < g ∧ g < w1.heap.size) [.string (txt z.1.name), .int .i64 (z.1.kind : Int), .int .i64 (z.1.typ : Int), .int .u64 (z.1.low : Int), .int .u64 (z.1.high : Int), .slice B z.1.names.length m, .bool z.1.must, .int .i64 (z.1.most : Int), .slice A z.2.len c] z) := Lib.hid ((K1.out.under ((Below.refl w1.heap.size w1).alloc (Nat.le_refl _) (.cells #[.string (txt z.1.name), .int .i64 (z.1.kind : Int), .int .i64 (z.1.typ : Int), .int .u64 (z.1.low : Int), .int .u64 (z.1.high : Int), .slice B z.1.names.length m, .bool z.1.must, .int .i64 (z.1.most : Int), .slice A z.2.len c] 39)) (fun g hg => hg.2) (fun g hg => hg.2)).mono stay_spc (fun g hg => ⟨by have := hg.1; rw [S0.out] at this; omega, hg.2⟩) (fun g hg => ⟨by have := hg.1; rw [S0.out] at this; omega, hg.2⟩))
 go_loopw [8] (fun i wr => i = .int .i64 0 ∧ Blk wr w1.heap.size 39 #[.string (txt z.1.name), .int .i64 (z.1.kind : Int), .int .i64 (z.1.typ : Int), .int .u64 (z.1.low : Int), .int .u64 (z.1.high : Int), .slice B z.1.names.length m, .bool z.1.must, .int .i64 (z.1.most : Int), .slice A z.2.len c] ∧ Blk wr w.heap.size 39 #[.string ⟨#[]⟩, .int .i64 0, .int .i64 0, .int .u64 0, .int .u64 0, .slice none 0 0, .bool false, .int .i64 0, .slice none 0 0] ∧ Hid (SpN wr (fun g => w.heap.size < g ∧ g < w1.heap.size) (fun g => w.heap.size < g ∧ g < w1.heap.size) [.string (txt z.1.name), .int .i64 (z.1.kind : Int), .int .i64 (z.1.typ : Int), .int .u64 (z.1.low : Int), .int .u64 (z.1.high : Int), .slice B z.1.names.length m, .bool z.1.must, .int .i64 (z.1.most : Int), .slice A z.2.len c] z) ∧ Below w.heap.size w wr) (fun _ _ => 0)
 case atStart => exact ⟨rfl, X2.out, R2.out, K2, H2.out⟩
 case round =>
  obtain ⟨rfl, hX, hR, HK, hB⟩ := hrel
  have HB := Lib.hid hB
  have HXX := Lib.hid hX
  have HR := Lib.hid hR
  have RE : Hid (Blk (set9 wr w.heap.size (.string (txt z.1.name)) (.int .i64 (z.1.kind : Int)) (.int .i64 (z.1.typ : Int)) (.int .u64 (z.1.low : Int)) (.int .u64 (z.1.high : Int)) (.slice B z.1.names.length m) (.bool z.1.must) (.int .i64 (z.1.most : Int)) (.slice A z.2.len c)) w.heap.size 39 #[.string (txt z.1.name), .int .i64 (z.1.kind : Int), .int .i64 (z.1.typ : Int), .int .u64 (z.1.low : Int), .int .u64 (z.1.high : Int), .slice B z.1.names.length m, .bool z.1.must, .int .i64 (z.1.most : Int), .slice A z.2.len c]) := Lib.hid (HR.out.set9 _ _ _ _ _ _ _ _ _)
  have HE : Hid (Below w.heap.size w (set9 wr w.heap.size (.string (txt z.1.name)) (.int .i64 (z.1.kind : Int)) (.int .i64 (z.1.typ : Int)) (.int .u64 (z.1.low : Int)) (.int .u64 (z.1.high : Int)) (.slice B z.1.names.length m) (.bool z.1.must) (.int .i64 (z.1.most : Int)) (.slice A z.2.len c))) := Lib.hid (HB.out.trans (set9_below (Nat.le_refl _)))
  have KE : Hid (SpN (set9 wr w.heap.size (.string (txt z.1.name)) (.int .i64 (z.1.kind : Int)) (.int .i64 (z.1.typ : Int)) (.int .u64 (z.1.low : Int)) (.int .u64 (z.1.high : Int)) (.slice B z.1.names.length m) (.bool z.1.must) (.int .i64 (z.1.most : Int)) (.slice A z.2.len c)) (Rng w.heap.size (set9 wr w.heap.size (.string (txt z.1.name)) (.int .i64 (z.1.kind : Int)) (.int .i64 (z.1.typ : Int)) (.int .u64 (z.1.low : Int)) (.int .u64 (z.1.high : Int)) (.slice B z.1.names.length m) (.bool z.1.must) (.int .i64 (z.1.most : Int)) (.slice A z.2.len c)).heap.size) (Rng w.heap.size (set9 wr w.heap.size (.string (txt z.1.name)) (.int .i64 (z.1.kind : Int)) (.int .i64 (z.1.typ : Int)) (.int .u64 (z.1.low : Int)) (.int .u64 (z.1.high : Int)) (.slice B z.1.names.length m) (.bool z.1.must) (.int .i64 (z.1.most : Int)) (.slice A z.2.len c)).heap.size) [.string (txt z.1.name), .int .i64 (z.1.kind : Int), .int .i64 (z.1.typ : Int), .int .u64 (z.1.low : Int), .int .u64 (z.1.high : Int), .slice B z.1.names.length m, .bool z.1.must, .int .i64 (z.1.most : Int), .slice A z.2.len c] z) := Lib.hid ((HK.out.apart (fun g hg => set9_other (Nat.ne_of_gt hg.1)) (fun g hg => set9_other (Nat.ne_of_gt hg.1))).mono stay_spc (fun g hg => ⟨Nat.le_of_lt hg.1, by rw [set9_size]; exact Nat.lt_trans hg.2 HXX.out.lt⟩) (fun g hg => ⟨Nat.le_of_lt hg.1, by rw [set9_size]; exact Nat.lt_trans hg.2 HXX.out.lt⟩))
  clear hX hR hB
  have q0 := (HXX.out.cell 0).trans rfl
  have q1 := (HXX.out.cell 1).trans rfl
  have q2 := (HXX.out.cell 2).trans rfl
  have q3 := (HXX.out.cell 3).trans rfl
  have q4 := (HXX.out.cell 4).trans rfl
  have q5 := (HXX.out.cell 5).trans rfl
  have q6 := (HXX.out.cell 6).trans rfl
  have q7 := (HXX.out.cell 7).trans rfl
  have q8 := (HXX.out.cell 8).trans rfl
  have f0 := HR.out.frozen 0
  have r0 := (HR.out.cell 0).trans rfl
  have f1 := HR.out.frozen 1
  have r1 := (HR.out.cell 1).trans rfl
  have f2 := HR.out.frozen 2
  have r2 := (HR.out.cell 2).trans rfl
  have f3 := HR.out.frozen 3
  have r3 := (HR.out.cell 3).trans rfl
  have f4 := HR.out.frozen 4
  have r4 := (HR.out.cell 4).trans rfl
  have f5 := HR.out.frozen 5
  have r5 := (HR.out.cell 5).trans rfl
  have f6 := HR.out.frozen 6
  have r6 := (HR.out.cell 6).trans rfl
  have f7 := HR.out.frozen 7
  have r7 := (HR.out.cell 7).trans rfl
  have f8 := HR.out.frozen 8
  have r8 := (HR.out.cell 8).trans rfl
  obtain ⟨ln, hln⟩ : ∃ ln, ln = l.length := ⟨_, rfl⟩
  rw [← hln]
  clear hln
  have hl : ln = 0 ∨ ∃ m, ln = m + 1 := by cases ln with | zero => exact .inl rfl | succ m => exact .inr ⟨m, rfl⟩
  rcases hl with rfl | ⟨mm, rfl⟩
  all_goals
   go_wp2
   refine bodyPost_ret (res_cell_tmp rfl _ _ w.heap.size 39 _ (0, 0) _ rfl RE.out Tryd.underlying39 rfl (by kernel_rfl)) rfl ?_
   exact ⟨_, by rw [HX.out]; rfl, by rw [HX.out]; exact KE.out, HE.out⟩
set_option maxRecDepth 100000 in
set_option maxHeartbeats 4000000 in
theorem rat15_in (v : Int) (l : List Stp) (nv : Value) (w : World) (h1 : 1 ≤ v) (h3 : v ≤ 3) (hn : WayV w.heap.size w nv l) (hl : l.length ≤ 1000000) (hsz : ∀ s ∈ l, s.2.length ≤ 9223372036854775807) : Calls Tryd.prog 13 #[.int .i64 v, nv] w (RSpP (atP v l) w) := by
 have hno : ¬ (v < 1 ∨ 3 < v) := by omega
 have HAT : Hid (atP v l = goA (rootD, rootF v.toNat) l) := Lib.hid (by unfold atP; rw [if_neg hno])
 have e1 : rootX v = ((rootD, rootF v.toNat), 0) := by unfold rootX; rw [if_neg hno]
 have NR : ∀ W, Hid (Calls Tryd.prog 28 #[.int .i64 v] W (RSpP ((rootD, rootF v.toNat), 0) W)) := fun W => Lib.hid (by rw [← e1]; exact rroot_any v W)
 have HSM : Hid (∀ x, InV v x → x.2.len ≤ 7) := Lib.hid (fun x h => (few_in h1 h3 h).2.2.1)
 have HSZ := Lib.hid hsz
 obtain ⟨An, cn, rfl⟩ := hn.shape
 have H0 : Hid (Below w.heap.size w (w.alloc (.cells #[.string ⟨#[]⟩, .int .i64 0, .int .i64 0, .int .u64 0, .int .u64 0, .slice none 0 0, .bool false, .int .i64 0, .slice none 0 0] 39))) := Lib.hid ((Below.refl _ _).alloc (Nat.le_refl _) _)
 have R0 : Hid (Blk (w.alloc (.cells #[.string ⟨#[]⟩, .int .i64 0, .int .i64 0, .int .u64 0, .int .u64 0, .slice none 0 0, .bool false, .int .i64 0, .slice none 0 0] 39)) w.heap.size 39 #[.string ⟨#[]⟩, .int .i64 0, .int .i64 0, .int .u64 0, .int .u64 0, .slice none 0 0, .bool false, .int .i64 0, .slice none 0 0]) := Lib.hid (Blk.new w _ _)
 have HN := Lib.hid hn
 clear hno e1 hn h1 h3 hsz
 go_enter Tryd.func13, Tryd.ntmps13
 go_wp2_with fail
 refine (NR _).out.mono ?_
 rintro r w1 ⟨cs, rfl, hc, hB⟩
 obtain ⟨B, m, A, c, dn, rfl, -, -, -⟩ := hc.shape
 have H1 := Lib.hid (H0.out.trans (hB.mono H0.out.size))
 have R1 := Lib.hid (R0.out.below hB R0.out.lt)
 have z1 : w.heap.size < w1.heap.size := R1.out.lt
 have SP : Hid (∀ g, Rng (w.alloc (.cells #[.string ⟨#[]⟩, .int .i64 0, .int .i64 0, .int .u64 0, .int .u64 0, .slice none 0 0, .bool false, .int .i64 0, .slice none 0 0] 39)).heap.size w1.heap.size g → w.heap.size < g ∧ g < w1.heap.size) := Lib.hid (fun g hg => ⟨by have := hg.1; simp at this; omega, hg.2⟩)
 have K1 : Hid (SpN w1 (fun g => w.heap.size < g ∧ g < w1.heap.size) (fun g => w.heap.size < g ∧ g < w1.heap.size) [.string (txt rootD.name), .int .i64 (rootD.kind : Int), .int .i64 (rootD.typ : Int), .int .u64 (rootD.low : Int), .int .u64 (rootD.high : Int), .slice B rootD.names.length m, .bool rootD.must, .int .i64 (rootD.most : Int), .slice A (rootF v.toNat).len c] (rootD, rootF v.toNat)) := Lib.hid (hc.mono stay_spc SP.out SP.out)
 clear hB hc SP z1
 go_wp2
 have W2 : Hid (Below w1.heap.size w1 (w1.alloc (.cells #[.string (txt rootD.name), .int .i64 (rootD.kind : Int), .int .i64 (rootD.typ : Int), .int .u64 (rootD.low : Int), .int .u64 (rootD.high : Int), .slice B rootD.names.length m, .bool rootD.must, .int .i64 (rootD.most : Int), .slice A (rootF v.toNat).len c] 39))) := Lib.hid ((Below.refl _ _).alloc (Nat.le_refl _) _)
 have R2 : Hid (Blk (w1.alloc (.cells #[.string (txt rootD.name), .int .i64 (rootD.kind : Int), .int .i64 (rootD.typ : Int), .int .u64 (rootD.low : Int), .int .u64 (rootD.high : Int), .slice B rootD.names.length m, .bool rootD.must, .int .i64 (rootD.most : Int), .slice A (rootF v.toNat).len c] 39)) w.heap.size 39 #[.string ⟨#[]⟩, .int .i64 0, .int .i64 0, .int .u64 0, .int .u64 0, .slice none 0 0, .bool false, .int .i64 0, .slice none 0 0]) := Lib.hid (R1.out.alloc _)
 have X2 : Hid (Blk (w1.alloc (.cells #[.string (txt rootD.name), .int .i64 (rootD.kind : Int), .int .i64 (rootD.typ : Int), .int .u64 (rootD.low : Int), .int .u64 (rootD.high : Int), .slice B rootD.names.length m, .bool rootD.must, .int .i64 (rootD.most : Int), .slice A (rootF v.toNat).len c] 39)) w1.heap.size 39 #[.string (txt rootD.name), .int .i64 (rootD.kind : Int), .int .i64 (rootD.typ : Int), .int .u64 (rootD.low : Int), .int .u64 (rootD.high : Int), .slice B rootD.names.length m, .bool rootD.must, .int .i64 (rootD.most : Int), .slice A (rootF v.toNat).len c]) := Lib.hid (Blk.new w1 _ _)
 have K2 : Hid (SpN (w1.alloc (.cells #[.string (txt rootD.name), .int .i64 (rootD.kind : Int), .int .i64 (rootD.typ : Int), .int .u64 (rootD.low : Int), .int .u64 (rootD.high : Int), .slice B rootD.names.length m, .bool rootD.must, .int .i64 (rootD.most : Int), .slice A (rootF v.toNat).len c] 39)) (fun g => w.heap.size < g ∧ g < w1.heap.size) (fun g => w.heap.size < g ∧ g < w1.heap.size) [.string (txt rootD.name), .int .i64 (rootD.kind : Int), .int .i64 (rootD.typ : Int), .int .u64 (rootD.low : Int), .int .u64 (rootD.high : Int), .slice B rootD.names.length m, .bool rootD.must, .int .i64 (rootD.most : Int), .slice A (rootF v.toNat).len c] (rootD, rootF v.toNat)) := Lib.hid (K1.out.under W2.out (fun g hg => hg.2) (fun g hg => hg.2))
 have Z2 : Hid (w.heap.size < w1.heap.size) := Lib.hid R1.out.lt
 go_loopw [8] (fun i wr => ∃ (k : Nat) (x : Sp) (cs : List Value), k ≤ l.length ∧ i = .int .i64 (k : Int) ∧ Hid (atP v l = goA x (l.drop k)) ∧ Hid (InV v x) ∧ Blk wr w1.heap.size 39 cs.toArray ∧ Blk wr w.heap.size 39 #[.string ⟨#[]⟩, .int .i64 0, .int .i64 0, .int .u64 0, .int .u64 0, .slice none 0 0, .bool false, .int .i64 0, .slice none 0 0] ∧
  Hid (SpN wr (fun g => w.heap.size < g ∧ g < w1.heap.size) (fun g => w.heap.size < g ∧ g < w1.heap.size) cs x) ∧ Below w.heap.size w wr) (fun i _ => l.length - (intOf i).toNat)
 case atStart => exact ⟨0, (rootD, rootF v.toNat), _, Nat.zero_le _, rfl, HAT, Lib.hid (.inl rfl), X2.out, R2.out, K2, H1.out.trans (W2.out.mono H1.out.size)⟩
 case round =>
  obtain ⟨k, x, cs, hk, rfl, HD, HI, hX, hR, HK, hB⟩ := hrel
  obtain ⟨B, m, A, c, dn, rfl, -, -, hkv⟩ := HK.out.shape
  have HF := Lib.hid hkv
  clear hkv
  have HB := Lib.hid hB
  have HX := Lib.hid hX
  have HR := Lib.hid hR
  by_cases hlt : k < l.length
  ·obtain ⟨⟨n, ky⟩, hn⟩ : ∃ s, l[k]? = some s := ⟨_, List.getElem?_eq_getElem hlt⟩
   obtain ⟨d, o, rfl, -, -, hda, hcn, hck⟩ := HN.out.at hn
   have HKS := Lib.hid (HSZ.out _ (List.mem_of_getElem? hn))
   have HD1 : Hid (atP v l = goA x ((n, ky) :: l.drop (k + 1))) := Lib.hid (by rw [HD.out, drop_step hn])
   have n0 : k < l.length := hlt
   have i1 : (0 : Int) ≤ (k : Int) := by omega
   have i2 : (k : Int) < (l.length : Int) := by omega
   have HQ := Lib.hid (And.intro (hX.below (Below.refl _ _).drew hX.lt) ((hB.drew.cell (p := ⟨d, o + k * 2, none⟩) hda).trans hcn))
   have HC := Lib.hid (rfind_any n _ _ _ x wr.drew (HK.out.under (Below.refl _ _).drew (fun g hg => Nat.lt_trans hg.2 hX.lt) (fun g hg => Nat.lt_trans hg.2 hX.lt)) (fun g hg => Nat.lt_trans hg.2 hX.lt) (Nat.le_trans (HSM.out _ HI.out) (by omega)))
   have HDA := Lib.hid (Nat.lt_of_lt_of_le hda hB.size)
   have HDK := Lib.hid (And.intro hda hck)
   clear hX hR hB hn hcn hda hck
   go_wp2_with fail
   refine wp_region_noPanic ?_
   refine wp_region_held_drew (S := fun _ => True) (by kernel_rfl) trivial (fun hS => ?_)
   refine held_more (S' := fun w' => Blk w' w1.heap.size 39 #[.string (txt x.1.name), .int .i64 (x.1.kind : Int), .int .i64 (x.1.typ : Int), .int .u64 (x.1.low : Int), .int .u64 (x.1.high : Int), .slice B x.1.names.length m, .bool x.1.must, .int .i64 (x.1.most : Int), .slice A x.2.len c] ∧ w'.cell? ⟨d, o + k * 2, none⟩ = some (.string (txt n))) (fun _ _ => trivial) _ _ _ _ ?_
   replace hS := HQ.out
   refine wpAnyH_take (i := 0) (oi := ?o_0) (v := ?v_0) ?i_0 (by kernel_rfl) (by kernel_rfl) (by kernel_rfl) (fun _ _ _ h => h) (Or.inl ⟨?g_0, ?y_0⟩) hS ?_
   case i_0 => simp only [layG]; rfl
   case g_0 => rfl
   case y_0 => (intro w hSw; have q0 := (hSw.1.cell 0).trans rfl; have q1 := (hSw.1.cell 1).trans rfl; have q2 := (hSw.1.cell 2).trans rfl; have q3 := (hSw.1.cell 3).trans rfl; have q4 := (hSw.1.cell 4).trans rfl; have q5 := (hSw.1.cell 5).trans rfl; have q6 := (hSw.1.cell 6).trans rfl; have q7 := (hSw.1.cell 7).trans rfl; have q8 := (hSw.1.cell 8).trans rfl; (go_simp <;> with_reducible rfl))
   (try simp only [Act.put, layS])
   refine wpAnyH_take (i := 1) (oi := ?o_1) (v := ?v_1) ?i_1 (by kernel_rfl) (by kernel_rfl) (by kernel_rfl) (fun _ _ _ h => h) (Or.inl ⟨?g_1, ?y_1⟩) hS ?_
   case i_1 => simp only [layG]; rfl
   case g_1 => rfl
   case y_1 => (intro w hSw; (go_simp <;> with_reducible rfl))
   (try simp only [Act.put, layS])
   refine wpAnyH_take (i := 2) (oi := ?o_2) (v := ?v_2) ?i_2 (by kernel_rfl) (by kernel_rfl) (by kernel_rfl) (fun _ _ _ h => h) (Or.inl ⟨?g_2, ?y_2⟩) hS ?_
   case i_2 => simp only [layG]; rfl
   case g_2 => rfl
   case y_2 => (intro w hSw; (go_simp <;> with_reducible rfl))
   (try simp only [Act.put, layS])
   refine wpAnyH_take (i := 3) (oi := ?o_3) (v := ?v_3) ?i_3 (by kernel_rfl) (by kernel_rfl) (by kernel_rfl) (fun _ _ _ h => h) (Or.inl ⟨?g_3, ?y_3⟩) hS ?_
   case i_3 => simp only [layG]; rfl
   case g_3 => rfl
   case y_3 => (intro w hSw; (go_simp <;> with_reducible rfl))
   (try simp only [Act.put, layS])
   refine wpAnyH_take (i := 4) (oi := ?o_4) (v := ?v_4) ?i_4 (by kernel_rfl) (by kernel_rfl) (by kernel_rfl) (fun _ _ _ h => h) (Or.inl ⟨?g_4, ?y_4⟩) hS ?_
   case i_4 => simp only [layG]; rfl
   case g_4 => rfl
   case y_4 => (intro w hSw; (go_simp <;> with_reducible rfl))
   (try simp only [Act.put, layS])
   refine wpAnyH_take (i := 5) (oi := ?o_5) (v := ?v_5) ?i_5 (by kernel_rfl) (by kernel_rfl) (by kernel_rfl) (fun _ _ _ h => h) (Or.inl ⟨?g_5, ?y_5⟩) hS ?_
   case i_5 => simp only [layG]; rfl
   case g_5 => rfl
   case y_5 => (intro w hSw; have hc := hSw.2; (go_simp <;> with_reducible rfl))
   (try simp only [Act.put, layS])
   refine wpAnyH_ready (rs := [6]) (by kernel_rfl) (by simp) ?_
   refine (AllReadyH.cons (o := ?or_6) ?ir_6 (fun K hK => ?str_6) AllReadyH.nil)
   case ir_6 => simp only [layG]; rfl
   rw [if_pos (by rfl)]
   go_simp
   refine HC.out.mono ?_
   rintro r w3 ⟨rfl, hb3⟩
   have HB3 := Lib.hid (HB.out.drew.trans (hb3.mono HB.out.drew.size))
   have HX3 := Lib.hid (HQ.out.1.below hb3 HQ.out.1.lt)
   have HR3 := Lib.hid ((HR.out.below (Below.refl _ _).drew HR.out.lt).below hb3 HR.out.lt)
   have HK3 := Lib.hid ((HK.out.under (Below.refl _ _).drew (fun g hg => Nat.lt_trans hg.2 HX.out.lt) (fun g hg => Nat.lt_trans hg.2 HX.out.lt)).under hb3 (fun g hg => Nat.lt_trans hg.2 HX.out.lt) (fun g hg => Nat.lt_trans hg.2 HX.out.lt))
   have HF3 := Lib.hid ((HF.out.under (Below.refl _ _).drew (fun g hg => Nat.lt_trans hg.2 HX.out.lt) (fun g hg => Nat.lt_trans hg.2 HX.out.lt)).under hb3 (fun g hg => Nat.lt_trans hg.2 HX.out.lt) (fun g hg => Nat.lt_trans hg.2 HX.out.lt))
   have HS3 := Lib.hid (And.intro HX3.out ((hb3.cell (p := ⟨d, o + k * 2, none⟩) HDA.out).trans HQ.out.2))
   clear hb3
   go_wp2_with fail
   refine hK.out _ _ ?sr_6 (fun hS => ?_)
   case sr_6 => (exact HS3.out)
   clear hK K
   (try simp only [Act.put, layS])
   refine wpAnyH_take (i := 7) (oi := ?o_7) (v := ?v_7) ?i_7 (by kernel_rfl) (by kernel_rfl) (by kernel_rfl) (fun _ _ _ h => h) (Or.inl ⟨?g_7, ?y_7⟩) hS ?_
   case i_7 => simp only [layG]; rfl
   case g_7 => rfl
   case y_7 => (intro w hSw; (go_simp <;> with_reducible rfl))
   (try simp only [Act.put, layS])
   refine wpAnyH_done (by kernel_rfl) ?_ _
   refine NoPanic.normal ?_
   cases hf : findX n x.2 with
   | none =>
    have e : findI n x.2 = -1 := by unfold findI; rw [hf]
    have HV : Hid (atP v l = ((zeroD, .nil), 22)) := Lib.hid (goA_err HD1.out (goS_none hf))
    have RE : Hid (Blk (set9 w3 w.heap.size (.string ⟨#[]⟩) (.int .i64 0) (.int .i64 0) (.int .u64 0) (.int .u64 0) (.slice none 0 0) (.bool false) (.int .i64 0) (.slice none 0 0)) w.heap.size 39 #[.string ⟨#[]⟩, .int .i64 0, .int .i64 0, .int .u64 0, .int .u64 0, .slice none 0 0, .bool false, .int .i64 0, .slice none 0 0]) := Lib.hid (HR3.out.set9 _ _ _ _ _ _ _ _ _)
    have HE : Hid (Below w.heap.size w (set9 w3 w.heap.size (.string ⟨#[]⟩) (.int .i64 0) (.int .i64 0) (.int .u64 0) (.int .u64 0) (.slice none 0 0) (.bool false) (.int .i64 0) (.slice none 0 0))) := Lib.hid (HB3.out.trans (set9_below (Nat.le_refl _)))
    rw [e]
    have f0 : w3.frozen? ⟨w.heap.size, 0, none⟩ = false := HR3.out.frozen 0
    have q0 := (HR3.out.cell 0).trans rfl
    have f1 : w3.frozen? ⟨w.heap.size, 1, none⟩ = false := HR3.out.frozen 1
    have q1 := (HR3.out.cell 1).trans rfl
    have f2 : w3.frozen? ⟨w.heap.size, 2, none⟩ = false := HR3.out.frozen 2
    have q2 := (HR3.out.cell 2).trans rfl
    have f3 : w3.frozen? ⟨w.heap.size, 3, none⟩ = false := HR3.out.frozen 3
    have q3 := (HR3.out.cell 3).trans rfl
    have f4 : w3.frozen? ⟨w.heap.size, 4, none⟩ = false := HR3.out.frozen 4
    have q4 := (HR3.out.cell 4).trans rfl
    have f5 : w3.frozen? ⟨w.heap.size, 5, none⟩ = false := HR3.out.frozen 5
    have q5 := (HR3.out.cell 5).trans rfl
    have f6 : w3.frozen? ⟨w.heap.size, 6, none⟩ = false := HR3.out.frozen 6
    have q6 := (HR3.out.cell 6).trans rfl
    have f7 : w3.frozen? ⟨w.heap.size, 7, none⟩ = false := HR3.out.frozen 7
    have q7 := (HR3.out.cell 7).trans rfl
    have f8 : w3.frozen? ⟨w.heap.size, 8, none⟩ = false := HR3.out.frozen 8
    have q8 := (HR3.out.cell 8).trans rfl
    clear hf e hS
    go_wp2
    refine bodyPost_ret (res_cell_tmp rfl _ _ w.heap.size 39 _ (0, 0) _ rfl RE.out Tryd.underlying39 rfl (by kernel_rfl)) rfl ?_
    exact ⟨spC zeroD (.slice none 0 0) (.slice none 0 0), by rw [HV.out]; rfl, by rw [HV.out]; exact leaf_n rfl, HE.out⟩
   | some j =>
    have e : findI n x.2 = (j : Int) := by unfold findI; rw [hf]
    obtain ⟨⟨a, q⟩, hg, -, -⟩ := find_some hf
    have HGB := Lib.hid (goS_bad (s := (n, ky)) hf hg)
    have HGO := Lib.hid (goS_ok (s := (n, ky)) hf hg)
    have HI2 := Lib.hid (HI.out.get hg)
    obtain ⟨b', o', c', cs', ee, -, hSb, hN, hcl⟩ := HF3.out.at hg
    injection ee with e1 e2 e3
    subst e1 e3
    have hlj := Fr.get_lt hg
    have hsh := SpN.shape (x := (a, q)) hN
    have HKN := Lib.hid hN
    obtain ⟨B', m', A', c'', d', rfl, -, -, -⟩ := hsh
    have j1 : (0 : Int) ≤ (j : Int) := by omega
    have j2 : (j : Int) < (x.2.len : Int) := by omega
    have j3 : ¬ (j : Int) < 0 := by omega
    have u0 : w3.cell? ⟨b', o' + j * 9, none⟩ = _ := hcl 0 _ rfl
    have u1 := hcl 1 _ rfl
    have u2 := hcl 2 _ rfl
    have u3 := hcl 3 _ rfl
    have u4 := hcl 4 _ rfl
    have u5 := hcl 5 _ rfl
    have u6 := hcl 6 _ rfl
    have u7 := hcl 7 _ rfl
    have u8 := hcl 8 _ rfl
    have HX4 : Hid (Blk (set9 w3 w1.heap.size (.string (txt a.name)) (.int .i64 (a.kind : Int)) (.int .i64 (a.typ : Int)) (.int .u64 (a.low : Int)) (.int .u64 (a.high : Int)) (.slice B' a.names.length m') (.bool a.must) (.int .i64 (a.most : Int)) (.slice A' q.len c'')) w1.heap.size 39 #[.string (txt a.name), .int .i64 (a.kind : Int), .int .i64 (a.typ : Int), .int .u64 (a.low : Int), .int .u64 (a.high : Int), .slice B' a.names.length m', .bool a.must, .int .i64 (a.most : Int), .slice A' q.len c'']) := Lib.hid (HX3.out.set9 _ _ _ _ _ _ _ _ _)
    have HR4 : Hid (Blk (set9 w3 w1.heap.size (.string (txt a.name)) (.int .i64 (a.kind : Int)) (.int .i64 (a.typ : Int)) (.int .u64 (a.low : Int)) (.int .u64 (a.high : Int)) (.slice B' a.names.length m') (.bool a.must) (.int .i64 (a.most : Int)) (.slice A' q.len c'')) w.heap.size 39 #[.string ⟨#[]⟩, .int .i64 0, .int .i64 0, .int .u64 0, .int .u64 0, .slice none 0 0, .bool false, .int .i64 0, .slice none 0 0]) := Lib.hid ((set9_other (Nat.ne_of_lt Z2.out)).trans HR3.out)
    have HK4 : Hid (SpN (set9 w3 w1.heap.size (.string (txt a.name)) (.int .i64 (a.kind : Int)) (.int .i64 (a.typ : Int)) (.int .u64 (a.low : Int)) (.int .u64 (a.high : Int)) (.slice B' a.names.length m') (.bool a.must) (.int .i64 (a.most : Int)) (.slice A' q.len c'')) (fun g => w.heap.size < g ∧ g < w1.heap.size) (fun g => w.heap.size < g ∧ g < w1.heap.size) [.string (txt a.name), .int .i64 (a.kind : Int), .int .i64 (a.typ : Int), .int .u64 (a.low : Int), .int .u64 (a.high : Int), .slice B' a.names.length m', .bool a.must, .int .i64 (a.most : Int), .slice A' q.len c''] (a, q)) := Lib.hid (SpN.apart HKN.out (fun g hg => set9_other (Nat.ne_of_lt hg.2)) (fun g hg => set9_other (Nat.ne_of_lt hg.2)))
    have HB4 : Hid (Below w.heap.size w (set9 w3 w1.heap.size (.string (txt a.name)) (.int .i64 (a.kind : Int)) (.int .i64 (a.typ : Int)) (.int .u64 (a.low : Int)) (.int .u64 (a.high : Int)) (.slice B' a.names.length m') (.bool a.must) (.int .i64 (a.most : Int)) (.slice A' q.len c''))) := Lib.hid (HB3.out.trans (set9_below (Nat.le_of_lt Z2.out)))
    rw [e]
    have f0 : w3.frozen? ⟨w1.heap.size, 0, none⟩ = false := HX3.out.frozen 0
    have q0 := (HX3.out.cell 0).trans rfl
    have f1 : w3.frozen? ⟨w1.heap.size, 1, none⟩ = false := HX3.out.frozen 1
    have q1 := (HX3.out.cell 1).trans rfl
    have f2 : w3.frozen? ⟨w1.heap.size, 2, none⟩ = false := HX3.out.frozen 2
    have q2 := (HX3.out.cell 2).trans rfl
    have f3 : w3.frozen? ⟨w1.heap.size, 3, none⟩ = false := HX3.out.frozen 3
    have q3 := (HX3.out.cell 3).trans rfl
    have f4 : w3.frozen? ⟨w1.heap.size, 4, none⟩ = false := HX3.out.frozen 4
    have q4 := (HX3.out.cell 4).trans rfl
    have f5 : w3.frozen? ⟨w1.heap.size, 5, none⟩ = false := HX3.out.frozen 5
    have q5 := (HX3.out.cell 5).trans rfl
    have f6 : w3.frozen? ⟨w1.heap.size, 6, none⟩ = false := HX3.out.frozen 6
    have q6 := (HX3.out.cell 6).trans rfl
    have f7 : w3.frozen? ⟨w1.heap.size, 7, none⟩ = false := HX3.out.frozen 7
    have q7 := (HX3.out.cell 7).trans rfl
    have f8 : w3.frozen? ⟨w1.heap.size, 8, none⟩ = false := HX3.out.frozen 8
    have q8 := (HX3.out.cell 8).trans rfl
    clear hf e hS hg hN hcl hSb e2 hlj
    go_upto_region 8 with (fail)
    go_cut [] (fun wx => Hid (Below w.heap.size w wx ∧ Blk wx w1.heap.size 39 #[.string (txt a.name), .int .i64 (a.kind : Int), .int .i64 (a.typ : Int), .int .u64 (a.low : Int), .int .u64 (a.high : Int), .slice B' a.names.length m', .bool a.must, .int .i64 (a.most : Int), .slice A' q.len c''] ∧ Blk wx w.heap.size 39 #[.string ⟨#[]⟩, .int .i64 0, .int .i64 0, .int .u64 0, .int .u64 0, .slice none 0 0, .bool false, .int .i64 0, .slice none 0 0] ∧ SpN wx (fun g => w.heap.size < g ∧ g < w1.heap.size) (fun g => w.heap.size < g ∧ g < w1.heap.size) [.string (txt a.name), .int .i64 (a.kind : Int), .int .i64 (a.typ : Int), .int .u64 (a.low : Int), .int .u64 (a.high : Int), .slice B' a.names.length m', .bool a.must, .int .i64 (a.most : Int), .slice A' q.len c''] (a, q)))
    case first =>
     go_wp2_with fail
     go_meet
     exact Lib.hid ⟨HB4.out, HX4.out, HR4.out, HK4.out⟩
    case rest =>
     have HQ4 := hcut
     clear hcut
     obtain ⟨wq, hwq⟩ : ∃ wq, wq = wc := ⟨_, rfl⟩
     subst hwq
     have ck : wq.cell? ⟨d, o + k * 2 + 1, none⟩ = some (.string (txt ky)) := (HQ4.out.1.cell (p := ⟨d, o + k * 2 + 1, none⟩) HDK.out.1).trans HDK.out.2
     have y1 := (HQ4.out.2.1.cell 1).trans rfl
     have tk : (txt ky).toList = ky := txt_toList ky
     have c1 := Lib.hid (rident_any ky HKS.out wq)
     have RE : Hid (Blk (set9 wq w.heap.size (.string ⟨#[]⟩) (.int .i64 0) (.int .i64 0) (.int .u64 0) (.int .u64 0) (.slice none 0 0) (.bool false) (.int .i64 0) (.slice none 0 0)) w.heap.size 39 #[.string ⟨#[]⟩, .int .i64 0, .int .i64 0, .int .u64 0, .int .u64 0, .slice none 0 0, .bool false, .int .i64 0, .slice none 0 0]) := Lib.hid (HQ4.out.2.2.1.set9 _ _ _ _ _ _ _ _ _)
     have HE : Hid (Below w.heap.size w (set9 wq w.heap.size (.string ⟨#[]⟩) (.int .i64 0) (.int .i64 0) (.int .u64 0) (.int .u64 0) (.slice none 0 0) (.bool false) (.int .i64 0) (.slice none 0 0))) := Lib.hid (HQ4.out.1.trans (set9_below (Nat.le_refl _)))
     have f0 : wq.frozen? ⟨w.heap.size, 0, none⟩ = false := HQ4.out.2.2.1.frozen 0
     have z0 := (HQ4.out.2.2.1.cell 0).trans rfl
     have f1 : wq.frozen? ⟨w.heap.size, 1, none⟩ = false := HQ4.out.2.2.1.frozen 1
     have z1 := (HQ4.out.2.2.1.cell 1).trans rfl
     have f2 : wq.frozen? ⟨w.heap.size, 2, none⟩ = false := HQ4.out.2.2.1.frozen 2
     have z2 := (HQ4.out.2.2.1.cell 2).trans rfl
     have f3 : wq.frozen? ⟨w.heap.size, 3, none⟩ = false := HQ4.out.2.2.1.frozen 3
     have z3 := (HQ4.out.2.2.1.cell 3).trans rfl
     have f4 : wq.frozen? ⟨w.heap.size, 4, none⟩ = false := HQ4.out.2.2.1.frozen 4
     have z4 := (HQ4.out.2.2.1.cell 4).trans rfl
     have f5 : wq.frozen? ⟨w.heap.size, 5, none⟩ = false := HQ4.out.2.2.1.frozen 5
     have z5 := (HQ4.out.2.2.1.cell 5).trans rfl
     have f6 : wq.frozen? ⟨w.heap.size, 6, none⟩ = false := HQ4.out.2.2.1.frozen 6
     have z6 := (HQ4.out.2.2.1.cell 6).trans rfl
     have f7 : wq.frozen? ⟨w.heap.size, 7, none⟩ = false := HQ4.out.2.2.1.frozen 7
     have z7 := (HQ4.out.2.2.1.cell 7).trans rfl
     have f8 : wq.frozen? ⟨w.heap.size, 8, none⟩ = false := HQ4.out.2.2.1.frozen 8
     have z8 := (HQ4.out.2.2.1.cell 8).trans rfl
     by_cases h3 : a.kind = 3
     ·have n1 : ((a.kind : Int) == 3) = true := by rw [h3]; rfl
      have n2 : ((a.kind : Int) != 3) = false := by rw [h3]; rfl
      cases hi : identX ky with
      | true =>
       have HGA := Lib.hid (goA_go HD1.out (HGO.out (by rintro (⟨_, h⟩ | ⟨h, _⟩); rw [hi] at h; cases h; exact h h3)))
       have HI0 := Lib.hid hi
       clear hi h3 z0 z1 z2 z3 z4 z5 z6 z7 z8 f0 f1 f2 f3 f4 f5 f6 f7 f8
       go_wp2_with fail
       refine c1.out.mono ?_
       rintro r w5 ⟨rfl, rfl⟩
       rw [HI0.out]
       clear c1
       go_wp2
       go_roundw
       case rel => exact ⟨k + 1, (a, q), _, by omega, by go_num, HGA, HI2, HQ4.out.2.1, HQ4.out.2.2.1, Lib.hid HQ4.out.2.2.2, HQ4.out.1⟩
       case measure => simp [intOf]; omega
      | false =>
       have HV : Hid (atP v l = ((zeroD, .nil), 23)) := Lib.hid (goA_err HD1.out (HGB.out (.inl ⟨h3, hi⟩)))
       have HI0 := Lib.hid hi
       clear hi h3
       go_wp2_with fail
       refine c1.out.mono ?_
       rintro r w5 ⟨rfl, rfl⟩
       rw [HI0.out]
       clear c1
       go_wp2
       refine bodyPost_ret (res_cell_tmp rfl _ _ w.heap.size 39 _ (0, 0) _ rfl RE.out Tryd.underlying39 rfl (by kernel_rfl)) rfl ?_
       exact ⟨spC zeroD (.slice none 0 0) (.slice none 0 0), by rw [HV.out]; rfl, by rw [HV.out]; exact leaf_n rfl, HE.out⟩
     ·have n1 : ((a.kind : Int) == 3) = false := beq_eq_false_iff_ne.2 (by omega)
      have n2 : ((a.kind : Int) != 3) = true := by unfold bne; rw [n1]; rfl
      by_cases hk0 : ky = []
      ·have HGA := Lib.hid (goA_go HD1.out (HGO.out (by rintro (⟨h, _⟩ | ⟨_, h⟩); exact h3 h; exact h hk0)))
       subst hk0
       have e0 : txt [] = (⟨#[]⟩ : ByteArray) := rfl
       clear h3 z0 z1 z2 z3 z4 z5 z6 z7 z8 f0 f1 f2 f3 f4 f5 f6 f7 f8
       go_wp2_with fail
       refine c1.out.mono ?_
       rintro r w5 ⟨rfl, rfl⟩
       rw [show identX [] = false from rfl]
       clear c1
       go_wp2
       go_roundw
       case rel => exact ⟨k + 1, (a, q), _, by omega, by go_num, HGA, HI2, HQ4.out.2.1, HQ4.out.2.2.1, Lib.hid HQ4.out.2.2.2, HQ4.out.1⟩
       case measure => simp [intOf]; omega
      ·have HV : Hid (atP v l = ((zeroD, .nil), 23)) := Lib.hid (goA_err HD1.out (HGB.out (.inr ⟨h3, hk0⟩)))
       have g1 : ky.isEmpty = false := by simpa using hk0
       have g2 : (ky == []) = false := beq_eq_false_iff_ne.2 hk0
       clear h3 hk0
       go_wp2_with fail
       refine c1.out.mono ?_
       rintro r w5 ⟨rfl, rfl⟩
       generalize identX ky = bk
       clear c1
       go_wp2
       refine bodyPost_ret (res_cell_tmp rfl _ _ w.heap.size 39 _ (0, 0) _ rfl RE.out Tryd.underlying39 rfl (by kernel_rfl)) rfl ?_
       exact ⟨spC zeroD (.slice none 0 0) (.slice none 0 0), by rw [HV.out]; rfl, by rw [HV.out]; exact leaf_n rfl, HE.out⟩
  ·obtain rfl : k = l.length := by omega
   have HV : Hid (atP v l = (x, 0)) := Lib.hid (by have h := HD.out; rw [List.drop_length] at h; rw [h]; rfl)
   have i2 : ¬ (l.length : Int) < (l.length : Int) := by omega
   have RE : Hid (Blk (set9 wr w.heap.size (.string (txt x.1.name)) (.int .i64 (x.1.kind : Int)) (.int .i64 (x.1.typ : Int)) (.int .u64 (x.1.low : Int)) (.int .u64 (x.1.high : Int)) (.slice B x.1.names.length m) (.bool x.1.must) (.int .i64 (x.1.most : Int)) (.slice A x.2.len c)) w.heap.size 39 #[.string (txt x.1.name), .int .i64 (x.1.kind : Int), .int .i64 (x.1.typ : Int), .int .u64 (x.1.low : Int), .int .u64 (x.1.high : Int), .slice B x.1.names.length m, .bool x.1.must, .int .i64 (x.1.most : Int), .slice A x.2.len c]) := Lib.hid (HR.out.set9 _ _ _ _ _ _ _ _ _)
   have HE : Hid (Below w.heap.size w (set9 wr w.heap.size (.string (txt x.1.name)) (.int .i64 (x.1.kind : Int)) (.int .i64 (x.1.typ : Int)) (.int .u64 (x.1.low : Int)) (.int .u64 (x.1.high : Int)) (.slice B x.1.names.length m) (.bool x.1.must) (.int .i64 (x.1.most : Int)) (.slice A x.2.len c))) := Lib.hid (HB.out.trans (set9_below (Nat.le_refl _)))
   have KE : Hid (SpN (set9 wr w.heap.size (.string (txt x.1.name)) (.int .i64 (x.1.kind : Int)) (.int .i64 (x.1.typ : Int)) (.int .u64 (x.1.low : Int)) (.int .u64 (x.1.high : Int)) (.slice B x.1.names.length m) (.bool x.1.must) (.int .i64 (x.1.most : Int)) (.slice A x.2.len c)) (Rng w.heap.size (set9 wr w.heap.size (.string (txt x.1.name)) (.int .i64 (x.1.kind : Int)) (.int .i64 (x.1.typ : Int)) (.int .u64 (x.1.low : Int)) (.int .u64 (x.1.high : Int)) (.slice B x.1.names.length m) (.bool x.1.must) (.int .i64 (x.1.most : Int)) (.slice A x.2.len c)).heap.size) (Rng w.heap.size (set9 wr w.heap.size (.string (txt x.1.name)) (.int .i64 (x.1.kind : Int)) (.int .i64 (x.1.typ : Int)) (.int .u64 (x.1.low : Int)) (.int .u64 (x.1.high : Int)) (.slice B x.1.names.length m) (.bool x.1.must) (.int .i64 (x.1.most : Int)) (.slice A x.2.len c)).heap.size) [.string (txt x.1.name), .int .i64 (x.1.kind : Int), .int .i64 (x.1.typ : Int), .int .u64 (x.1.low : Int), .int .u64 (x.1.high : Int), .slice B x.1.names.length m, .bool x.1.must, .int .i64 (x.1.most : Int), .slice A x.2.len c] x) := Lib.hid ((HK.out.apart (fun g hg => set9_other (Nat.ne_of_gt hg.1)) (fun g hg => set9_other (Nat.ne_of_gt hg.1))).mono stay_spc (fun g hg => ⟨Nat.le_of_lt hg.1, by rw [set9_size]; exact Nat.lt_trans hg.2 HX.out.lt⟩) (fun g hg => ⟨Nat.le_of_lt hg.1, by rw [set9_size]; exact Nat.lt_trans hg.2 HX.out.lt⟩))
   clear hX hR hB hlt
   have q0 := (HX.out.cell 0).trans rfl
   have q1 := (HX.out.cell 1).trans rfl
   have q2 := (HX.out.cell 2).trans rfl
   have q3 := (HX.out.cell 3).trans rfl
   have q4 := (HX.out.cell 4).trans rfl
   have q5 := (HX.out.cell 5).trans rfl
   have q6 := (HX.out.cell 6).trans rfl
   have q7 := (HX.out.cell 7).trans rfl
   have q8 := (HX.out.cell 8).trans rfl
   have f0 : wr.frozen? ⟨w.heap.size, 0, none⟩ = false := HR.out.frozen 0
   have r0 := (HR.out.cell 0).trans rfl
   have f1 : wr.frozen? ⟨w.heap.size, 1, none⟩ = false := HR.out.frozen 1
   have r1 := (HR.out.cell 1).trans rfl
   have f2 : wr.frozen? ⟨w.heap.size, 2, none⟩ = false := HR.out.frozen 2
   have r2 := (HR.out.cell 2).trans rfl
   have f3 : wr.frozen? ⟨w.heap.size, 3, none⟩ = false := HR.out.frozen 3
   have r3 := (HR.out.cell 3).trans rfl
   have f4 : wr.frozen? ⟨w.heap.size, 4, none⟩ = false := HR.out.frozen 4
   have r4 := (HR.out.cell 4).trans rfl
   have f5 : wr.frozen? ⟨w.heap.size, 5, none⟩ = false := HR.out.frozen 5
   have r5 := (HR.out.cell 5).trans rfl
   have f6 : wr.frozen? ⟨w.heap.size, 6, none⟩ = false := HR.out.frozen 6
   have r6 := (HR.out.cell 6).trans rfl
   have f7 : wr.frozen? ⟨w.heap.size, 7, none⟩ = false := HR.out.frozen 7
   have r7 := (HR.out.cell 7).trans rfl
   have f8 : wr.frozen? ⟨w.heap.size, 8, none⟩ = false := HR.out.frozen 8
   have r8 := (HR.out.cell 8).trans rfl
   go_wp2
   refine bodyPost_ret (res_cell_tmp rfl _ _ w.heap.size 39 _ (0, 0) _ rfl RE.out Tryd.underlying39 rfl (by kernel_rfl)) rfl ?_
   exact ⟨_, by rw [HV.out]; rfl, by rw [HV.out]; exact KE.out, HE.out⟩
theorem rat15_any (v : Int) (l : List Stp) (nv : Value) (w : World) (hn : WayV w.heap.size w nv l) (hl : l.length ≤ 1000000) (hsz : ∀ s ∈ l, s.2.length ≤ 9223372036854775807) : Calls Tryd.prog 13 #[.int .i64 v, nv] w (LieSp (atP v l) w) := by
 by_cases h : v < 1 ∨ 3 < v
 ·exact (rat15_no v l nv w h hn).mono fun _ _ h => h.lie
 ·exact (rat15_in v l nv w (by omega) (by omega) hn hl hsz).mono fun _ _ h => h.lie
end Go.Proofs.YtikmilcdibldhaaDoor
