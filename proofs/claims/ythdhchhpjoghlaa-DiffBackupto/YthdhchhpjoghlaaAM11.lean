/- Law16D -/
import Derived.Test.YthdhchhpjoghlaaAM0
import Derived.Test.YthdhchhpjoghlaaAM10
set_option linter.unusedSimpArgs false
set_option linter.unusedVariables false
namespace Go.Proofs.Ythdhchhpjoghlaa
open Go.RowKit
attribute [local go_sem] Oper.semAt_some
set_option maxRecDepth 100000 in
set_option maxHeartbeats 4000000 in
theorem diffBack_not (a b : NdD) (f g : NdF) (A B : Option Addr) (c d : Nat) (w : World) (hx : LieN w (ndC a (.slice A f.len c)) (a, f)) (hy : LieN w (ndC b (.slice B g.len d)) (b, g)) (hf : f.size ≤ 1000000) (hg : g.size ≤ 1000000) (C : DifC w) (HA : Awake16 w) (hs : smallX a b f g = false) : Calls Try.prog 5 #[.agg #[.string (txt a.name), .string (txt a.key), .int .i64 a.kind, .int .u64 (a.num : Int), .string (txt a.text), .slice A f.len c], .agg #[.string (txt b.name), .string (txt b.key), .int .i64 b.kind, .int .u64 (b.num : Int), .string (txt b.text), .slice B g.len d]] w (Ans9 (.bool true) w) := by
 have hb2 : Blk ((w.alloc (.cells #[.string (txt a.name), .string (txt a.key), .int .i64 a.kind, .int .u64 (a.num : Int), .string (txt a.text), .slice A f.len c] 27)).alloc (.cells #[.string (txt b.name), .string (txt b.key), .int .i64 b.kind, .int .u64 (b.num : Int), .string (txt b.text), .slice B g.len d] 27)) (w.heap.size + 1) 27 #[.string (txt b.name), .string (txt b.key), .int .i64 b.kind, .int .u64 (b.num : Int), .string (txt b.text), .slice B g.len d] := by
  have h := Blk.new (w.alloc (.cells #[.string (txt a.name), .string (txt a.key), .int .i64 a.kind, .int .u64 (a.num : Int), .string (txt a.text), .slice A f.len c] 27)) 27 #[.string (txt b.name), .string (txt b.key), .int .i64 b.kind, .int .u64 (b.num : Int), .string (txt b.text), .slice B g.len d]
  rwa [show (w.alloc (.cells #[.string (txt a.name), .string (txt a.key), .int .i64 a.kind, .int .u64 (a.num : Int), .string (txt a.text), .slice A f.len c] 27)).heap.size = w.heap.size + 1 by simp] at h
 have hb1 : Blk ((w.alloc (.cells #[.string (txt a.name), .string (txt a.key), .int .i64 a.kind, .int .u64 (a.num : Int), .string (txt a.text), .slice A f.len c] 27)).alloc (.cells #[.string (txt b.name), .string (txt b.key), .int .i64 b.kind, .int .u64 (b.num : Int), .string (txt b.text), .slice B g.len d] 27)) w.heap.size 27 #[.string (txt a.name), .string (txt a.key), .int .i64 a.kind, .int .u64 (a.num : Int), .string (txt a.text), .slice A f.len c] := (Blk.new w 27 #[.string (txt a.name), .string (txt a.key), .int .i64 a.kind, .int .u64 (a.num : Int), .string (txt a.text), .slice A f.len c]).alloc (.cells #[.string (txt b.name), .string (txt b.key), .int .i64 b.kind, .int .u64 (b.num : Int), .string (txt b.text), .slice B g.len d] 27)
 have hbw : Below w.heap.size w ((w.alloc (.cells #[.string (txt a.name), .string (txt a.key), .int .i64 a.kind, .int .u64 (a.num : Int), .string (txt a.text), .slice A f.len c] 27)).alloc (.cells #[.string (txt b.name), .string (txt b.key), .int .i64 b.kind, .int .u64 (b.num : Int), .string (txt b.text), .slice B g.len d] 27)) := ((Below.refl _ _).alloc (Nat.le_refl _) _).alloc (by simp) _
 have hc1 : ∀ W, Below w.heap.size w W → Hid (Calls Try.prog 8 #[.agg #[.string (txt a.name), .string (txt a.key), .int .i64 a.kind, .int .u64 (a.num : Int), .string (txt a.text), .slice A f.len c], .agg #[.string (txt b.name), .string (txt b.key), .int .i64 b.kind, .int .u64 (b.num : Int), .string (txt b.text), .slice B g.len d]] W (Ans9 (.bool (smallX a b f g)) W)) := fun W h => Lib.hid (small16_any a b f g A B c d W (hx.below h) (hy.below h) (by omega) (by omega))
 have HX := Lib.hid hb1
 have HY := Lib.hid hb2
 have HB := Lib.hid hbw
 have HAW := Lib.hid (HA _ hbw)
 rw [hs] at hc1
 have C1 := Lib.hid hc1
 clear hx hy hf hg hc1 hb1 hb2 hbw HA C hs
 go_enter Try.func5, Try.ntmps5
 go_wp2_with fail
 refine HAW.out.mono ?_
 rintro r w1 ⟨rfl, hb⟩
 have HX1 := Lib.hid (HX.out.below hb HX.out.lt)
 have HY1 := Lib.hid (HY.out.below hb HY.out.lt)
 have HB1 := Lib.hid (HB.out.trans (hb.mono HB.out.size))
 clear hb
 have q0 := (HX1.out.cell 0).trans rfl
 have q1 := (HX1.out.cell 1).trans rfl
 have q2 := (HX1.out.cell 2).trans rfl
 have q3 := (HX1.out.cell 3).trans rfl
 have q4 := (HX1.out.cell 4).trans rfl
 have q5 := (HX1.out.cell 5).trans rfl
 have x0 := (HY1.out.cell 0).trans rfl
 have x1 := (HY1.out.cell 1).trans rfl
 have x2 := (HY1.out.cell 2).trans rfl
 have x3 := (HY1.out.cell 3).trans rfl
 have x4 := (HY1.out.cell 4).trans rfl
 have x5 := (HY1.out.cell 5).trans rfl
 go_wp2_with fail
 refine (C1.out _ HB1.out).out.mono ?_
 rintro r w2 ⟨rfl, hb⟩
 have HX2 := Lib.hid (HX1.out.below hb HX1.out.lt)
 have HY2 := Lib.hid (HY1.out.below hb HY1.out.lt)
 have HB2 := Lib.hid (HB1.out.trans (hb.mono HB1.out.size))
 clear hb
 have q0 := (HX2.out.cell 0).trans rfl
 have q1 := (HX2.out.cell 1).trans rfl
 have q2 := (HX2.out.cell 2).trans rfl
 have q3 := (HX2.out.cell 3).trans rfl
 have q4 := (HX2.out.cell 4).trans rfl
 have q5 := (HX2.out.cell 5).trans rfl
 have x0 := (HY2.out.cell 0).trans rfl
 have x1 := (HY2.out.cell 1).trans rfl
 have x2 := (HY2.out.cell 2).trans rfl
 have x3 := (HY2.out.cell 3).trans rfl
 have x4 := (HY2.out.cell 4).trans rfl
 have x5 := (HY2.out.cell 5).trans rfl
 go_wp2
 go_ret
 exact ⟨rfl, HB2.out⟩
theorem rgt_zero {a : NdD} {f : NdF} (h : rgtX (a, f) = true) (h0 : a.kind = 0) : rgtX (zeroT, f) = true ∧ rgtF f = true := by
 unfold rgtX at h
 rw [if_neg (by simp [h0])] at h
 have h2 : rgtF f = true := by
  simp only [Bool.and_eq_true] at h
  exact h.2
 exact ⟨by unfold rgtX; rw [if_neg (by simp [zeroT]), h2]; rfl, h2⟩
theorem lie_zero {a : NdD} {f : NdF} {A : Option Addr} {c : Nat} {W : World} (h : LieN W (ndC a (.slice A f.len c)) (a, f)) : LieN W (ndC zeroT (.slice A f.len c)) (zeroT, f) := LieB.make (RowS.bel h)
set_option maxRecDepth 100000 in
set_option maxHeartbeats 4000000 in
theorem diffBack_yes (a b : NdD) (f g : NdF) (A B : Option Addr) (c d : Nat) (w : World) (hx : LieN w (ndC a (.slice A f.len c)) (a, f)) (hy : LieN w (ndC b (.slice B g.len d)) (b, g)) (hf : f.size ≤ 1000000) (hg : g.size ≤ 1000000) (C : DifC w) (HA : Awake16 w) (hs : smallX a b f g = true) : Calls Try.prog 5 #[.agg #[.string (txt a.name), .string (txt a.key), .int .i64 a.kind, .int .u64 (a.num : Int), .string (txt a.text), .slice A f.len c], .agg #[.string (txt b.name), .string (txt b.key), .int .i64 b.kind, .int .u64 (b.num : Int), .string (txt b.text), .slice B g.len d]] w (Ans9 (.bool true) w) := by
 have hb2 : Blk ((w.alloc (.cells #[.string (txt a.name), .string (txt a.key), .int .i64 a.kind, .int .u64 (a.num : Int), .string (txt a.text), .slice A f.len c] 27)).alloc (.cells #[.string (txt b.name), .string (txt b.key), .int .i64 b.kind, .int .u64 (b.num : Int), .string (txt b.text), .slice B g.len d] 27)) (w.heap.size + 1) 27 #[.string (txt b.name), .string (txt b.key), .int .i64 b.kind, .int .u64 (b.num : Int), .string (txt b.text), .slice B g.len d] := by
  have h := Blk.new (w.alloc (.cells #[.string (txt a.name), .string (txt a.key), .int .i64 a.kind, .int .u64 (a.num : Int), .string (txt a.text), .slice A f.len c] 27)) 27 #[.string (txt b.name), .string (txt b.key), .int .i64 b.kind, .int .u64 (b.num : Int), .string (txt b.text), .slice B g.len d]
  rwa [show (w.alloc (.cells #[.string (txt a.name), .string (txt a.key), .int .i64 a.kind, .int .u64 (a.num : Int), .string (txt a.text), .slice A f.len c] 27)).heap.size = w.heap.size + 1 by simp] at h
 have hb1 : Blk ((w.alloc (.cells #[.string (txt a.name), .string (txt a.key), .int .i64 a.kind, .int .u64 (a.num : Int), .string (txt a.text), .slice A f.len c] 27)).alloc (.cells #[.string (txt b.name), .string (txt b.key), .int .i64 b.kind, .int .u64 (b.num : Int), .string (txt b.text), .slice B g.len d] 27)) w.heap.size 27 #[.string (txt a.name), .string (txt a.key), .int .i64 a.kind, .int .u64 (a.num : Int), .string (txt a.text), .slice A f.len c] := (Blk.new w 27 #[.string (txt a.name), .string (txt a.key), .int .i64 a.kind, .int .u64 (a.num : Int), .string (txt a.text), .slice A f.len c]).alloc (.cells #[.string (txt b.name), .string (txt b.key), .int .i64 b.kind, .int .u64 (b.num : Int), .string (txt b.text), .slice B g.len d] 27)
 have hbw : Below w.heap.size w ((w.alloc (.cells #[.string (txt a.name), .string (txt a.key), .int .i64 a.kind, .int .u64 (a.num : Int), .string (txt a.text), .slice A f.len c] 27)).alloc (.cells #[.string (txt b.name), .string (txt b.key), .int .i64 b.kind, .int .u64 (b.num : Int), .string (txt b.text), .slice B g.len d] 27)) := ((Below.refl _ _).alloc (Nat.le_refl _) _).alloc (by simp) _
 have hc1 : ∀ W, Below w.heap.size w W → Hid (Calls Try.prog 8 #[.agg #[.string (txt a.name), .string (txt a.key), .int .i64 a.kind, .int .u64 (a.num : Int), .string (txt a.text), .slice A f.len c], .agg #[.string (txt b.name), .string (txt b.key), .int .i64 b.kind, .int .u64 (b.num : Int), .string (txt b.text), .slice B g.len d]] W (Ans9 (.bool (smallX a b f g)) W)) := fun W h => Lib.hid (small16_any a b f g A B c d W (hx.below h) (hy.below h) (by omega) (by omega))
 have HX := Lib.hid hb1
 have HY := Lib.hid hb2
 have HB := Lib.hid hbw
 have HAW := Lib.hid (HA _ hbw)
 rw [hs] at hc1
 obtain ⟨⟨⟨⟨⟨s1, s2⟩, s3⟩, s4⟩, s5⟩, s6⟩ : ((((f.size + 1 ≤ 300 ∧ g.size + 1 ≤ 300) ∧ a.kind = 0) ∧ b.kind = 0) ∧ rgtX (a, f) = true) ∧ rgtX (b, g) = true := by simpa [smallX] using hs
 obtain ⟨r1, r2⟩ := rgt_zero s5 s3
 obtain ⟨r3, r4⟩ := rgt_zero s6 s4
 obtain ⟨L, hL⟩ : ∃ L, L = edF f g [] := ⟨_, rfl⟩
 obtain ⟨M, hM⟩ : ∃ M, M = edF g f [] := ⟨_, rfl⟩
 obtain ⟨I, hI⟩ : ∃ I, I = invX L := ⟨_, rfl⟩
 have hii := inv_inv (l := L) (fun e he => (ed_shp f g [] e (hL ▸ he)).1)
 have hJ : invX I = L := by rw [hI]; exact hii.1
 have hIl : I.length = L.length := by rw [hI]; exact hii.2
 have hLM : L.length = M.length := by rw [hL, hM]; exact ed_back f g [] []
 have hfl : FewE L := hL ▸ fewE_ed (by omega)
 have hfs : (L.length = 0) ↔ f = g := by
  constructor
  ·intro h
   exact ed_none f g [] r2 r4 (hL ▸ List.eq_nil_of_length_eq_zero h)
  ·intro h
   rw [hL, h, ed_self]; rfl
 obtain ⟨s, hss⟩ : ∃ s, s = decide (L.length = 0) := ⟨_, rfl⟩
 have HEQ : Hid (((L.length : Int) == 0) = s) := Lib.hid (by rw [hss, Bool.eq_iff_iff]; simp)
 have hc2 : ∀ W, Below w.heap.size w W → Hid (Calls Try.prog 10 #[.agg #[.string ⟨#[]⟩, .string ⟨#[]⟩, .int .i64 0, .int .u64 0, .string ⟨#[]⟩, .slice A f.len c], .agg #[.string ⟨#[]⟩, .string ⟨#[]⟩, .int .i64 0, .int .u64 0, .string ⟨#[]⟩, .slice B g.len d]] W (InvP L W)) := fun W h => Lib.hid (hL ▸ C.edits zeroT zeroT f g A B c d W (lie_zero (hx.below h)) (lie_zero (hy.below h)) (by omega) rfl rfl r1 r3 h)
 have hc3 : ∀ W, Below w.heap.size w W → Hid (Calls Try.prog 10 #[.agg #[.string ⟨#[]⟩, .string ⟨#[]⟩, .int .i64 0, .int .u64 0, .string ⟨#[]⟩, .slice B g.len d], .agg #[.string ⟨#[]⟩, .string ⟨#[]⟩, .int .i64 0, .int .u64 0, .string ⟨#[]⟩, .slice A f.len c]] W (InvP M W)) := fun W h => Lib.hid (hM ▸ C.edits zeroT zeroT g f B A d c W (lie_zero (hy.below h)) (lie_zero (hx.below h)) (by omega) rfl rfl r3 r1 h)
 have hc4 : ∀ W, Below w.heap.size w W → Hid (Calls Try.prog 10 #[.agg #[.string ⟨#[]⟩, .string ⟨#[]⟩, .int .i64 0, .int .u64 0, .string ⟨#[]⟩, .slice A f.len c], .agg #[.string ⟨#[]⟩, .string ⟨#[]⟩, .int .i64 0, .int .u64 0, .string ⟨#[]⟩, .slice A f.len c]] W (InvP [] W)) := fun W h => Lib.hid (by
  have h4 := C.edits zeroT zeroT f f A A c c W (lie_zero (hx.below h)) (lie_zero (hx.below h)) (by omega) rfl rfl r1 r1 h
  rwa [ed_self] at h4)
 have hc5 : ∀ W, Below w.heap.size w W → Hid (Calls Try.prog 18 #[.agg #[.string ⟨#[]⟩, .string ⟨#[]⟩, .int .i64 0, .int .u64 0, .string ⟨#[]⟩, .slice A f.len c], .agg #[.string ⟨#[]⟩, .string ⟨#[]⟩, .int .i64 0, .int .u64 0, .string ⟨#[]⟩, .slice B g.len d]] W (Ans9 (.bool s) W)) := fun W h => Lib.hid (by
  have h5 := rsamet_any (zeroT, f) (zeroT, g) _ _ W (lie_zero (hx.below h)) (lie_zero (hy.below h)) (show f.size ≤ 1000000 by omega) (show g.size ≤ 1000000 by omega)
  rw [show decide (((zeroT, f) : Nd) = (zeroT, g)) = s by rw [hss]; simp [hfs]] at h5
  exact h5)
 have hc6 : ∀ v W, Below w.heap.size w W → EdsV (Bel W) W v L → Hid (Calls Try.prog 13 #[v] W (InvP I W)) := fun v W h hv => Lib.hid (hI ▸ C.inv L v W hv hfl h)
 have hc7 : ∀ v W, Below w.heap.size w W → EdsV (Bel W) W v I → Hid (Calls Try.prog 13 #[v] W (InvP L W)) := fun v W h hv => Lib.hid (by
  have h7 := C.inv I v W hv (hI ▸ fewE_inv hfl) h
  rwa [hJ] at h7)
 have C1 := Lib.hid hc1
 have C2 := Lib.hid hc2
 have C3 := Lib.hid hc3
 have C4 := Lib.hid hc4
 have C5 := Lib.hid hc5
 have C6 := Lib.hid hc6
 have C7 := Lib.hid hc7
 have HFL := Lib.hid hfl
 have HSS := Lib.hid hss
 have HLM := Lib.hid hLM
 have m1 : ((L.length : Int) != (M.length : Int)) = false := by rw [hLM]; simp
 have m2 : (L.length != M.length) = false := by rw [hLM]; simp
 clear hx hy hf hg hc1 hc2 hc3 hc4 hc5 hc6 hc7 hb1 hb2 hbw HA C hs s1 s2 s3 s4 s5 s6 hL hM hI hii hJ hIl hLM hfl hfs hss r1 r2 r3 r4
 go_enter Try.func5, Try.ntmps5
 go_wp2_with fail
 refine HAW.out.mono ?_
 rintro r w1 ⟨rfl, hb⟩
 have HX1 := Lib.hid (HX.out.below hb HX.out.lt)
 have HY1 := Lib.hid (HY.out.below hb HY.out.lt)
 have HB1 := Lib.hid (HB.out.trans (hb.mono HB.out.size))
 clear hb
 have q0 := (HX1.out.cell 0).trans rfl
 have q1 := (HX1.out.cell 1).trans rfl
 have q2 := (HX1.out.cell 2).trans rfl
 have q3 := (HX1.out.cell 3).trans rfl
 have q4 := (HX1.out.cell 4).trans rfl
 have q5 := (HX1.out.cell 5).trans rfl
 have x0 := (HY1.out.cell 0).trans rfl
 have x1 := (HY1.out.cell 1).trans rfl
 have x2 := (HY1.out.cell 2).trans rfl
 have x3 := (HY1.out.cell 3).trans rfl
 have x4 := (HY1.out.cell 4).trans rfl
 have x5 := (HY1.out.cell 5).trans rfl
 go_wp2_with fail
 refine (C1.out _ HB1.out).out.mono ?_
 rintro r w2 ⟨rfl, hb⟩
 have HX2 := Lib.hid (HX1.out.below hb HX1.out.lt)
 have HY2 := Lib.hid (HY1.out.below hb HY1.out.lt)
 have HB2 := Lib.hid (HB1.out.trans (hb.mono HB1.out.size))
 clear hb
 have q0 := (HX2.out.cell 0).trans rfl
 have q1 := (HX2.out.cell 1).trans rfl
 have q2 := (HX2.out.cell 2).trans rfl
 have q3 := (HX2.out.cell 3).trans rfl
 have q4 := (HX2.out.cell 4).trans rfl
 have q5 := (HX2.out.cell 5).trans rfl
 have x0 := (HY2.out.cell 0).trans rfl
 have x1 := (HY2.out.cell 1).trans rfl
 have x2 := (HY2.out.cell 2).trans rfl
 have x3 := (HY2.out.cell 3).trans rfl
 have x4 := (HY2.out.cell 4).trans rfl
 have x5 := (HY2.out.cell 5).trans rfl
 have HYA := Lib.hid (HY2.out.alloc (.cells #[.string (txt a.name), .string (txt a.key), .int .i64 a.kind, .int .u64 (a.num : Int), .string (txt a.text), .slice A f.len c] 27))
 have y0 := (HYA.out.cell 0).trans rfl
 have y1 := (HYA.out.cell 1).trans rfl
 have y2 := (HYA.out.cell 2).trans rfl
 have y3 := (HYA.out.cell 3).trans rfl
 have y4 := (HYA.out.cell 4).trans rfl
 have y5 := (HYA.out.cell 5).trans rfl
 go_wp2_with fail
 have hk2 : Blk ((w2.alloc (.cells #[.string ⟨#[]⟩, .string ⟨#[]⟩, .int .i64 0, .int .u64 0, .string ⟨#[]⟩, .slice A f.len c] 27)).alloc (.cells #[.string ⟨#[]⟩, .string ⟨#[]⟩, .int .i64 0, .int .u64 0, .string ⟨#[]⟩, .slice B g.len d] 27)) (w2.heap.size + 1) 27 #[.string ⟨#[]⟩, .string ⟨#[]⟩, .int .i64 0, .int .u64 0, .string ⟨#[]⟩, .slice B g.len d] := by
  have h := Blk.new (w2.alloc (.cells #[.string ⟨#[]⟩, .string ⟨#[]⟩, .int .i64 0, .int .u64 0, .string ⟨#[]⟩, .slice A f.len c] 27)) 27 #[.string ⟨#[]⟩, .string ⟨#[]⟩, .int .i64 0, .int .u64 0, .string ⟨#[]⟩, .slice B g.len d]
  rwa [show (w2.alloc (.cells #[.string ⟨#[]⟩, .string ⟨#[]⟩, .int .i64 0, .int .u64 0, .string ⟨#[]⟩, .slice A f.len c] 27)).heap.size = w2.heap.size + 1 by simp] at h
 have hkw : Below w2.heap.size w2 ((w2.alloc (.cells #[.string ⟨#[]⟩, .string ⟨#[]⟩, .int .i64 0, .int .u64 0, .string ⟨#[]⟩, .slice A f.len c] 27)).alloc (.cells #[.string ⟨#[]⟩, .string ⟨#[]⟩, .int .i64 0, .int .u64 0, .string ⟨#[]⟩, .slice B g.len d] 27)) := ((Below.refl _ _).alloc (Nat.le_refl _) _).alloc (by simp) _
 have KA := Lib.hid ((Blk.new w2 27 #[.string ⟨#[]⟩, .string ⟨#[]⟩, .int .i64 0, .int .u64 0, .string ⟨#[]⟩, .slice A f.len c]).alloc (.cells #[.string ⟨#[]⟩, .string ⟨#[]⟩, .int .i64 0, .int .u64 0, .string ⟨#[]⟩, .slice B g.len d] 27))
 have KB := Lib.hid hk2
 have HBZ := Lib.hid (HB2.out.trans (hkw.mono HB2.out.size))
 clear hk2 hkw y0 y1 y2 y3 y4 y5 q0 q1 q2 q3 q4 q5 x0 x1 x2 x3 x4 x5
 refine (C2.out _ HBZ.out).out.mono ?_
 rintro r w3 ⟨v3, rfl, hv, hb⟩
 have KA3 := Lib.hid (KA.out.below hb KA.out.lt)
 have KB3 := Lib.hid (KB.out.below hb KB.out.lt)
 have HB3 := Lib.hid (HBZ.out.trans (hb.mono HBZ.out.size))
 obtain ⟨A3, c3, rfl⟩ := hv.shape
 have HL3 := Lib.hid hv
 clear hv hb
 have q0 := (KA3.out.cell 0).trans rfl
 have q1 := (KA3.out.cell 1).trans rfl
 have q2 := (KA3.out.cell 2).trans rfl
 have q3 := (KA3.out.cell 3).trans rfl
 have q4 := (KA3.out.cell 4).trans rfl
 have q5 := (KA3.out.cell 5).trans rfl
 have x0 := (KB3.out.cell 0).trans rfl
 have x1 := (KB3.out.cell 1).trans rfl
 have x2 := (KB3.out.cell 2).trans rfl
 have x3 := (KB3.out.cell 3).trans rfl
 have x4 := (KB3.out.cell 4).trans rfl
 have x5 := (KB3.out.cell 5).trans rfl
 go_wp2_with fail
 refine (C3.out _ HB3.out).out.mono ?_
 rintro r w4 ⟨v4, rfl, hv, hb⟩
 have KA4 := Lib.hid (KA3.out.below hb KA3.out.lt)
 have KB4 := Lib.hid (KB3.out.below hb KB3.out.lt)
 have HB4 := Lib.hid (HB3.out.trans (hb.mono HB3.out.size))
 obtain ⟨A4, c4, rfl⟩ := hv.shape
 have HL4 := Lib.hid (HL3.out.below hb)
 clear hv hb
 go_wp2_with fail
 refine (C6.out _ _ HB4.out HL4.out).out.mono ?_
 rintro r w5 ⟨v5, rfl, hv, hb⟩
 have KA5 := Lib.hid (KA4.out.below hb KA4.out.lt)
 have KB5 := Lib.hid (KB4.out.below hb KB4.out.lt)
 have HB5 := Lib.hid (HB4.out.trans (hb.mono HB4.out.size))
 have HI5 := Lib.hid hv
 have HL5 := Lib.hid (HL4.out.below hb)
 clear hv hb
 go_wp2_with fail
 refine (C7.out _ _ HB5.out HI5.out).out.mono ?_
 rintro r w6 ⟨v6, rfl, hv, hb⟩
 have KA6 := Lib.hid (KA5.out.below hb KA5.out.lt)
 have KB6 := Lib.hid (KB5.out.below hb KB5.out.lt)
 have HB6 := Lib.hid (HB5.out.trans (hb.mono HB5.out.size))
 have hsm := rsame16_any L L v6 _ w6 hv (HL5.out.below hb) HFL.out HFL.out
 rw [decide_eq_true rfl] at hsm
 have HSM := Lib.hid hsm
 clear hv hb hsm
 go_wp2_with fail
 refine HSM.out.mono ?_
 rintro r w7 ⟨rfl, hb⟩
 have KA7 := Lib.hid (KA6.out.below hb KA6.out.lt)
 have KB7 := Lib.hid (KB6.out.below hb KB6.out.lt)
 have HB7 := Lib.hid (HB6.out.trans (hb.mono HB6.out.size))
 clear hb
 have p0 := (KA7.out.cell 0).trans rfl
 have p1 := (KA7.out.cell 1).trans rfl
 have p2 := (KA7.out.cell 2).trans rfl
 have p3 := (KA7.out.cell 3).trans rfl
 have p4 := (KA7.out.cell 4).trans rfl
 have p5 := (KA7.out.cell 5).trans rfl
 go_wp2_with fail
 refine (C4.out _ HB7.out).out.mono ?_
 rintro r w8 ⟨v8, rfl, hv, hb⟩
 have KA8 := Lib.hid (KA7.out.below hb KA7.out.lt)
 have KB8 := Lib.hid (KB7.out.below hb KB7.out.lt)
 have HB8 := Lib.hid (HB7.out.trans (hb.mono HB7.out.size))
 obtain ⟨A8, c8, rfl⟩ := hv.shape
 clear hv hb
 have y0 := (KA8.out.cell 0).trans rfl
 have y1 := (KA8.out.cell 1).trans rfl
 have y2 := (KA8.out.cell 2).trans rfl
 have y3 := (KA8.out.cell 3).trans rfl
 have y4 := (KA8.out.cell 4).trans rfl
 have y5 := (KA8.out.cell 5).trans rfl
 have z0 := (KB8.out.cell 0).trans rfl
 have z1 := (KB8.out.cell 1).trans rfl
 have z2 := (KB8.out.cell 2).trans rfl
 have z3 := (KB8.out.cell 3).trans rfl
 have z4 := (KB8.out.cell 4).trans rfl
 have z5 := (KB8.out.cell 5).trans rfl
 go_wp2_with fail
 refine (C5.out _ HB8.out).out.mono ?_
 rintro r w9 ⟨rfl, hb⟩
 have HB9 := Lib.hid (HB8.out.trans (hb.mono HB8.out.size))
 clear hb
 go_wp2
 go_ret
 exact ⟨by have h := HEQ.out; simp [h], HB9.out⟩
theorem diffBack_walk (a b : NdD) (f g : NdF) (A B : Option Addr) (c d : Nat) (w : World) (hx : LieN w (ndC a (.slice A f.len c)) (a, f)) (hy : LieN w (ndC b (.slice B g.len d)) (b, g)) (hf : f.size ≤ 1000000) (hg : g.size ≤ 1000000) (C : DifC w) (HA : Awake16 w) : Calls Try.prog 5 #[.agg #[.string (txt a.name), .string (txt a.key), .int .i64 a.kind, .int .u64 (a.num : Int), .string (txt a.text), .slice A f.len c], .agg #[.string (txt b.name), .string (txt b.key), .int .i64 b.kind, .int .u64 (b.num : Int), .string (txt b.text), .slice B g.len d]] w (Ans9 (.bool true) w) := by
 cases hs : smallX a b f g with
 | true => exact diffBack_yes a b f g A B c d w hx hy hf hg C HA hs
 | false => exact diffBack_not a b f g A B c d w hx hy hf hg C HA hs
end Go.Proofs.Ythdhchhpjoghlaa
