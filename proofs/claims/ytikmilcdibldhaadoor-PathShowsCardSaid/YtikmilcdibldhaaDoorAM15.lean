/- Law15D -/
import Derived.Test.YtikmilcdibldhaaDoorAM0
import Derived.Test.YtikmilcdibldhaaDoorAM14
set_option linter.unusedSimpArgs false
set_option linter.unusedVariables false
namespace Go.Proofs.YtikmilcdibldhaaDoor
open Go.RowKit
attribute [local go_sem] Oper.semAt_some
set_option maxRecDepth 100000 in
set_option maxHeartbeats 4000000 in
theorem pathFronts_err (v : Int) (hv0 : -9223372036854775808 ≤ v) (hv1 : v ≤ 9223372036854775807) (fr : List Stp) (s : Stp) (N : Nat) (A : Option Addr) (c : Nat) (x y : Sp) (e f : Nat) (w : World) (hA : WayV w.heap.size w (.slice A (N + 1) c) (fr ++ [s])) (hN : N = fr.length) (h20 : N + 1 ≤ 20) (hsz : ∀ t ∈ fr ++ [s], t.1.length ≤ 9223372036854775807 ∧ t.2.length ≤ 9223372036854775807) (hx : atP v fr = (x, e)) (hy : atP v (fr ++ [s]) = (y, f)) (he : e ≠ 0) (C : PthC w) (HA : Awake15 w) : Calls Tryd.prog 6 #[.int .i64 v, .slice A (N + 1) c] w (fun r w' => r = .returned (.bool true) ∧ Below w.heap.size w w') := by
 have hxz : x = (zeroD, .nil) := by have h := atP_zero (v := v) (l := fr) (by rw [hx]; exact he); rw [hx] at h; exact h
 have hyx : x = y ∧ e = f := by
  have h := atP_snoc v fr s
  rw [hx, if_neg he, hy] at h
  exact ⟨(congrArg Prod.fst h).symm, (congrArg Prod.snd h).symm⟩
 obtain ⟨rfl, rfl⟩ := hyx
 have hx0 : x.2.len = 0 := by rw [hxz]; rfl
 have HAW := Lib.hid (HA w (Below.refl _ _))
 have HF1 : ∀ W, Below w.heap.size w W → WayV W.heap.size W (.slice A N c) fr := fun W h => by
  have h1 := (hA.below h).front N (by rw [List.length_append, ← hN]; omega)
  rwa [show (fr ++ [s]).take N = fr by rw [hN, List.take_left]] at h1
 have hc1 : ∀ W, Below w.heap.size w W → Hid (Calls Tryd.prog 12 #[.int .i64 v, .slice A N c] W (LieSp (x, e) W)) := fun W h => Lib.hid (by
  have h := C.at_ v fr _ W hv0 hv1 (HF1 W h) (by omega) (fun s hs => hsz s (by simp [hs])) h
  rwa [hx] at h)
 have hc2 : ∀ W, Below w.heap.size w W → Hid (Calls Tryd.prog 12 #[.int .i64 v, .slice A (N + 1) c] W (LieSp (x, e) W)) := fun W h => Lib.hid (by
  have h := C.at_ v (fr ++ [s]) _ W hv0 hv1 (hA.below h) (by rw [List.length_append]; simp; omega) hsz h
  rwa [hy] at h)
 have C1 := Lib.hid hc1
 have C2 := Lib.hid hc2
 have hnc : N + 1 ≤ c := by obtain ⟨_, _, e', h, _⟩ := hA; injection e' with _ e1 e2; rw [List.length_append] at h e1; simp at h; omega
 have i0 : ((N : Int) + 1 == 0) = false := beq_eq_false_iff_ne.2 (by omega)
 have i1 : ¬ (20 : Int) < (N : Int) + 1 := by omega
 have i2 : (N : Int) ≤ (c : Int) := by omega
 have i3 : (N : Int) + 1 ≤ (c : Int) := by omega
 have i4 : (0 : Int) ≤ (N : Int) := by omega
 have HX0 := Lib.hid hx0
 have n1 : ((e : Int) == 0) = false := beq_eq_false_iff_ne.2 (by omega)
 have n2 : ((e : Int) != 0) = true := by unfold bne; rw [n1]; rfl
 clear hc1 hc2 HF1 hA hx hy he C HA hsz h20 hN hnc hxz hx0
 go_enter Tryd.func6, Tryd.ntmps6
 go_wp2_with fail
 refine HAW.out.mono ?_
 rintro r w1 ⟨rfl, hB1⟩
 have HB1 := Lib.hid hB1
 clear hB1
 go_wp2_with fail
 refine (C1.out w1 HB1.out).out.mono ?_
 rintro r w3 ⟨cs, rfl, hlx, hb3⟩
 obtain ⟨Bx, mx, Ax, cx, rfl⟩ := hlx.shape
 have hal : Below w3.heap.size w3 (w3.alloc (.cells #[.string (txt x.1.name), .int .i64 (x.1.kind : Int), .int .i64 (x.1.typ : Int), .int .u64 (x.1.low : Int), .int .u64 (x.1.high : Int), .slice Bx x.1.names.length mx, .bool x.1.must, .int .i64 (x.1.most : Int), .slice Ax x.2.len cx] 34)) := (Below.refl _ _).alloc (Nat.le_refl _) _
 have HX3 : Hid (Blk (w3.alloc (.cells #[.string (txt x.1.name), .int .i64 (x.1.kind : Int), .int .i64 (x.1.typ : Int), .int .u64 (x.1.low : Int), .int .u64 (x.1.high : Int), .slice Bx x.1.names.length mx, .bool x.1.must, .int .i64 (x.1.most : Int), .slice Ax x.2.len cx] 34)) w3.heap.size 34 #[.string (txt x.1.name), .int .i64 (x.1.kind : Int), .int .i64 (x.1.typ : Int), .int .u64 (x.1.low : Int), .int .u64 (x.1.high : Int), .slice Bx x.1.names.length mx, .bool x.1.must, .int .i64 (x.1.most : Int), .slice Ax x.2.len cx]) := Lib.hid (Blk.new w3 34 #[.string (txt x.1.name), .int .i64 (x.1.kind : Int), .int .i64 (x.1.typ : Int), .int .u64 (x.1.low : Int), .int .u64 (x.1.high : Int), .slice Bx x.1.names.length mx, .bool x.1.must, .int .i64 (x.1.most : Int), .slice Ax x.2.len cx])
 have HLX3 := Lib.hid (hlx.below hal)
 have HB3 : Hid (Below w.heap.size w (w3.alloc (.cells #[.string (txt x.1.name), .int .i64 (x.1.kind : Int), .int .i64 (x.1.typ : Int), .int .u64 (x.1.low : Int), .int .u64 (x.1.high : Int), .slice Bx x.1.names.length mx, .bool x.1.must, .int .i64 (x.1.most : Int), .slice Ax x.2.len cx] 34))) := Lib.hid (HB1.out.trans ((hb3.trans (hal.mono hb3.size)).mono HB1.out.size))
 clear hlx hb3 hal
 go_wp2_with fail
 refine (C2.out _ HB3.out).out.mono ?_
 rintro r w4 ⟨cs4, rfl, hly, hb4⟩
 obtain ⟨By, my, Ay, cy, rfl⟩ := hly.shape
 have hal : Below w4.heap.size w4 (w4.alloc (.cells #[.string (txt x.1.name), .int .i64 (x.1.kind : Int), .int .i64 (x.1.typ : Int), .int .u64 (x.1.low : Int), .int .u64 (x.1.high : Int), .slice By x.1.names.length my, .bool x.1.must, .int .i64 (x.1.most : Int), .slice Ay x.2.len cy] 34)) := (Below.refl _ _).alloc (Nat.le_refl _) _
 have hb4' := hb4.trans (hal.mono hb4.size)
 have HX4 := Lib.hid (HX3.out.below hb4' HX3.out.lt)
 have HLX4 := Lib.hid (HLX3.out.below hb4')
 have HY4 : Hid (Blk (w4.alloc (.cells #[.string (txt x.1.name), .int .i64 (x.1.kind : Int), .int .i64 (x.1.typ : Int), .int .u64 (x.1.low : Int), .int .u64 (x.1.high : Int), .slice By x.1.names.length my, .bool x.1.must, .int .i64 (x.1.most : Int), .slice Ay x.2.len cy] 34)) w4.heap.size 34 #[.string (txt x.1.name), .int .i64 (x.1.kind : Int), .int .i64 (x.1.typ : Int), .int .u64 (x.1.low : Int), .int .u64 (x.1.high : Int), .slice By x.1.names.length my, .bool x.1.must, .int .i64 (x.1.most : Int), .slice Ay x.2.len cy]) := Lib.hid (Blk.new w4 34 #[.string (txt x.1.name), .int .i64 (x.1.kind : Int), .int .i64 (x.1.typ : Int), .int .u64 (x.1.low : Int), .int .u64 (x.1.high : Int), .slice By x.1.names.length my, .bool x.1.must, .int .i64 (x.1.most : Int), .slice Ay x.2.len cy])
 have HLY4 := Lib.hid (hly.below hal)
 have HB4 : Hid (Below w.heap.size w (w4.alloc (.cells #[.string (txt x.1.name), .int .i64 (x.1.kind : Int), .int .i64 (x.1.typ : Int), .int .u64 (x.1.low : Int), .int .u64 (x.1.high : Int), .slice By x.1.names.length my, .bool x.1.must, .int .i64 (x.1.most : Int), .slice Ay x.2.len cy] 34))) := Lib.hid (HB3.out.trans (hb4'.mono HB3.out.size))
 clear hly hb4 hb4' hal
 have e1 : some (Value.slice Ax x.2.len cx) = some (.slice Ax 0 cx) := by rw [HX0.out]
 have e2 : some (Value.slice Ay x.2.len cy) = some (.slice Ay 0 cy) := by rw [HX0.out]
 have q8 : ((w4.alloc (.cells #[.string (txt x.1.name), .int .i64 (x.1.kind : Int), .int .i64 (x.1.typ : Int), .int .u64 (x.1.low : Int), .int .u64 (x.1.high : Int), .slice By x.1.names.length my, .bool x.1.must, .int .i64 (x.1.most : Int), .slice Ay x.2.len cy] 34))).cell? ⟨w3.heap.size, 8, none⟩ = some (.slice Ax 0 cx) := ((HX4.out.cell 8).trans rfl).trans e1
 have r8 : ((w4.alloc (.cells #[.string (txt x.1.name), .int .i64 (x.1.kind : Int), .int .i64 (x.1.typ : Int), .int .u64 (x.1.low : Int), .int .u64 (x.1.high : Int), .slice By x.1.names.length my, .bool x.1.must, .int .i64 (x.1.most : Int), .slice Ay x.2.len cy] 34))).cell? ⟨w4.heap.size, 8, none⟩ = some (.slice Ay 0 cy) := ((HY4.out.cell 8).trans rfl).trans e2
 clear e1 e2
 go_wp2
 go_ret
 exact ⟨rfl, HB4.out⟩
set_option maxRecDepth 100000 in
set_option maxHeartbeats 4000000 in
theorem pathFronts_none (v : Int) (hv0 : -9223372036854775808 ≤ v) (hv1 : v ≤ 9223372036854775807) (fr : List Stp) (s : Stp) (N : Nat) (A : Option Addr) (c : Nat) (x y : Sp) (e f : Nat) (w : World) (hA : WayV w.heap.size w (.slice A (N + 1) c) (fr ++ [s])) (hN : N = fr.length) (h20 : N + 1 ≤ 20) (hsz : ∀ t ∈ fr ++ [s], t.1.length ≤ 9223372036854775807 ∧ t.2.length ≤ 9223372036854775807) (hx : atP v fr = (x, e)) (hy : atP v (fr ++ [s]) = (y, f)) (he : e = 0) (hf : findX s.1 x.2 = none) (C : PthC w) (F : FindC w) (HA : Awake15 w) : Calls Tryd.prog 6 #[.int .i64 v, .slice A (N + 1) c] w (fun r w' => r = .returned (.bool true) ∧ Below w.heap.size w w') := by
 have hyf : f = 22 := by
  have h := atP_snoc v fr s
  rw [hx, if_pos he, hy, goS_none hf] at h
  exact congrArg Prod.snd h
 have HAW := Lib.hid (HA w (Below.refl _ _))
 have HF1 : ∀ W, Below w.heap.size w W → WayV W.heap.size W (.slice A N c) fr := fun W h => by
  have h1 := (hA.below h).front N (by rw [List.length_append, ← hN]; omega)
  rwa [show (fr ++ [s]).take N = fr by rw [hN, List.take_left]] at h1
 have hc1 : ∀ W, Below w.heap.size w W → Hid (Calls Tryd.prog 12 #[.int .i64 v, .slice A N c] W (LieSp (x, e) W)) := fun W h => Lib.hid (by
  have h := C.at_ v fr _ W hv0 hv1 (HF1 W h) (by omega) (fun s hs => hsz s (by simp [hs])) h
  rwa [hx] at h)
 have hc2 : ∀ W, Below w.heap.size w W → Hid (Calls Tryd.prog 12 #[.int .i64 v, .slice A (N + 1) c] W (LieSp (y, f) W)) := fun W h => Lib.hid (by
  have h := C.at_ v (fr ++ [s]) _ W hv0 hv1 (hA.below h) (by rw [List.length_append]; simp; omega) hsz h
  rwa [hy] at h)
 have C1 := Lib.hid hc1
 have C2 := Lib.hid hc2
 have hnc : N + 1 ≤ c := by obtain ⟨_, _, e', h, _⟩ := hA; injection e' with _ e1 e2; rw [List.length_append] at h e1; simp at h; omega
 have i0 : ((N : Int) + 1 == 0) = false := beq_eq_false_iff_ne.2 (by omega)
 have i1 : ¬ (20 : Int) < (N : Int) + 1 := by omega
 have i2 : (N : Int) ≤ (c : Int) := by omega
 have i3 : (N : Int) + 1 ≤ (c : Int) := by omega
 have i4 : (0 : Int) ≤ (N : Int) := by omega
 have HFX := Lib.hid (by have h := few_atP v fr; rw [hx] at h; exact h : Few x)
 have hkey : ∃ g o, A = some ⟨g, o, none⟩ ∧ g < w.heap.size ∧ w.cell? ⟨g, o + N * 2, none⟩ = some (.string (txt s.1)) ∧ w.cell? ⟨g, o + N * 2 + 1, none⟩ = some (.string (txt s.2)) := by
  obtain ⟨g, o, h1, -, -, h2, h3, h4⟩ := hA.at (j := N) (s := s) (by rw [hN]; simp)
  exact ⟨g, o, h1, h2, h3, h4⟩
 obtain ⟨g, o, rfl, hgl, hkn, hkk⟩ := hkey
 have HKC := Lib.hid (And.intro hgl (And.intro hkn hkk))
 have HFC := Lib.hid F
 have HFI : Hid (findI s.1 x.2 = -1) := Lib.hid (by unfold findI; rw [hf])
 subst he
 subst hyf
 clear hc1 hc2 HF1 hA hx hy C F HA hsz h20 hN hnc hf hgl hkn hkk
 go_enter Tryd.func6, Tryd.ntmps6
 go_wp2_with fail
 refine HAW.out.mono ?_
 rintro r w1 ⟨rfl, hB1⟩
 have HB1 := Lib.hid hB1
 clear hB1
 go_wp2_with fail
 refine (C1.out w1 HB1.out).out.mono ?_
 rintro r w3 ⟨cs, rfl, hlx, hb3⟩
 obtain ⟨Bx, mx, Ax, cx, rfl⟩ := hlx.shape
 have hal : Below w3.heap.size w3 (w3.alloc (.cells #[.string (txt x.1.name), .int .i64 (x.1.kind : Int), .int .i64 (x.1.typ : Int), .int .u64 (x.1.low : Int), .int .u64 (x.1.high : Int), .slice Bx x.1.names.length mx, .bool x.1.must, .int .i64 (x.1.most : Int), .slice Ax x.2.len cx] 34)) := (Below.refl _ _).alloc (Nat.le_refl _) _
 have HX3 : Hid (Blk (w3.alloc (.cells #[.string (txt x.1.name), .int .i64 (x.1.kind : Int), .int .i64 (x.1.typ : Int), .int .u64 (x.1.low : Int), .int .u64 (x.1.high : Int), .slice Bx x.1.names.length mx, .bool x.1.must, .int .i64 (x.1.most : Int), .slice Ax x.2.len cx] 34)) w3.heap.size 34 #[.string (txt x.1.name), .int .i64 (x.1.kind : Int), .int .i64 (x.1.typ : Int), .int .u64 (x.1.low : Int), .int .u64 (x.1.high : Int), .slice Bx x.1.names.length mx, .bool x.1.must, .int .i64 (x.1.most : Int), .slice Ax x.2.len cx]) := Lib.hid (Blk.new w3 34 #[.string (txt x.1.name), .int .i64 (x.1.kind : Int), .int .i64 (x.1.typ : Int), .int .u64 (x.1.low : Int), .int .u64 (x.1.high : Int), .slice Bx x.1.names.length mx, .bool x.1.must, .int .i64 (x.1.most : Int), .slice Ax x.2.len cx])
 have HLX3 := Lib.hid (hlx.below hal)
 have HB3 : Hid (Below w.heap.size w (w3.alloc (.cells #[.string (txt x.1.name), .int .i64 (x.1.kind : Int), .int .i64 (x.1.typ : Int), .int .u64 (x.1.low : Int), .int .u64 (x.1.high : Int), .slice Bx x.1.names.length mx, .bool x.1.must, .int .i64 (x.1.most : Int), .slice Ax x.2.len cx] 34))) := Lib.hid (HB1.out.trans ((hb3.trans (hal.mono hb3.size)).mono HB1.out.size))
 clear hlx hb3 hal
 go_wp2_with fail
 refine (C2.out _ HB3.out).out.mono ?_
 rintro r w4 ⟨cs4, rfl, hly, hb4⟩
 obtain ⟨By, my, Ay, cy, rfl⟩ := hly.shape
 have hal : Below w4.heap.size w4 (w4.alloc (.cells #[.string (txt y.1.name), .int .i64 (y.1.kind : Int), .int .i64 (y.1.typ : Int), .int .u64 (y.1.low : Int), .int .u64 (y.1.high : Int), .slice By y.1.names.length my, .bool y.1.must, .int .i64 (y.1.most : Int), .slice Ay y.2.len cy] 34)) := (Below.refl _ _).alloc (Nat.le_refl _) _
 have hb4' := hb4.trans (hal.mono hb4.size)
 have HX4 := Lib.hid (HX3.out.below hb4' HX3.out.lt)
 have HLX4 := Lib.hid (HLX3.out.below hb4')
 have HY4 : Hid (Blk (w4.alloc (.cells #[.string (txt y.1.name), .int .i64 (y.1.kind : Int), .int .i64 (y.1.typ : Int), .int .u64 (y.1.low : Int), .int .u64 (y.1.high : Int), .slice By y.1.names.length my, .bool y.1.must, .int .i64 (y.1.most : Int), .slice Ay y.2.len cy] 34)) w4.heap.size 34 #[.string (txt y.1.name), .int .i64 (y.1.kind : Int), .int .i64 (y.1.typ : Int), .int .u64 (y.1.low : Int), .int .u64 (y.1.high : Int), .slice By y.1.names.length my, .bool y.1.must, .int .i64 (y.1.most : Int), .slice Ay y.2.len cy]) := Lib.hid (Blk.new w4 34 #[.string (txt y.1.name), .int .i64 (y.1.kind : Int), .int .i64 (y.1.typ : Int), .int .u64 (y.1.low : Int), .int .u64 (y.1.high : Int), .slice By y.1.names.length my, .bool y.1.must, .int .i64 (y.1.most : Int), .slice Ay y.2.len cy])
 have HLY4 := Lib.hid (hly.below hal)
 have HB4 : Hid (Below w.heap.size w (w4.alloc (.cells #[.string (txt y.1.name), .int .i64 (y.1.kind : Int), .int .i64 (y.1.typ : Int), .int .u64 (y.1.low : Int), .int .u64 (y.1.high : Int), .slice By y.1.names.length my, .bool y.1.must, .int .i64 (y.1.most : Int), .slice Ay y.2.len cy] 34))) := Lib.hid (HB3.out.trans (hb4'.mono HB3.out.size))
 clear hly hb4 hb4' hal
 have HX5 : Hid (Blk (w4.alloc (.cells #[.string (txt y.1.name), .int .i64 (y.1.kind : Int), .int .i64 (y.1.typ : Int), .int .u64 (y.1.low : Int), .int .u64 (y.1.high : Int), .slice By y.1.names.length my, .bool y.1.must, .int .i64 (y.1.most : Int), .slice Ay y.2.len cy] 34)).drew w3.heap.size 34 #[.string (txt x.1.name), .int .i64 (x.1.kind : Int), .int .i64 (x.1.typ : Int), .int .u64 (x.1.low : Int), .int .u64 (x.1.high : Int), .slice Bx x.1.names.length mx, .bool x.1.must, .int .i64 (x.1.most : Int), .slice Ax x.2.len cx]) := Lib.hid (HX4.out.below (Below.refl _ _).drew HX4.out.lt)
 have HLX5 : Hid (Lies (w4.alloc (.cells #[.string (txt y.1.name), .int .i64 (y.1.kind : Int), .int .i64 (y.1.typ : Int), .int .u64 (y.1.low : Int), .int .u64 (y.1.high : Int), .slice By y.1.names.length my, .bool y.1.must, .int .i64 (y.1.most : Int), .slice Ay y.2.len cy] 34)).drew [.string (txt x.1.name), .int .i64 (x.1.kind : Int), .int .i64 (x.1.typ : Int), .int .u64 (x.1.low : Int), .int .u64 (x.1.high : Int), .slice Bx x.1.names.length mx, .bool x.1.must, .int .i64 (x.1.most : Int), .slice Ax x.2.len cx] x) := Lib.hid (HLX4.out.below (Below.refl _ _).drew)
 have HY5 : Hid (Blk (w4.alloc (.cells #[.string (txt y.1.name), .int .i64 (y.1.kind : Int), .int .i64 (y.1.typ : Int), .int .u64 (y.1.low : Int), .int .u64 (y.1.high : Int), .slice By y.1.names.length my, .bool y.1.must, .int .i64 (y.1.most : Int), .slice Ay y.2.len cy] 34)).drew w4.heap.size 34 #[.string (txt y.1.name), .int .i64 (y.1.kind : Int), .int .i64 (y.1.typ : Int), .int .u64 (y.1.low : Int), .int .u64 (y.1.high : Int), .slice By y.1.names.length my, .bool y.1.must, .int .i64 (y.1.most : Int), .slice Ay y.2.len cy]) := Lib.hid (HY4.out.below (Below.refl _ _).drew HY4.out.lt)
 have HLY5 : Hid (Lies (w4.alloc (.cells #[.string (txt y.1.name), .int .i64 (y.1.kind : Int), .int .i64 (y.1.typ : Int), .int .u64 (y.1.low : Int), .int .u64 (y.1.high : Int), .slice By y.1.names.length my, .bool y.1.must, .int .i64 (y.1.most : Int), .slice Ay y.2.len cy] 34)).drew [.string (txt y.1.name), .int .i64 (y.1.kind : Int), .int .i64 (y.1.typ : Int), .int .u64 (y.1.low : Int), .int .u64 (y.1.high : Int), .slice By y.1.names.length my, .bool y.1.must, .int .i64 (y.1.most : Int), .slice Ay y.2.len cy] y) := Lib.hid (HLY4.out.below (Below.refl _ _).drew)
 have HB5 : Hid (Below w.heap.size w (w4.alloc (.cells #[.string (txt y.1.name), .int .i64 (y.1.kind : Int), .int .i64 (y.1.typ : Int), .int .u64 (y.1.low : Int), .int .u64 (y.1.high : Int), .slice By y.1.names.length my, .bool y.1.must, .int .i64 (y.1.most : Int), .slice Ay y.2.len cy] 34)).drew) := Lib.hid HB4.out.drew
 have HS5 : Hid (Blk (w4.alloc (.cells #[.string (txt y.1.name), .int .i64 (y.1.kind : Int), .int .i64 (y.1.typ : Int), .int .u64 (y.1.low : Int), .int .u64 (y.1.high : Int), .slice By y.1.names.length my, .bool y.1.must, .int .i64 (y.1.most : Int), .slice Ay y.2.len cy] 34)).drew w3.heap.size 34 #[.string (txt x.1.name), .int .i64 (x.1.kind : Int), .int .i64 (x.1.typ : Int), .int .u64 (x.1.low : Int), .int .u64 (x.1.high : Int), .slice Bx x.1.names.length mx, .bool x.1.must, .int .i64 (x.1.most : Int), .slice Ax x.2.len cx] ∧ (w4.alloc (.cells #[.string (txt y.1.name), .int .i64 (y.1.kind : Int), .int .i64 (y.1.typ : Int), .int .u64 (y.1.low : Int), .int .u64 (y.1.high : Int), .slice By y.1.names.length my, .bool y.1.must, .int .i64 (y.1.most : Int), .slice Ay y.2.len cy] 34)).drew.cell? ⟨g, o + N * 2, none⟩ = some (.string (txt s.1))) := Lib.hid ⟨HX5.out, (HB5.out.cell (p := ⟨g, o + N * 2, none⟩) HKC.out.1).trans HKC.out.2.1⟩
 have n0 : N < N + 1 := Nat.lt_succ_self N
 have n1 : (N : Int) < (N : Int) + 1 := by omega
 go_wp2_with fail
 refine wp_region_noPanic ?_
 refine wp_region_held_drew (S := fun _ => True) (by kernel_rfl) trivial (fun hS => ?_)
 refine held_more (S' := fun w' => Blk w' w3.heap.size 34 #[.string (txt x.1.name), .int .i64 (x.1.kind : Int), .int .i64 (x.1.typ : Int), .int .u64 (x.1.low : Int), .int .u64 (x.1.high : Int), .slice Bx x.1.names.length mx, .bool x.1.must, .int .i64 (x.1.most : Int), .slice Ax x.2.len cx] ∧ w'.cell? ⟨g, o + N * 2, none⟩ = some (.string (txt s.1))) (fun _ _ => trivial) _ _ _ _ ?_
 replace hS := HS5.out
 refine wpAnyH_take (i := 0) (oi := ?o_0) (v := ?v_0) ?i_0 (by kernel_rfl) (by kernel_rfl) (by kernel_rfl) (fun _ _ _ h => h) (Or.inl ⟨?g_0, ?y_0⟩) hS ?_
 case i_0 => simp only [layG]; rfl
 case g_0 => rfl
 case y_0 => (intro w hSw; have q0 := (hSw.1.cell 0).trans rfl; have q1 := (hSw.1.cell 1).trans rfl; have q2 := (hSw.1.cell 2).trans rfl; have q3 := (hSw.1.cell 3).trans rfl; have q4 := (hSw.1.cell 4).trans rfl; have q5 := (hSw.1.cell 5).trans rfl; have q6 := (hSw.1.cell 6).trans rfl; have q7 := (hSw.1.cell 7).trans rfl; have q8 := (hSw.1.cell 8).trans rfl; (go_simp <;> with_reducible rfl))
 (try simp only [Act.put, layS])
 refine wpAnyH_take (i := 1) (oi := ?o_1) (v := ?v_1) ?i_1 (by kernel_rfl) (by kernel_rfl) (by kernel_rfl) (fun _ _ _ h => h) (Or.inl ⟨?g_1, ?y_1⟩) hS ?_
 case i_1 => simp only [layG]; rfl
 case g_1 => rfl
 case y_1 => (intro w hSw; (go_simp <;> with_reducible rfl))
 (try simp only [Act.put, layS])
 refine wpAnyH_take (i := 2) (oi := ?o_2) (v := ?v_2) ?i_2 (by kernel_rfl) (by kernel_rfl) (by kernel_rfl) (fun _ _ _ h => h) (Or.inl ⟨?g_2, ?y_2⟩) hS ?_
 case i_2 => simp only [layG]; rfl
 case g_2 => rfl
 case y_2 => (intro w hSw; (go_simp <;> with_reducible rfl))
 (try simp only [Act.put, layS])
 refine wpAnyH_take (i := 3) (oi := ?o_3) (v := ?v_3) ?i_3 (by kernel_rfl) (by kernel_rfl) (by kernel_rfl) (fun _ _ _ h => h) (Or.inl ⟨?g_3, ?y_3⟩) hS ?_
 case i_3 => simp only [layG]; rfl
 case g_3 => rfl
 case y_3 => (intro w hSw; (go_simp <;> with_reducible rfl))
 (try simp only [Act.put, layS])
 refine wpAnyH_take (i := 4) (oi := ?o_4) (v := ?v_4) ?i_4 (by kernel_rfl) (by kernel_rfl) (by kernel_rfl) (fun _ _ _ h => h) (Or.inl ⟨?g_4, ?y_4⟩) hS ?_
 case i_4 => simp only [layG]; rfl
 case g_4 => rfl
 case y_4 => (intro w hSw; (go_simp <;> with_reducible rfl))
 (try simp only [Act.put, layS])
 refine wpAnyH_take (i := 5) (oi := ?o_5) (v := ?v_5) ?i_5 (by kernel_rfl) (by kernel_rfl) (by kernel_rfl) (fun _ _ _ h => h) (Or.inl ⟨?g_5, ?y_5⟩) hS ?_
 case i_5 => simp only [layG]; rfl
 case g_5 => rfl
 case y_5 => (intro w hSw; have hc := hSw.2; (go_simp <;> with_reducible rfl))
 (try simp only [Act.put, layS])
 refine wpAnyH_ready (rs := [6]) (by kernel_rfl) (by simp) ?_
 refine (AllReadyH.cons (o := ?or_6) ?ir_6 (fun K hK => ?str_6) AllReadyH.nil)
 case ir_6 => simp only [layG]; rfl
 rw [if_pos (by rfl)]
 go_simp
 refine (find_c HFC.out s.1 HB5.out HLX5.out HFX.out).mono ?_
 rintro r w5 ⟨rfl, hb⟩
 have HX6 := Lib.hid (HX5.out.below hb HX5.out.lt)
 have HY6 := Lib.hid (HY5.out.below hb HY5.out.lt)
 have HLX6 := Lib.hid (HLX5.out.below hb)
 have HLY6 := Lib.hid (HLY5.out.below hb)
 have HB6 := Lib.hid (HB5.out.trans (hb.mono HB5.out.size))
 have HS6 := Lib.hid (And.intro HX6.out ((HB6.out.cell (p := ⟨g, o + N * 2, none⟩) HKC.out.1).trans HKC.out.2.1))
 clear hb
 go_wp2_with fail
 refine hK.out _ _ ?sr_6 (fun hS => ?_)
 case sr_6 => (exact HS6.out)
 clear hK K
 (try simp only [Act.put, layS])
 refine wpAnyH_take (i := 7) (oi := ?o_7) (v := ?v_7) ?i_7 (by kernel_rfl) (by kernel_rfl) (by kernel_rfl) (fun _ _ _ h => h) (Or.inl ⟨?g_7, ?y_7⟩) hS ?_
 case i_7 => simp only [layG]; rfl
 case g_7 => rfl
 case y_7 => (intro w hSw; (go_simp <;> with_reducible rfl))
 (try simp only [Act.put, layS])
 refine wpAnyH_done (by kernel_rfl) ?_ _
 refine NoPanic.normal ?_
 clear hS
 rw [HFI.out]
 go_wp2
 go_ret
 exact ⟨rfl, HB6.out⟩
theorem Lies.kid {w : World} {cs : List Value} {x y : Sp} {i n c : Nat} {A : Option Addr} (h : Lies w cs x) (hA : cs[8]? = some (.slice A n c)) (hg : x.2.get? i = some y) :
  ∃ b o cs', A = some ⟨b, o, none⟩ ∧ b < w.heap.size ∧ Lies w cs' y ∧ ∀ j u, cs'[j]? = some u → w.cell? ⟨b, o + i * 9 + j, none⟩ = some u := by
 obtain ⟨S, N, hS, hN, h⟩ := h
 obtain ⟨B, m, A', c', d, rfl, -, -, hk⟩ := h.shape
 simp only [List.getElem?_cons_succ, List.getElem?_cons_zero, Option.some.injEq, Value.slice.injEq] at hA
 obtain ⟨rfl, rfl, rfl⟩ := hA
 obtain ⟨a, q⟩ := y
 obtain ⟨b, o, c'', cs', e, -, hSb, hNk, hcl⟩ := hk.at hg
 injection e with e1 e2 e3
 exact ⟨b, o, cs', e1, hS b hSb, ⟨S, N, hS, hN, hNk⟩, hcl⟩
set_option maxRecDepth 100000 in
set_option maxHeartbeats 4000000 in
theorem pathFronts_okL (v : Int) (hv0 : -9223372036854775808 ≤ v) (hv1 : v ≤ 9223372036854775807) (fr : List Stp) (s : Stp) (N : Nat) (A : Option Addr) (c : Nat) (x y : Sp) (e f : Nat) (w : World) (hA : WayV w.heap.size w (.slice A (N + 1) c) (fr ++ [s])) (hN : N = fr.length) (h20 : N + 1 ≤ 20) (hsz : ∀ t ∈ fr ++ [s], t.1.length ≤ 9223372036854775807 ∧ t.2.length ≤ 9223372036854775807) (hx : atP v fr = (x, e)) (hy : atP v (fr ++ [s]) = (y, f)) (he : e = 0) (i : Nat) (hf : findX s.1 x.2 = some i) (hg : x.2.get? i = some y) (hf0 : f = 0) (m1 : ((y.1.kind : Int) == 3) = true) (m2 : s.2.isEmpty = false ∧ (s.2 == []) = false ∧ (s.2 != []) = true) (C : PthC w) (F : FindC w) (HA : Awake15 w) : Calls Tryd.prog 6 #[.int .i64 v, .slice A (N + 1) c] w (fun r w' => r = .returned (.bool true) ∧ Below w.heap.size w w') := by
 have HAW := Lib.hid (HA w (Below.refl _ _))
 have HF1 : ∀ W, Below w.heap.size w W → WayV W.heap.size W (.slice A N c) fr := fun W h => by
  have h1 := (hA.below h).front N (by rw [List.length_append, ← hN]; omega)
  rwa [show (fr ++ [s]).take N = fr by rw [hN, List.take_left]] at h1
 have hc1 : ∀ W, Below w.heap.size w W → Hid (Calls Tryd.prog 12 #[.int .i64 v, .slice A N c] W (LieSp (x, e) W)) := fun W h => Lib.hid (by
  have h := C.at_ v fr _ W hv0 hv1 (HF1 W h) (by omega) (fun s hs => hsz s (by simp [hs])) h
  rwa [hx] at h)
 have hc2 : ∀ W, Below w.heap.size w W → Hid (Calls Tryd.prog 12 #[.int .i64 v, .slice A (N + 1) c] W (LieSp (y, f) W)) := fun W h => Lib.hid (by
  have h := C.at_ v (fr ++ [s]) _ W hv0 hv1 (hA.below h) (by rw [List.length_append]; simp; omega) hsz h
  rwa [hy] at h)
 have C1 := Lib.hid hc1
 have C2 := Lib.hid hc2
 have hnc : N + 1 ≤ c := by obtain ⟨_, _, e', h, _⟩ := hA; injection e' with _ e1 e2; rw [List.length_append] at h e1; simp at h; omega
 have i0 : ((N : Int) + 1 == 0) = false := beq_eq_false_iff_ne.2 (by omega)
 have i1 : ¬ (20 : Int) < (N : Int) + 1 := by omega
 have i2 : (N : Int) ≤ (c : Int) := by omega
 have i3 : (N : Int) + 1 ≤ (c : Int) := by omega
 have i4 : (0 : Int) ≤ (N : Int) := by omega
 have HFX := Lib.hid (by have h := few_atP v fr; rw [hx] at h; exact h : Few x)
 have hkey : ∃ g o, A = some ⟨g, o, none⟩ ∧ g < w.heap.size ∧ w.cell? ⟨g, o + N * 2, none⟩ = some (.string (txt s.1)) ∧ w.cell? ⟨g, o + N * 2 + 1, none⟩ = some (.string (txt s.2)) := by
  obtain ⟨g, o, h1, -, -, h2, h3, h4⟩ := hA.at (j := N) (s := s) (by rw [hN]; simp)
  exact ⟨g, o, h1, h2, h3, h4⟩
 obtain ⟨g, o, rfl, hgl, hkn, hkk⟩ := hkey
 have HKC := Lib.hid (And.intro hgl (And.intro hkn hkk))
 have HFC := Lib.hid F
 have HFI : Hid (findI s.1 x.2 = (i : Int)) := Lib.hid (by unfold findI; rw [hf])
 have HGK := Lib.hid hg
 have HIL := Lib.hid (Fr.get_lt hg)
 have HFY := Lib.hid (by have h := few_atP v (fr ++ [s]); rw [hy] at h; exact h : Few y)
 subst he
 subst hf0
 have tk : (txt s.2).toList = s.2 := txt_toList _
 clear hc1 hc2 HF1 hA hx hy C F HA hsz h20 hN hnc hf hgl hkn hkk hg
 go_enter Tryd.func6, Tryd.ntmps6
 go_wp2_with fail
 refine HAW.out.mono ?_
 rintro r w1 ⟨rfl, hB1⟩
 have HB1 := Lib.hid hB1
 clear hB1
 go_wp2_with fail
 refine (C1.out w1 HB1.out).out.mono ?_
 rintro r w3 ⟨cs, rfl, hlx, hb3⟩
 obtain ⟨Bx, mx, Ax, cx, rfl⟩ := hlx.shape
 have hal : Below w3.heap.size w3 (w3.alloc (.cells #[.string (txt x.1.name), .int .i64 (x.1.kind : Int), .int .i64 (x.1.typ : Int), .int .u64 (x.1.low : Int), .int .u64 (x.1.high : Int), .slice Bx x.1.names.length mx, .bool x.1.must, .int .i64 (x.1.most : Int), .slice Ax x.2.len cx] 34)) := (Below.refl _ _).alloc (Nat.le_refl _) _
 have HX3 : Hid (Blk (w3.alloc (.cells #[.string (txt x.1.name), .int .i64 (x.1.kind : Int), .int .i64 (x.1.typ : Int), .int .u64 (x.1.low : Int), .int .u64 (x.1.high : Int), .slice Bx x.1.names.length mx, .bool x.1.must, .int .i64 (x.1.most : Int), .slice Ax x.2.len cx] 34)) w3.heap.size 34 #[.string (txt x.1.name), .int .i64 (x.1.kind : Int), .int .i64 (x.1.typ : Int), .int .u64 (x.1.low : Int), .int .u64 (x.1.high : Int), .slice Bx x.1.names.length mx, .bool x.1.must, .int .i64 (x.1.most : Int), .slice Ax x.2.len cx]) := Lib.hid (Blk.new w3 34 #[.string (txt x.1.name), .int .i64 (x.1.kind : Int), .int .i64 (x.1.typ : Int), .int .u64 (x.1.low : Int), .int .u64 (x.1.high : Int), .slice Bx x.1.names.length mx, .bool x.1.must, .int .i64 (x.1.most : Int), .slice Ax x.2.len cx])
 have HLX3 := Lib.hid (hlx.below hal)
 have HB3 : Hid (Below w.heap.size w (w3.alloc (.cells #[.string (txt x.1.name), .int .i64 (x.1.kind : Int), .int .i64 (x.1.typ : Int), .int .u64 (x.1.low : Int), .int .u64 (x.1.high : Int), .slice Bx x.1.names.length mx, .bool x.1.must, .int .i64 (x.1.most : Int), .slice Ax x.2.len cx] 34))) := Lib.hid (HB1.out.trans ((hb3.trans (hal.mono hb3.size)).mono HB1.out.size))
 clear hlx hb3 hal
 go_wp2_with fail
 refine (C2.out _ HB3.out).out.mono ?_
 rintro r w4 ⟨cs4, rfl, hly, hb4⟩
 obtain ⟨By, my, Ay, cy, rfl⟩ := hly.shape
 have hal : Below w4.heap.size w4 (w4.alloc (.cells #[.string (txt y.1.name), .int .i64 (y.1.kind : Int), .int .i64 (y.1.typ : Int), .int .u64 (y.1.low : Int), .int .u64 (y.1.high : Int), .slice By y.1.names.length my, .bool y.1.must, .int .i64 (y.1.most : Int), .slice Ay y.2.len cy] 34)) := (Below.refl _ _).alloc (Nat.le_refl _) _
 have hb4' := hb4.trans (hal.mono hb4.size)
 have HX4 := Lib.hid (HX3.out.below hb4' HX3.out.lt)
 have HLX4 := Lib.hid (HLX3.out.below hb4')
 have HY4 : Hid (Blk (w4.alloc (.cells #[.string (txt y.1.name), .int .i64 (y.1.kind : Int), .int .i64 (y.1.typ : Int), .int .u64 (y.1.low : Int), .int .u64 (y.1.high : Int), .slice By y.1.names.length my, .bool y.1.must, .int .i64 (y.1.most : Int), .slice Ay y.2.len cy] 34)) w4.heap.size 34 #[.string (txt y.1.name), .int .i64 (y.1.kind : Int), .int .i64 (y.1.typ : Int), .int .u64 (y.1.low : Int), .int .u64 (y.1.high : Int), .slice By y.1.names.length my, .bool y.1.must, .int .i64 (y.1.most : Int), .slice Ay y.2.len cy]) := Lib.hid (Blk.new w4 34 #[.string (txt y.1.name), .int .i64 (y.1.kind : Int), .int .i64 (y.1.typ : Int), .int .u64 (y.1.low : Int), .int .u64 (y.1.high : Int), .slice By y.1.names.length my, .bool y.1.must, .int .i64 (y.1.most : Int), .slice Ay y.2.len cy])
 have HLY4 := Lib.hid (hly.below hal)
 have HB4 : Hid (Below w.heap.size w (w4.alloc (.cells #[.string (txt y.1.name), .int .i64 (y.1.kind : Int), .int .i64 (y.1.typ : Int), .int .u64 (y.1.low : Int), .int .u64 (y.1.high : Int), .slice By y.1.names.length my, .bool y.1.must, .int .i64 (y.1.most : Int), .slice Ay y.2.len cy] 34))) := Lib.hid (HB3.out.trans (hb4'.mono HB3.out.size))
 clear hly hb4 hb4' hal
 have HX5 : Hid (Blk (w4.alloc (.cells #[.string (txt y.1.name), .int .i64 (y.1.kind : Int), .int .i64 (y.1.typ : Int), .int .u64 (y.1.low : Int), .int .u64 (y.1.high : Int), .slice By y.1.names.length my, .bool y.1.must, .int .i64 (y.1.most : Int), .slice Ay y.2.len cy] 34)).drew w3.heap.size 34 #[.string (txt x.1.name), .int .i64 (x.1.kind : Int), .int .i64 (x.1.typ : Int), .int .u64 (x.1.low : Int), .int .u64 (x.1.high : Int), .slice Bx x.1.names.length mx, .bool x.1.must, .int .i64 (x.1.most : Int), .slice Ax x.2.len cx]) := Lib.hid (HX4.out.below (Below.refl _ _).drew HX4.out.lt)
 have HLX5 : Hid (Lies (w4.alloc (.cells #[.string (txt y.1.name), .int .i64 (y.1.kind : Int), .int .i64 (y.1.typ : Int), .int .u64 (y.1.low : Int), .int .u64 (y.1.high : Int), .slice By y.1.names.length my, .bool y.1.must, .int .i64 (y.1.most : Int), .slice Ay y.2.len cy] 34)).drew [.string (txt x.1.name), .int .i64 (x.1.kind : Int), .int .i64 (x.1.typ : Int), .int .u64 (x.1.low : Int), .int .u64 (x.1.high : Int), .slice Bx x.1.names.length mx, .bool x.1.must, .int .i64 (x.1.most : Int), .slice Ax x.2.len cx] x) := Lib.hid (HLX4.out.below (Below.refl _ _).drew)
 have HY5 : Hid (Blk (w4.alloc (.cells #[.string (txt y.1.name), .int .i64 (y.1.kind : Int), .int .i64 (y.1.typ : Int), .int .u64 (y.1.low : Int), .int .u64 (y.1.high : Int), .slice By y.1.names.length my, .bool y.1.must, .int .i64 (y.1.most : Int), .slice Ay y.2.len cy] 34)).drew w4.heap.size 34 #[.string (txt y.1.name), .int .i64 (y.1.kind : Int), .int .i64 (y.1.typ : Int), .int .u64 (y.1.low : Int), .int .u64 (y.1.high : Int), .slice By y.1.names.length my, .bool y.1.must, .int .i64 (y.1.most : Int), .slice Ay y.2.len cy]) := Lib.hid (HY4.out.below (Below.refl _ _).drew HY4.out.lt)
 have HLY5 : Hid (Lies (w4.alloc (.cells #[.string (txt y.1.name), .int .i64 (y.1.kind : Int), .int .i64 (y.1.typ : Int), .int .u64 (y.1.low : Int), .int .u64 (y.1.high : Int), .slice By y.1.names.length my, .bool y.1.must, .int .i64 (y.1.most : Int), .slice Ay y.2.len cy] 34)).drew [.string (txt y.1.name), .int .i64 (y.1.kind : Int), .int .i64 (y.1.typ : Int), .int .u64 (y.1.low : Int), .int .u64 (y.1.high : Int), .slice By y.1.names.length my, .bool y.1.must, .int .i64 (y.1.most : Int), .slice Ay y.2.len cy] y) := Lib.hid (HLY4.out.below (Below.refl _ _).drew)
 have HB5 : Hid (Below w.heap.size w (w4.alloc (.cells #[.string (txt y.1.name), .int .i64 (y.1.kind : Int), .int .i64 (y.1.typ : Int), .int .u64 (y.1.low : Int), .int .u64 (y.1.high : Int), .slice By y.1.names.length my, .bool y.1.must, .int .i64 (y.1.most : Int), .slice Ay y.2.len cy] 34)).drew) := Lib.hid HB4.out.drew
 have HS5 : Hid (Blk (w4.alloc (.cells #[.string (txt y.1.name), .int .i64 (y.1.kind : Int), .int .i64 (y.1.typ : Int), .int .u64 (y.1.low : Int), .int .u64 (y.1.high : Int), .slice By y.1.names.length my, .bool y.1.must, .int .i64 (y.1.most : Int), .slice Ay y.2.len cy] 34)).drew w3.heap.size 34 #[.string (txt x.1.name), .int .i64 (x.1.kind : Int), .int .i64 (x.1.typ : Int), .int .u64 (x.1.low : Int), .int .u64 (x.1.high : Int), .slice Bx x.1.names.length mx, .bool x.1.must, .int .i64 (x.1.most : Int), .slice Ax x.2.len cx] ∧ (w4.alloc (.cells #[.string (txt y.1.name), .int .i64 (y.1.kind : Int), .int .i64 (y.1.typ : Int), .int .u64 (y.1.low : Int), .int .u64 (y.1.high : Int), .slice By y.1.names.length my, .bool y.1.must, .int .i64 (y.1.most : Int), .slice Ay y.2.len cy] 34)).drew.cell? ⟨g, o + N * 2, none⟩ = some (.string (txt s.1))) := Lib.hid ⟨HX5.out, (HB5.out.cell (p := ⟨g, o + N * 2, none⟩) HKC.out.1).trans HKC.out.2.1⟩
 have n0 : N < N + 1 := Nat.lt_succ_self N
 have n1 : (N : Int) < (N : Int) + 1 := by omega
 go_wp2_with fail
 refine wp_region_noPanic ?_
 refine wp_region_held_drew (S := fun _ => True) (by kernel_rfl) trivial (fun hS => ?_)
 refine held_more (S' := fun w' => Blk w' w3.heap.size 34 #[.string (txt x.1.name), .int .i64 (x.1.kind : Int), .int .i64 (x.1.typ : Int), .int .u64 (x.1.low : Int), .int .u64 (x.1.high : Int), .slice Bx x.1.names.length mx, .bool x.1.must, .int .i64 (x.1.most : Int), .slice Ax x.2.len cx] ∧ w'.cell? ⟨g, o + N * 2, none⟩ = some (.string (txt s.1))) (fun _ _ => trivial) _ _ _ _ ?_
 replace hS := HS5.out
 refine wpAnyH_take (i := 0) (oi := ?o_8) (v := ?v_8) ?i_8 (by kernel_rfl) (by kernel_rfl) (by kernel_rfl) (fun _ _ _ h => h) (Or.inl ⟨?g_8, ?y_8⟩) hS ?_
 case i_8 => simp only [layG]; rfl
 case g_8 => rfl
 case y_8 => (intro w hSw; have q0 := (hSw.1.cell 0).trans rfl; have q1 := (hSw.1.cell 1).trans rfl; have q2 := (hSw.1.cell 2).trans rfl; have q3 := (hSw.1.cell 3).trans rfl; have q4 := (hSw.1.cell 4).trans rfl; have q5 := (hSw.1.cell 5).trans rfl; have q6 := (hSw.1.cell 6).trans rfl; have q7 := (hSw.1.cell 7).trans rfl; have q8 := (hSw.1.cell 8).trans rfl; (go_simp <;> with_reducible rfl))
 (try simp only [Act.put, layS])
 refine wpAnyH_take (i := 1) (oi := ?o_9) (v := ?v_9) ?i_9 (by kernel_rfl) (by kernel_rfl) (by kernel_rfl) (fun _ _ _ h => h) (Or.inl ⟨?g_9, ?y_9⟩) hS ?_
 case i_9 => simp only [layG]; rfl
 case g_9 => rfl
 case y_9 => (intro w hSw; (go_simp <;> with_reducible rfl))
 (try simp only [Act.put, layS])
 refine wpAnyH_take (i := 2) (oi := ?o_a) (v := ?v_a) ?i_a (by kernel_rfl) (by kernel_rfl) (by kernel_rfl) (fun _ _ _ h => h) (Or.inl ⟨?g_a, ?y_a⟩) hS ?_
 case i_a => simp only [layG]; rfl
 case g_a => rfl
 case y_a => (intro w hSw; (go_simp <;> with_reducible rfl))
 (try simp only [Act.put, layS])
 refine wpAnyH_take (i := 3) (oi := ?o_b) (v := ?v_b) ?i_b (by kernel_rfl) (by kernel_rfl) (by kernel_rfl) (fun _ _ _ h => h) (Or.inl ⟨?g_b, ?y_b⟩) hS ?_
 case i_b => simp only [layG]; rfl
 case g_b => rfl
 case y_b => (intro w hSw; (go_simp <;> with_reducible rfl))
 (try simp only [Act.put, layS])
 refine wpAnyH_take (i := 4) (oi := ?o_c) (v := ?v_c) ?i_c (by kernel_rfl) (by kernel_rfl) (by kernel_rfl) (fun _ _ _ h => h) (Or.inl ⟨?g_c, ?y_c⟩) hS ?_
 case i_c => simp only [layG]; rfl
 case g_c => rfl
 case y_c => (intro w hSw; (go_simp <;> with_reducible rfl))
 (try simp only [Act.put, layS])
 refine wpAnyH_take (i := 5) (oi := ?o_d) (v := ?v_d) ?i_d (by kernel_rfl) (by kernel_rfl) (by kernel_rfl) (fun _ _ _ h => h) (Or.inl ⟨?g_d, ?y_d⟩) hS ?_
 case i_d => simp only [layG]; rfl
 case g_d => rfl
 case y_d => (intro w hSw; have hc := hSw.2; (go_simp <;> with_reducible rfl))
 (try simp only [Act.put, layS])
 refine wpAnyH_ready (rs := [6]) (by kernel_rfl) (by simp) ?_
 refine (AllReadyH.cons (o := ?or_e) ?ir_e (fun K hK => ?str_e) AllReadyH.nil)
 case ir_e => simp only [layG]; rfl
 rw [if_pos (by rfl)]
 go_simp
 refine (find_c HFC.out s.1 HB5.out HLX5.out HFX.out).mono ?_
 rintro r w5 ⟨rfl, hb⟩
 have HX6 := Lib.hid (HX5.out.below hb HX5.out.lt)
 have HY6 := Lib.hid (HY5.out.below hb HY5.out.lt)
 have HLX6 := Lib.hid (HLX5.out.below hb)
 have HLY6 := Lib.hid (HLY5.out.below hb)
 have HB6 := Lib.hid (HB5.out.trans (hb.mono HB5.out.size))
 have HS6 := Lib.hid (And.intro HX6.out ((HB6.out.cell (p := ⟨g, o + N * 2, none⟩) HKC.out.1).trans HKC.out.2.1))
 clear hb
 go_wp2_with fail
 refine hK.out _ _ ?sr_e (fun hS => ?_)
 case sr_e => (exact HS6.out)
 clear hK K
 (try simp only [Act.put, layS])
 refine wpAnyH_take (i := 7) (oi := ?o_f) (v := ?v_f) ?i_f (by kernel_rfl) (by kernel_rfl) (by kernel_rfl) (fun _ _ _ h => h) (Or.inl ⟨?g_f, ?y_f⟩) hS ?_
 case i_f => simp only [layG]; rfl
 case g_f => rfl
 case y_f => (intro w hSw; (go_simp <;> with_reducible rfl))
 (try simp only [Act.put, layS])
 refine wpAnyH_done (by kernel_rfl) ?_ _
 refine NoPanic.normal ?_
 clear hS
 rw [HFI.out]
 obtain ⟨kb, ko, cs', rfl, hkb, hlk, hcl⟩ := HLX6.out.kid rfl HGK.out
 obtain ⟨Bk, mk, Ak, ck, rfl⟩ := hlk.shape
 have HLK6 := Lib.hid hlk
 have HKB := Lib.hid hkb
 have HCL : Hid (∀ j u, ([.string (txt y.1.name), .int .i64 (y.1.kind : Int), .int .i64 (y.1.typ : Int), .int .u64 (y.1.low : Int), .int .u64 (y.1.high : Int), .slice Bk y.1.names.length mk, .bool y.1.must, .int .i64 (y.1.most : Int), .slice Ak y.2.len ck])[j]? = some u → w5.cell? ⟨kb, ko + i * 9 + j, none⟩ = some u) := Lib.hid hcl
 have x8 : w5.cell? ⟨w3.heap.size, 8, none⟩ = some (.slice (some ⟨kb, ko, none⟩) x.2.len cx) := (HX6.out.cell 8).trans rfl
 have k1 : w5.cell? ⟨kb, ko + i * 9 + 1, none⟩ = some (.int .i64 (y.1.kind : Int)) := hcl 1 _ rfl
 have ckk : w5.cell? ⟨g, o + N * 2 + 1, none⟩ = some (.string (txt s.2)) := (HB6.out.cell (p := ⟨g, o + N * 2 + 1, none⟩) HKC.out.1).trans HKC.out.2.2
 have j1 : (0 : Int) ≤ (i : Int) := by omega
 have j2 : (i : Int) < (x.2.len : Int) := by have := HIL.out; omega
 have j3 : ¬ (i : Int) < 0 := by omega
 have j4 : i < x.2.len := HIL.out
 clear hkb hlk hcl
 have HLY7 := Lib.hid (HLY6.out.below (Below.refl _ _).drew)
 have HLK7 := Lib.hid (HLK6.out.below (Below.refl _ _).drew)
 have HB7 := Lib.hid HB6.out.drew
 obtain ⟨sn, sk⟩ := s
 simp only at tk m2 ckk
 have HKK := Lib.hid ckk
 have HGL := Lib.hid (Nat.lt_of_lt_of_le HKC.out.1 HB6.out.size)
 clear ckk
 have e0 : txt [] = (⟨#[]⟩ : ByteArray) := rfl
 obtain ⟨m2, m3, m4⟩ := m2
 go_wp2_with fail
 refine wp_region_noPanic ?_
 refine wp_region_held_drew (S := fun _ => True) (by kernel_rfl) trivial (fun hS => ?_)
 refine held_more (S' := fun w' => Below w5.heap.size w5 w') (fun _ _ => trivial) _ _ _ _ ?_
 replace hS := (Below.refl w5.heap.size w5).drew
 refine wpAnyH_take (i := 0) (oi := ?o_g) (v := ?v_g) ?i_g (by kernel_rfl) (by kernel_rfl) (by kernel_rfl) (fun _ _ _ h => h) (Or.inl ⟨?g_g, ?y_g⟩) hS ?_
 case i_g => simp only [layG]; rfl
 case g_g => rfl
 case y_g => (intro w hSw; have q0 := ((HY6.out.below hSw HY6.out.lt).cell 0).trans rfl; have q1 := ((HY6.out.below hSw HY6.out.lt).cell 1).trans rfl; have q2 := ((HY6.out.below hSw HY6.out.lt).cell 2).trans rfl; have q3 := ((HY6.out.below hSw HY6.out.lt).cell 3).trans rfl; have q4 := ((HY6.out.below hSw HY6.out.lt).cell 4).trans rfl; have q5 := ((HY6.out.below hSw HY6.out.lt).cell 5).trans rfl; have q6 := ((HY6.out.below hSw HY6.out.lt).cell 6).trans rfl; have q7 := ((HY6.out.below hSw HY6.out.lt).cell 7).trans rfl; have q8 := ((HY6.out.below hSw HY6.out.lt).cell 8).trans rfl; (go_simp <;> with_reducible rfl))
 (try simp only [Act.put, layS])
 refine wpAnyH_take (i := 2) (oi := ?o_h) (v := ?v_h) ?i_h (by kernel_rfl) (by kernel_rfl) (by kernel_rfl) (fun _ _ _ h => h) (Or.inl ⟨?g_h, ?y_h⟩) hS ?_
 case i_h => simp only [layG]; rfl
 case g_h => rfl
 case y_h => (intro w hSw; (go_simp <;> with_reducible rfl))
 (try simp only [Act.put, layS])
 refine wpAnyH_take (i := 3) (oi := ?o_i) (v := ?v_i) ?i_i (by kernel_rfl) (by kernel_rfl) (by kernel_rfl) (fun _ _ _ h => h) (Or.inl ⟨?g_i, ?y_i⟩) hS ?_
 case i_i => simp only [layG]; rfl
 case g_i => rfl
 case y_i => (intro w hSw; have xq : w.cell? ⟨w3.heap.size, 8, none⟩ = _ := (hSw.cell (p := ⟨w3.heap.size, 8, none⟩) HX6.out.lt).trans x8; (go_simp <;> with_reducible rfl))
 (try simp only [Act.put, layS])
 refine wpAnyH_take (i := 4) (oi := ?o_j) (v := ?v_j) ?i_j (by kernel_rfl) (by kernel_rfl) (by kernel_rfl) (fun _ _ _ h => h) (Or.inl ⟨?g_j, ?y_j⟩) hS ?_
 case i_j => simp only [layG]; rfl
 case g_j => rfl
 case y_j => (intro w hSw; (go_simp <;> with_reducible rfl))
 (try simp only [Act.put, layS])
 refine wpAnyH_take (i := 5) (oi := ?o_k) (v := ?v_k) ?i_k (by kernel_rfl) (by kernel_rfl) (by kernel_rfl) (fun _ _ _ h => h) (Or.inl ⟨?g_k, ?y_k⟩) hS ?_
 case i_k => simp only [layG]; rfl
 case g_k => rfl
 case y_k => (intro w hSw; (go_simp <;> with_reducible rfl))
 (try simp only [Act.put, layS])
 refine wpAnyH_take (i := 6) (oi := ?o_l) (v := ?v_l) ?i_l (by kernel_rfl) (by kernel_rfl) (by kernel_rfl) (fun _ _ _ h => h) (Or.inl ⟨?g_l, ?y_l⟩) hS ?_
 case i_l => simp only [layG]; rfl
 case g_l => rfl
 case y_l => (intro w hSw; have z0 : w.cell? ⟨kb, ko + i * 9, none⟩ = _ := (hSw.cell (p := ⟨kb, ko + i * 9, none⟩) HKB.out).trans (HCL.out 0 _ rfl); have z1 := (hSw.cell (p := ⟨kb, ko + i * 9 + 1, none⟩) HKB.out).trans (HCL.out 1 _ rfl); have z2 := (hSw.cell (p := ⟨kb, ko + i * 9 + 2, none⟩) HKB.out).trans (HCL.out 2 _ rfl); have z3 := (hSw.cell (p := ⟨kb, ko + i * 9 + 3, none⟩) HKB.out).trans (HCL.out 3 _ rfl); have z4 := (hSw.cell (p := ⟨kb, ko + i * 9 + 4, none⟩) HKB.out).trans (HCL.out 4 _ rfl); have z5 := (hSw.cell (p := ⟨kb, ko + i * 9 + 5, none⟩) HKB.out).trans (HCL.out 5 _ rfl); have z6 := (hSw.cell (p := ⟨kb, ko + i * 9 + 6, none⟩) HKB.out).trans (HCL.out 6 _ rfl); have z7 := (hSw.cell (p := ⟨kb, ko + i * 9 + 7, none⟩) HKB.out).trans (HCL.out 7 _ rfl); have z8 := (hSw.cell (p := ⟨kb, ko + i * 9 + 8, none⟩) HKB.out).trans (HCL.out 8 _ rfl); (go_simp <;> with_reducible rfl))
 (try simp only [Act.put, layS])
 refine wpAnyH_ready (rs := [1]) (by kernel_rfl) (by simp) ?_
 refine (AllReadyH.cons (o := ?or_m) ?ir_m (fun K hK => ?str_m) AllReadyH.nil)
 case ir_m => simp only [layG]; rfl
 rw [if_pos (by rfl)]
 go_simp
 refine (plain15_l HLY7.out HFY.out).mono ?_
 rintro r w7 ⟨cz, rfl, hlz, hb⟩
 obtain ⟨Bz, mz, Az, cz', rfl⟩ := hlz.shape
 have HLZ8 := Lib.hid hlz
 have HLK8 := Lib.hid (HLK7.out.below hb)
 have HB8 := Lib.hid (HB7.out.trans (hb.mono HB7.out.size))
 have HW8 := Lib.hid ((Below.refl w5.heap.size w5).drew.trans hb)
 clear hb hlz
 go_wp2_with fail
 refine hK.out _ _ ?sr_m (fun hS => ?_)
 case sr_m => (exact HW8.out)
 clear hK K
 (try simp only [Act.put, layS])
 refine wpAnyH_ready (rs := [7]) (by kernel_rfl) (by simp) ?_
 refine (AllReadyH.cons (o := ?or_n) ?ir_n (fun K hK => ?str_n) AllReadyH.nil)
 case ir_n => simp only [layG]; rfl
 rw [if_pos (by rfl)]
 go_simp
 refine (plain15_l HLK8.out HFY.out).mono ?_
 rintro r w8 ⟨cu, rfl, hlu, hb⟩
 obtain ⟨Bu, mu, Au, cu', rfl⟩ := hlu.shape
 have HLU9 := Lib.hid hlu
 have HLZ9 := Lib.hid (HLZ8.out.below hb)
 have HB9 := Lib.hid (HB8.out.trans (hb.mono HB8.out.size))
 have HW9 := Lib.hid (HW8.out.trans (hb.mono HW8.out.size))
 clear hb hlu
 go_wp2_with fail
 refine hK.out _ _ ?sr_n (fun hS => ?_)
 case sr_n => (exact HW9.out)
 clear hK K
 (try simp only [Act.put, layS])
 refine wpAnyH_ready (rs := [8]) (by kernel_rfl) (by simp) ?_
 refine (AllReadyH.cons (o := ?or_o) ?ir_o (fun K hK => ?str_o) AllReadyH.nil)
 case ir_o => simp only [layG]; rfl
 rw [if_pos (by rfl)]
 go_simp
 refine (same_l HLZ9.out HLU9.out HFY.out).mono ?_
 rintro r w9 ⟨rfl, hb⟩
 have HB10 := Lib.hid (HB9.out.trans (hb.mono HB9.out.size))
 have HW10 := Lib.hid (HW9.out.trans (hb.mono HW9.out.size))
 clear hb
 go_wp2_with fail
 refine hK.out _ _ ?sr_o (fun hS => ?_)
 case sr_o => (exact HW10.out)
 clear hK K
 (try simp only [Act.put, layS])
 refine wpAnyH_take (i := 9) (oi := ?o_p) (v := ?v_p) ?i_p (by kernel_rfl) (by kernel_rfl) (by kernel_rfl) (fun _ _ _ h => h) (Or.inl ⟨?g_p, ?y_p⟩) hS ?_
 case i_p => simp only [layG]; rfl
 case g_p => rfl
 case y_p => (intro w hSw; (go_simp <;> with_reducible rfl))
 (try simp only [Act.put, layS])
 refine wpAnyH_take (i := 10) (oi := ?o_q) (v := ?v_q) ?i_q (by kernel_rfl) (by kernel_rfl) (by kernel_rfl) (fun _ _ _ h => h) (Or.inl ⟨?g_q, ?y_q⟩) hS ?_
 case i_q => simp only [layG]; rfl
 case g_q => rfl
 case y_q => (intro w hSw; (go_simp <;> with_reducible rfl))
 (try simp only [Act.put, layS])
 refine wpAnyH_take (i := 11) (oi := ?o_r) (v := ?v_r) ?i_r (by kernel_rfl) (by kernel_rfl) (by kernel_rfl) (fun _ _ _ h => h) (Or.inl ⟨?g_r, ?y_r⟩) hS ?_
 case i_r => simp only [layG]; rfl
 case g_r => rfl
 case y_r => (intro w hSw; (go_simp <;> with_reducible rfl))
 (try simp only [Act.put, layS])
 refine wpAnyH_take (i := 12) (oi := ?o_s) (v := ?v_s) ?i_s (by kernel_rfl) (by kernel_rfl) (by kernel_rfl) (fun _ _ _ h => h) (Or.inl ⟨?g_s, ?y_s⟩) hS ?_
 case i_s => simp only [layG]; rfl
 case g_s => rfl
 case y_s => (intro w hSw; (go_simp <;> with_reducible rfl))
 (try simp only [Act.put, layS])
 refine wpAnyH_take (i := 13) (oi := ?o_t) (v := ?v_t) ?i_t (by kernel_rfl) (by kernel_rfl) (by kernel_rfl) (fun _ _ _ h => h) (Or.inl ⟨?g_t, ?y_t⟩) hS ?_
 case i_t => simp only [layG]; rfl
 case g_t => rfl
 case y_t => (intro w hSw; (go_simp <;> with_reducible rfl))
 (try simp only [Act.put, layS])
 refine wpAnyH_take (i := 14) (oi := ?o_u) (v := ?v_u) ?i_u (by kernel_rfl) (by kernel_rfl) (by kernel_rfl) (fun _ _ _ h => h) (Or.inl ⟨?g_u, ?y_u⟩) hS ?_
 case i_u => simp only [layG]; rfl
 case g_u => rfl
 case y_u => (intro w hSw; (go_simp <;> with_reducible rfl))
 (try simp only [Act.put, layS])
 refine wpAnyH_take (i := 15) (oi := ?o_v) (v := ?v_v) ?i_v (by kernel_rfl) (by kernel_rfl) (by kernel_rfl) (fun _ _ _ h => h) (Or.inl ⟨?g_v, ?y_v⟩) hS ?_
 case i_v => simp only [layG]; rfl
 case g_v => rfl
 case y_v => (intro w hSw; have hkk := (hSw.cell (p := ⟨g, o + N * 2 + 1, none⟩) HGL.out).trans HKK.out; (go_simp <;> with_reducible rfl))
 (try simp only [Act.put, layS])
 refine wpAnyH_take (i := 16) (oi := ?o_w) (v := ?v_w) ?i_w (by kernel_rfl) (by kernel_rfl) (by kernel_rfl) (fun _ _ _ h => h) (Or.inl ⟨?g_w, ?y_w⟩) hS ?_
 case i_w => simp only [layG]; rfl
 case g_w => rfl
 case y_w => (intro w hSw; (go_simp <;> with_reducible rfl))
 (try simp only [Act.put, layS])
 refine wpAnyH_take (i := 17) (oi := ?o_x) (v := ?v_x) ?i_x (by kernel_rfl) (by kernel_rfl) (by kernel_rfl) (fun _ _ _ h => h) (Or.inl ⟨?g_x, ?y_x⟩) hS ?_
 case i_x => simp only [layG]; rfl
 case g_x => rfl
 case y_x => (intro w hSw; (go_simp <;> with_reducible rfl))
 (try simp only [Act.put, layS])
 refine wpAnyH_take (i := 18) (oi := ?o_y) (v := ?v_y) ?i_y (by kernel_rfl) (by kernel_rfl) (by kernel_rfl) (fun _ _ _ h => h) (Or.inl ⟨?g_y, ?y_y⟩) hS ?_
 case i_y => simp only [layG]; rfl
 case g_y => rfl
 case y_y => (intro w hSw; (go_simp <;> with_reducible rfl))
 (try simp only [Act.put, layS])
 refine wpAnyH_take (i := 19) (oi := ?o_z) (v := ?v_z) ?i_z (by kernel_rfl) (by kernel_rfl) (by kernel_rfl) (fun _ _ _ h => h) (Or.inl ⟨?g_z, ?y_z⟩) hS ?_
 case i_z => simp only [layG]; rfl
 case g_z => rfl
 case y_z => (intro w hSw; (go_simp <;> with_reducible rfl))
 (try simp only [Act.put, layS])
 refine wpAnyH_done (by kernel_rfl) ?_ _
 refine NoPanic.normal ?_
 clear hS
 go_wp2
 go_ret
 exact ⟨rfl, HB10.out⟩
set_option maxRecDepth 100000 in
set_option maxHeartbeats 4000000 in
theorem pathFronts_okN (v : Int) (hv0 : -9223372036854775808 ≤ v) (hv1 : v ≤ 9223372036854775807) (fr : List Stp) (s : Stp) (N : Nat) (A : Option Addr) (c : Nat) (x y : Sp) (e f : Nat) (w : World) (hA : WayV w.heap.size w (.slice A (N + 1) c) (fr ++ [s])) (hN : N = fr.length) (h20 : N + 1 ≤ 20) (hsz : ∀ t ∈ fr ++ [s], t.1.length ≤ 9223372036854775807 ∧ t.2.length ≤ 9223372036854775807) (hx : atP v fr = (x, e)) (hy : atP v (fr ++ [s]) = (y, f)) (he : e = 0) (i : Nat) (hf : findX s.1 x.2 = some i) (hg : x.2.get? i = some y) (hf0 : f = 0) (m1 : ((y.1.kind : Int) == 3) = false) (m2 : s.2 = []) (C : PthC w) (F : FindC w) (HA : Awake15 w) : Calls Tryd.prog 6 #[.int .i64 v, .slice A (N + 1) c] w (fun r w' => r = .returned (.bool true) ∧ Below w.heap.size w w') := by
 have HAW := Lib.hid (HA w (Below.refl _ _))
 have HF1 : ∀ W, Below w.heap.size w W → WayV W.heap.size W (.slice A N c) fr := fun W h => by
  have h1 := (hA.below h).front N (by rw [List.length_append, ← hN]; omega)
  rwa [show (fr ++ [s]).take N = fr by rw [hN, List.take_left]] at h1
 have hc1 : ∀ W, Below w.heap.size w W → Hid (Calls Tryd.prog 12 #[.int .i64 v, .slice A N c] W (LieSp (x, e) W)) := fun W h => Lib.hid (by
  have h := C.at_ v fr _ W hv0 hv1 (HF1 W h) (by omega) (fun s hs => hsz s (by simp [hs])) h
  rwa [hx] at h)
 have hc2 : ∀ W, Below w.heap.size w W → Hid (Calls Tryd.prog 12 #[.int .i64 v, .slice A (N + 1) c] W (LieSp (y, f) W)) := fun W h => Lib.hid (by
  have h := C.at_ v (fr ++ [s]) _ W hv0 hv1 (hA.below h) (by rw [List.length_append]; simp; omega) hsz h
  rwa [hy] at h)
 have C1 := Lib.hid hc1
 have C2 := Lib.hid hc2
 have hnc : N + 1 ≤ c := by obtain ⟨_, _, e', h, _⟩ := hA; injection e' with _ e1 e2; rw [List.length_append] at h e1; simp at h; omega
 have i0 : ((N : Int) + 1 == 0) = false := beq_eq_false_iff_ne.2 (by omega)
 have i1 : ¬ (20 : Int) < (N : Int) + 1 := by omega
 have i2 : (N : Int) ≤ (c : Int) := by omega
 have i3 : (N : Int) + 1 ≤ (c : Int) := by omega
 have i4 : (0 : Int) ≤ (N : Int) := by omega
 have HFX := Lib.hid (by have h := few_atP v fr; rw [hx] at h; exact h : Few x)
 have hkey : ∃ g o, A = some ⟨g, o, none⟩ ∧ g < w.heap.size ∧ w.cell? ⟨g, o + N * 2, none⟩ = some (.string (txt s.1)) ∧ w.cell? ⟨g, o + N * 2 + 1, none⟩ = some (.string (txt s.2)) := by
  obtain ⟨g, o, h1, -, -, h2, h3, h4⟩ := hA.at (j := N) (s := s) (by rw [hN]; simp)
  exact ⟨g, o, h1, h2, h3, h4⟩
 obtain ⟨g, o, rfl, hgl, hkn, hkk⟩ := hkey
 have HKC := Lib.hid (And.intro hgl (And.intro hkn hkk))
 have HFC := Lib.hid F
 have HFI : Hid (findI s.1 x.2 = (i : Int)) := Lib.hid (by unfold findI; rw [hf])
 have HGK := Lib.hid hg
 have HIL := Lib.hid (Fr.get_lt hg)
 have HFY := Lib.hid (by have h := few_atP v (fr ++ [s]); rw [hy] at h; exact h : Few y)
 subst he
 subst hf0
 have tk : (txt s.2).toList = s.2 := txt_toList _
 clear hc1 hc2 HF1 hA hx hy C F HA hsz h20 hN hnc hf hgl hkn hkk hg
 go_enter Tryd.func6, Tryd.ntmps6
 go_wp2_with fail
 refine HAW.out.mono ?_
 rintro r w1 ⟨rfl, hB1⟩
 have HB1 := Lib.hid hB1
 clear hB1
 go_wp2_with fail
 refine (C1.out w1 HB1.out).out.mono ?_
 rintro r w3 ⟨cs, rfl, hlx, hb3⟩
 obtain ⟨Bx, mx, Ax, cx, rfl⟩ := hlx.shape
 have hal : Below w3.heap.size w3 (w3.alloc (.cells #[.string (txt x.1.name), .int .i64 (x.1.kind : Int), .int .i64 (x.1.typ : Int), .int .u64 (x.1.low : Int), .int .u64 (x.1.high : Int), .slice Bx x.1.names.length mx, .bool x.1.must, .int .i64 (x.1.most : Int), .slice Ax x.2.len cx] 34)) := (Below.refl _ _).alloc (Nat.le_refl _) _
 have HX3 : Hid (Blk (w3.alloc (.cells #[.string (txt x.1.name), .int .i64 (x.1.kind : Int), .int .i64 (x.1.typ : Int), .int .u64 (x.1.low : Int), .int .u64 (x.1.high : Int), .slice Bx x.1.names.length mx, .bool x.1.must, .int .i64 (x.1.most : Int), .slice Ax x.2.len cx] 34)) w3.heap.size 34 #[.string (txt x.1.name), .int .i64 (x.1.kind : Int), .int .i64 (x.1.typ : Int), .int .u64 (x.1.low : Int), .int .u64 (x.1.high : Int), .slice Bx x.1.names.length mx, .bool x.1.must, .int .i64 (x.1.most : Int), .slice Ax x.2.len cx]) := Lib.hid (Blk.new w3 34 #[.string (txt x.1.name), .int .i64 (x.1.kind : Int), .int .i64 (x.1.typ : Int), .int .u64 (x.1.low : Int), .int .u64 (x.1.high : Int), .slice Bx x.1.names.length mx, .bool x.1.must, .int .i64 (x.1.most : Int), .slice Ax x.2.len cx])
 have HLX3 := Lib.hid (hlx.below hal)
 have HB3 : Hid (Below w.heap.size w (w3.alloc (.cells #[.string (txt x.1.name), .int .i64 (x.1.kind : Int), .int .i64 (x.1.typ : Int), .int .u64 (x.1.low : Int), .int .u64 (x.1.high : Int), .slice Bx x.1.names.length mx, .bool x.1.must, .int .i64 (x.1.most : Int), .slice Ax x.2.len cx] 34))) := Lib.hid (HB1.out.trans ((hb3.trans (hal.mono hb3.size)).mono HB1.out.size))
 clear hlx hb3 hal
 go_wp2_with fail
 refine (C2.out _ HB3.out).out.mono ?_
 rintro r w4 ⟨cs4, rfl, hly, hb4⟩
 obtain ⟨By, my, Ay, cy, rfl⟩ := hly.shape
 have hal : Below w4.heap.size w4 (w4.alloc (.cells #[.string (txt y.1.name), .int .i64 (y.1.kind : Int), .int .i64 (y.1.typ : Int), .int .u64 (y.1.low : Int), .int .u64 (y.1.high : Int), .slice By y.1.names.length my, .bool y.1.must, .int .i64 (y.1.most : Int), .slice Ay y.2.len cy] 34)) := (Below.refl _ _).alloc (Nat.le_refl _) _
 have hb4' := hb4.trans (hal.mono hb4.size)
 have HX4 := Lib.hid (HX3.out.below hb4' HX3.out.lt)
 have HLX4 := Lib.hid (HLX3.out.below hb4')
 have HY4 : Hid (Blk (w4.alloc (.cells #[.string (txt y.1.name), .int .i64 (y.1.kind : Int), .int .i64 (y.1.typ : Int), .int .u64 (y.1.low : Int), .int .u64 (y.1.high : Int), .slice By y.1.names.length my, .bool y.1.must, .int .i64 (y.1.most : Int), .slice Ay y.2.len cy] 34)) w4.heap.size 34 #[.string (txt y.1.name), .int .i64 (y.1.kind : Int), .int .i64 (y.1.typ : Int), .int .u64 (y.1.low : Int), .int .u64 (y.1.high : Int), .slice By y.1.names.length my, .bool y.1.must, .int .i64 (y.1.most : Int), .slice Ay y.2.len cy]) := Lib.hid (Blk.new w4 34 #[.string (txt y.1.name), .int .i64 (y.1.kind : Int), .int .i64 (y.1.typ : Int), .int .u64 (y.1.low : Int), .int .u64 (y.1.high : Int), .slice By y.1.names.length my, .bool y.1.must, .int .i64 (y.1.most : Int), .slice Ay y.2.len cy])
 have HLY4 := Lib.hid (hly.below hal)
 have HB4 : Hid (Below w.heap.size w (w4.alloc (.cells #[.string (txt y.1.name), .int .i64 (y.1.kind : Int), .int .i64 (y.1.typ : Int), .int .u64 (y.1.low : Int), .int .u64 (y.1.high : Int), .slice By y.1.names.length my, .bool y.1.must, .int .i64 (y.1.most : Int), .slice Ay y.2.len cy] 34))) := Lib.hid (HB3.out.trans (hb4'.mono HB3.out.size))
 clear hly hb4 hb4' hal
 have HX5 : Hid (Blk (w4.alloc (.cells #[.string (txt y.1.name), .int .i64 (y.1.kind : Int), .int .i64 (y.1.typ : Int), .int .u64 (y.1.low : Int), .int .u64 (y.1.high : Int), .slice By y.1.names.length my, .bool y.1.must, .int .i64 (y.1.most : Int), .slice Ay y.2.len cy] 34)).drew w3.heap.size 34 #[.string (txt x.1.name), .int .i64 (x.1.kind : Int), .int .i64 (x.1.typ : Int), .int .u64 (x.1.low : Int), .int .u64 (x.1.high : Int), .slice Bx x.1.names.length mx, .bool x.1.must, .int .i64 (x.1.most : Int), .slice Ax x.2.len cx]) := Lib.hid (HX4.out.below (Below.refl _ _).drew HX4.out.lt)
 have HLX5 : Hid (Lies (w4.alloc (.cells #[.string (txt y.1.name), .int .i64 (y.1.kind : Int), .int .i64 (y.1.typ : Int), .int .u64 (y.1.low : Int), .int .u64 (y.1.high : Int), .slice By y.1.names.length my, .bool y.1.must, .int .i64 (y.1.most : Int), .slice Ay y.2.len cy] 34)).drew [.string (txt x.1.name), .int .i64 (x.1.kind : Int), .int .i64 (x.1.typ : Int), .int .u64 (x.1.low : Int), .int .u64 (x.1.high : Int), .slice Bx x.1.names.length mx, .bool x.1.must, .int .i64 (x.1.most : Int), .slice Ax x.2.len cx] x) := Lib.hid (HLX4.out.below (Below.refl _ _).drew)
 have HY5 : Hid (Blk (w4.alloc (.cells #[.string (txt y.1.name), .int .i64 (y.1.kind : Int), .int .i64 (y.1.typ : Int), .int .u64 (y.1.low : Int), .int .u64 (y.1.high : Int), .slice By y.1.names.length my, .bool y.1.must, .int .i64 (y.1.most : Int), .slice Ay y.2.len cy] 34)).drew w4.heap.size 34 #[.string (txt y.1.name), .int .i64 (y.1.kind : Int), .int .i64 (y.1.typ : Int), .int .u64 (y.1.low : Int), .int .u64 (y.1.high : Int), .slice By y.1.names.length my, .bool y.1.must, .int .i64 (y.1.most : Int), .slice Ay y.2.len cy]) := Lib.hid (HY4.out.below (Below.refl _ _).drew HY4.out.lt)
 have HLY5 : Hid (Lies (w4.alloc (.cells #[.string (txt y.1.name), .int .i64 (y.1.kind : Int), .int .i64 (y.1.typ : Int), .int .u64 (y.1.low : Int), .int .u64 (y.1.high : Int), .slice By y.1.names.length my, .bool y.1.must, .int .i64 (y.1.most : Int), .slice Ay y.2.len cy] 34)).drew [.string (txt y.1.name), .int .i64 (y.1.kind : Int), .int .i64 (y.1.typ : Int), .int .u64 (y.1.low : Int), .int .u64 (y.1.high : Int), .slice By y.1.names.length my, .bool y.1.must, .int .i64 (y.1.most : Int), .slice Ay y.2.len cy] y) := Lib.hid (HLY4.out.below (Below.refl _ _).drew)
 have HB5 : Hid (Below w.heap.size w (w4.alloc (.cells #[.string (txt y.1.name), .int .i64 (y.1.kind : Int), .int .i64 (y.1.typ : Int), .int .u64 (y.1.low : Int), .int .u64 (y.1.high : Int), .slice By y.1.names.length my, .bool y.1.must, .int .i64 (y.1.most : Int), .slice Ay y.2.len cy] 34)).drew) := Lib.hid HB4.out.drew
 have HS5 : Hid (Blk (w4.alloc (.cells #[.string (txt y.1.name), .int .i64 (y.1.kind : Int), .int .i64 (y.1.typ : Int), .int .u64 (y.1.low : Int), .int .u64 (y.1.high : Int), .slice By y.1.names.length my, .bool y.1.must, .int .i64 (y.1.most : Int), .slice Ay y.2.len cy] 34)).drew w3.heap.size 34 #[.string (txt x.1.name), .int .i64 (x.1.kind : Int), .int .i64 (x.1.typ : Int), .int .u64 (x.1.low : Int), .int .u64 (x.1.high : Int), .slice Bx x.1.names.length mx, .bool x.1.must, .int .i64 (x.1.most : Int), .slice Ax x.2.len cx] ∧ (w4.alloc (.cells #[.string (txt y.1.name), .int .i64 (y.1.kind : Int), .int .i64 (y.1.typ : Int), .int .u64 (y.1.low : Int), .int .u64 (y.1.high : Int), .slice By y.1.names.length my, .bool y.1.must, .int .i64 (y.1.most : Int), .slice Ay y.2.len cy] 34)).drew.cell? ⟨g, o + N * 2, none⟩ = some (.string (txt s.1))) := Lib.hid ⟨HX5.out, (HB5.out.cell (p := ⟨g, o + N * 2, none⟩) HKC.out.1).trans HKC.out.2.1⟩
 have n0 : N < N + 1 := Nat.lt_succ_self N
 have n1 : (N : Int) < (N : Int) + 1 := by omega
 go_wp2_with fail
 refine wp_region_noPanic ?_
 refine wp_region_held_drew (S := fun _ => True) (by kernel_rfl) trivial (fun hS => ?_)
 refine held_more (S' := fun w' => Blk w' w3.heap.size 34 #[.string (txt x.1.name), .int .i64 (x.1.kind : Int), .int .i64 (x.1.typ : Int), .int .u64 (x.1.low : Int), .int .u64 (x.1.high : Int), .slice Bx x.1.names.length mx, .bool x.1.must, .int .i64 (x.1.most : Int), .slice Ax x.2.len cx] ∧ w'.cell? ⟨g, o + N * 2, none⟩ = some (.string (txt s.1))) (fun _ _ => trivial) _ _ _ _ ?_
 replace hS := HS5.out
 refine wpAnyH_take (i := 0) (oi := ?o_10) (v := ?v_10) ?i_10 (by kernel_rfl) (by kernel_rfl) (by kernel_rfl) (fun _ _ _ h => h) (Or.inl ⟨?g_10, ?y_10⟩) hS ?_
 case i_10 => simp only [layG]; rfl
 case g_10 => rfl
 case y_10 => (intro w hSw; have q0 := (hSw.1.cell 0).trans rfl; have q1 := (hSw.1.cell 1).trans rfl; have q2 := (hSw.1.cell 2).trans rfl; have q3 := (hSw.1.cell 3).trans rfl; have q4 := (hSw.1.cell 4).trans rfl; have q5 := (hSw.1.cell 5).trans rfl; have q6 := (hSw.1.cell 6).trans rfl; have q7 := (hSw.1.cell 7).trans rfl; have q8 := (hSw.1.cell 8).trans rfl; (go_simp <;> with_reducible rfl))
 (try simp only [Act.put, layS])
 refine wpAnyH_take (i := 1) (oi := ?o_11) (v := ?v_11) ?i_11 (by kernel_rfl) (by kernel_rfl) (by kernel_rfl) (fun _ _ _ h => h) (Or.inl ⟨?g_11, ?y_11⟩) hS ?_
 case i_11 => simp only [layG]; rfl
 case g_11 => rfl
 case y_11 => (intro w hSw; (go_simp <;> with_reducible rfl))
 (try simp only [Act.put, layS])
 refine wpAnyH_take (i := 2) (oi := ?o_12) (v := ?v_12) ?i_12 (by kernel_rfl) (by kernel_rfl) (by kernel_rfl) (fun _ _ _ h => h) (Or.inl ⟨?g_12, ?y_12⟩) hS ?_
 case i_12 => simp only [layG]; rfl
 case g_12 => rfl
 case y_12 => (intro w hSw; (go_simp <;> with_reducible rfl))
 (try simp only [Act.put, layS])
 refine wpAnyH_take (i := 3) (oi := ?o_13) (v := ?v_13) ?i_13 (by kernel_rfl) (by kernel_rfl) (by kernel_rfl) (fun _ _ _ h => h) (Or.inl ⟨?g_13, ?y_13⟩) hS ?_
 case i_13 => simp only [layG]; rfl
 case g_13 => rfl
 case y_13 => (intro w hSw; (go_simp <;> with_reducible rfl))
 (try simp only [Act.put, layS])
 refine wpAnyH_take (i := 4) (oi := ?o_14) (v := ?v_14) ?i_14 (by kernel_rfl) (by kernel_rfl) (by kernel_rfl) (fun _ _ _ h => h) (Or.inl ⟨?g_14, ?y_14⟩) hS ?_
 case i_14 => simp only [layG]; rfl
 case g_14 => rfl
 case y_14 => (intro w hSw; (go_simp <;> with_reducible rfl))
 (try simp only [Act.put, layS])
 refine wpAnyH_take (i := 5) (oi := ?o_15) (v := ?v_15) ?i_15 (by kernel_rfl) (by kernel_rfl) (by kernel_rfl) (fun _ _ _ h => h) (Or.inl ⟨?g_15, ?y_15⟩) hS ?_
 case i_15 => simp only [layG]; rfl
 case g_15 => rfl
 case y_15 => (intro w hSw; have hc := hSw.2; (go_simp <;> with_reducible rfl))
 (try simp only [Act.put, layS])
 refine wpAnyH_ready (rs := [6]) (by kernel_rfl) (by simp) ?_
 refine (AllReadyH.cons (o := ?or_16) ?ir_16 (fun K hK => ?str_16) AllReadyH.nil)
 case ir_16 => simp only [layG]; rfl
 rw [if_pos (by rfl)]
 go_simp
 refine (find_c HFC.out s.1 HB5.out HLX5.out HFX.out).mono ?_
 rintro r w5 ⟨rfl, hb⟩
 have HX6 := Lib.hid (HX5.out.below hb HX5.out.lt)
 have HY6 := Lib.hid (HY5.out.below hb HY5.out.lt)
 have HLX6 := Lib.hid (HLX5.out.below hb)
 have HLY6 := Lib.hid (HLY5.out.below hb)
 have HB6 := Lib.hid (HB5.out.trans (hb.mono HB5.out.size))
 have HS6 := Lib.hid (And.intro HX6.out ((HB6.out.cell (p := ⟨g, o + N * 2, none⟩) HKC.out.1).trans HKC.out.2.1))
 clear hb
 go_wp2_with fail
 refine hK.out _ _ ?sr_16 (fun hS => ?_)
 case sr_16 => (exact HS6.out)
 clear hK K
 (try simp only [Act.put, layS])
 refine wpAnyH_take (i := 7) (oi := ?o_17) (v := ?v_17) ?i_17 (by kernel_rfl) (by kernel_rfl) (by kernel_rfl) (fun _ _ _ h => h) (Or.inl ⟨?g_17, ?y_17⟩) hS ?_
 case i_17 => simp only [layG]; rfl
 case g_17 => rfl
 case y_17 => (intro w hSw; (go_simp <;> with_reducible rfl))
 (try simp only [Act.put, layS])
 refine wpAnyH_done (by kernel_rfl) ?_ _
 refine NoPanic.normal ?_
 clear hS
 rw [HFI.out]
 obtain ⟨kb, ko, cs', rfl, hkb, hlk, hcl⟩ := HLX6.out.kid rfl HGK.out
 obtain ⟨Bk, mk, Ak, ck, rfl⟩ := hlk.shape
 have HLK6 := Lib.hid hlk
 have HKB := Lib.hid hkb
 have HCL : Hid (∀ j u, ([.string (txt y.1.name), .int .i64 (y.1.kind : Int), .int .i64 (y.1.typ : Int), .int .u64 (y.1.low : Int), .int .u64 (y.1.high : Int), .slice Bk y.1.names.length mk, .bool y.1.must, .int .i64 (y.1.most : Int), .slice Ak y.2.len ck])[j]? = some u → w5.cell? ⟨kb, ko + i * 9 + j, none⟩ = some u) := Lib.hid hcl
 have x8 : w5.cell? ⟨w3.heap.size, 8, none⟩ = some (.slice (some ⟨kb, ko, none⟩) x.2.len cx) := (HX6.out.cell 8).trans rfl
 have k1 : w5.cell? ⟨kb, ko + i * 9 + 1, none⟩ = some (.int .i64 (y.1.kind : Int)) := hcl 1 _ rfl
 have ckk : w5.cell? ⟨g, o + N * 2 + 1, none⟩ = some (.string (txt s.2)) := (HB6.out.cell (p := ⟨g, o + N * 2 + 1, none⟩) HKC.out.1).trans HKC.out.2.2
 have j1 : (0 : Int) ≤ (i : Int) := by omega
 have j2 : (i : Int) < (x.2.len : Int) := by have := HIL.out; omega
 have j3 : ¬ (i : Int) < 0 := by omega
 have j4 : i < x.2.len := HIL.out
 clear hkb hlk hcl
 have HLY7 := Lib.hid (HLY6.out.below (Below.refl _ _).drew)
 have HLK7 := Lib.hid (HLK6.out.below (Below.refl _ _).drew)
 have HB7 := Lib.hid HB6.out.drew
 obtain ⟨sn, sk⟩ := s
 simp only at tk m2 ckk
 have HKK := Lib.hid ckk
 have HGL := Lib.hid (Nat.lt_of_lt_of_le HKC.out.1 HB6.out.size)
 clear ckk
 have e0 : txt [] = (⟨#[]⟩ : ByteArray) := rfl
 subst m2
 go_wp2_with fail
 refine wp_region_noPanic ?_
 refine wp_region_held_drew (S := fun _ => True) (by kernel_rfl) trivial (fun hS => ?_)
 refine held_more (S' := fun w' => Below w5.heap.size w5 w') (fun _ _ => trivial) _ _ _ _ ?_
 replace hS := (Below.refl w5.heap.size w5).drew
 refine wpAnyH_take (i := 0) (oi := ?o_18) (v := ?v_18) ?i_18 (by kernel_rfl) (by kernel_rfl) (by kernel_rfl) (fun _ _ _ h => h) (Or.inl ⟨?g_18, ?y_18⟩) hS ?_
 case i_18 => simp only [layG]; rfl
 case g_18 => rfl
 case y_18 => (intro w hSw; have q0 := ((HY6.out.below hSw HY6.out.lt).cell 0).trans rfl; have q1 := ((HY6.out.below hSw HY6.out.lt).cell 1).trans rfl; have q2 := ((HY6.out.below hSw HY6.out.lt).cell 2).trans rfl; have q3 := ((HY6.out.below hSw HY6.out.lt).cell 3).trans rfl; have q4 := ((HY6.out.below hSw HY6.out.lt).cell 4).trans rfl; have q5 := ((HY6.out.below hSw HY6.out.lt).cell 5).trans rfl; have q6 := ((HY6.out.below hSw HY6.out.lt).cell 6).trans rfl; have q7 := ((HY6.out.below hSw HY6.out.lt).cell 7).trans rfl; have q8 := ((HY6.out.below hSw HY6.out.lt).cell 8).trans rfl; (go_simp <;> with_reducible rfl))
 (try simp only [Act.put, layS])
 refine wpAnyH_take (i := 2) (oi := ?o_19) (v := ?v_19) ?i_19 (by kernel_rfl) (by kernel_rfl) (by kernel_rfl) (fun _ _ _ h => h) (Or.inl ⟨?g_19, ?y_19⟩) hS ?_
 case i_19 => simp only [layG]; rfl
 case g_19 => rfl
 case y_19 => (intro w hSw; (go_simp <;> with_reducible rfl))
 (try simp only [Act.put, layS])
 refine wpAnyH_take (i := 3) (oi := ?o_1a) (v := ?v_1a) ?i_1a (by kernel_rfl) (by kernel_rfl) (by kernel_rfl) (fun _ _ _ h => h) (Or.inl ⟨?g_1a, ?y_1a⟩) hS ?_
 case i_1a => simp only [layG]; rfl
 case g_1a => rfl
 case y_1a => (intro w hSw; have xq : w.cell? ⟨w3.heap.size, 8, none⟩ = _ := (hSw.cell (p := ⟨w3.heap.size, 8, none⟩) HX6.out.lt).trans x8; (go_simp <;> with_reducible rfl))
 (try simp only [Act.put, layS])
 refine wpAnyH_take (i := 4) (oi := ?o_1b) (v := ?v_1b) ?i_1b (by kernel_rfl) (by kernel_rfl) (by kernel_rfl) (fun _ _ _ h => h) (Or.inl ⟨?g_1b, ?y_1b⟩) hS ?_
 case i_1b => simp only [layG]; rfl
 case g_1b => rfl
 case y_1b => (intro w hSw; (go_simp <;> with_reducible rfl))
 (try simp only [Act.put, layS])
 refine wpAnyH_take (i := 5) (oi := ?o_1c) (v := ?v_1c) ?i_1c (by kernel_rfl) (by kernel_rfl) (by kernel_rfl) (fun _ _ _ h => h) (Or.inl ⟨?g_1c, ?y_1c⟩) hS ?_
 case i_1c => simp only [layG]; rfl
 case g_1c => rfl
 case y_1c => (intro w hSw; (go_simp <;> with_reducible rfl))
 (try simp only [Act.put, layS])
 refine wpAnyH_take (i := 6) (oi := ?o_1d) (v := ?v_1d) ?i_1d (by kernel_rfl) (by kernel_rfl) (by kernel_rfl) (fun _ _ _ h => h) (Or.inl ⟨?g_1d, ?y_1d⟩) hS ?_
 case i_1d => simp only [layG]; rfl
 case g_1d => rfl
 case y_1d => (intro w hSw; have z0 : w.cell? ⟨kb, ko + i * 9, none⟩ = _ := (hSw.cell (p := ⟨kb, ko + i * 9, none⟩) HKB.out).trans (HCL.out 0 _ rfl); have z1 := (hSw.cell (p := ⟨kb, ko + i * 9 + 1, none⟩) HKB.out).trans (HCL.out 1 _ rfl); have z2 := (hSw.cell (p := ⟨kb, ko + i * 9 + 2, none⟩) HKB.out).trans (HCL.out 2 _ rfl); have z3 := (hSw.cell (p := ⟨kb, ko + i * 9 + 3, none⟩) HKB.out).trans (HCL.out 3 _ rfl); have z4 := (hSw.cell (p := ⟨kb, ko + i * 9 + 4, none⟩) HKB.out).trans (HCL.out 4 _ rfl); have z5 := (hSw.cell (p := ⟨kb, ko + i * 9 + 5, none⟩) HKB.out).trans (HCL.out 5 _ rfl); have z6 := (hSw.cell (p := ⟨kb, ko + i * 9 + 6, none⟩) HKB.out).trans (HCL.out 6 _ rfl); have z7 := (hSw.cell (p := ⟨kb, ko + i * 9 + 7, none⟩) HKB.out).trans (HCL.out 7 _ rfl); have z8 := (hSw.cell (p := ⟨kb, ko + i * 9 + 8, none⟩) HKB.out).trans (HCL.out 8 _ rfl); (go_simp <;> with_reducible rfl))
 (try simp only [Act.put, layS])
 refine wpAnyH_ready (rs := [1]) (by kernel_rfl) (by simp) ?_
 refine (AllReadyH.cons (o := ?or_1e) ?ir_1e (fun K hK => ?str_1e) AllReadyH.nil)
 case ir_1e => simp only [layG]; rfl
 rw [if_pos (by rfl)]
 go_simp
 refine (plain15_l HLY7.out HFY.out).mono ?_
 rintro r w7 ⟨cz, rfl, hlz, hb⟩
 obtain ⟨Bz, mz, Az, cz', rfl⟩ := hlz.shape
 have HLZ8 := Lib.hid hlz
 have HLK8 := Lib.hid (HLK7.out.below hb)
 have HB8 := Lib.hid (HB7.out.trans (hb.mono HB7.out.size))
 have HW8 := Lib.hid ((Below.refl w5.heap.size w5).drew.trans hb)
 clear hb hlz
 go_wp2_with fail
 refine hK.out _ _ ?sr_1e (fun hS => ?_)
 case sr_1e => (exact HW8.out)
 clear hK K
 (try simp only [Act.put, layS])
 refine wpAnyH_ready (rs := [7]) (by kernel_rfl) (by simp) ?_
 refine (AllReadyH.cons (o := ?or_1f) ?ir_1f (fun K hK => ?str_1f) AllReadyH.nil)
 case ir_1f => simp only [layG]; rfl
 rw [if_pos (by rfl)]
 go_simp
 refine (plain15_l HLK8.out HFY.out).mono ?_
 rintro r w8 ⟨cu, rfl, hlu, hb⟩
 obtain ⟨Bu, mu, Au, cu', rfl⟩ := hlu.shape
 have HLU9 := Lib.hid hlu
 have HLZ9 := Lib.hid (HLZ8.out.below hb)
 have HB9 := Lib.hid (HB8.out.trans (hb.mono HB8.out.size))
 have HW9 := Lib.hid (HW8.out.trans (hb.mono HW8.out.size))
 clear hb hlu
 go_wp2_with fail
 refine hK.out _ _ ?sr_1f (fun hS => ?_)
 case sr_1f => (exact HW9.out)
 clear hK K
 (try simp only [Act.put, layS])
 refine wpAnyH_ready (rs := [8]) (by kernel_rfl) (by simp) ?_
 refine (AllReadyH.cons (o := ?or_1g) ?ir_1g (fun K hK => ?str_1g) AllReadyH.nil)
 case ir_1g => simp only [layG]; rfl
 rw [if_pos (by rfl)]
 go_simp
 refine (same_l HLZ9.out HLU9.out HFY.out).mono ?_
 rintro r w9 ⟨rfl, hb⟩
 have HB10 := Lib.hid (HB9.out.trans (hb.mono HB9.out.size))
 have HW10 := Lib.hid (HW9.out.trans (hb.mono HW9.out.size))
 clear hb
 go_wp2_with fail
 refine hK.out _ _ ?sr_1g (fun hS => ?_)
 case sr_1g => (exact HW10.out)
 clear hK K
 (try simp only [Act.put, layS])
 refine wpAnyH_take (i := 9) (oi := ?o_1h) (v := ?v_1h) ?i_1h (by kernel_rfl) (by kernel_rfl) (by kernel_rfl) (fun _ _ _ h => h) (Or.inl ⟨?g_1h, ?y_1h⟩) hS ?_
 case i_1h => simp only [layG]; rfl
 case g_1h => rfl
 case y_1h => (intro w hSw; (go_simp <;> with_reducible rfl))
 (try simp only [Act.put, layS])
 refine wpAnyH_take (i := 10) (oi := ?o_1i) (v := ?v_1i) ?i_1i (by kernel_rfl) (by kernel_rfl) (by kernel_rfl) (fun _ _ _ h => h) (Or.inl ⟨?g_1i, ?y_1i⟩) hS ?_
 case i_1i => simp only [layG]; rfl
 case g_1i => rfl
 case y_1i => (intro w hSw; (go_simp <;> with_reducible rfl))
 (try simp only [Act.put, layS])
 refine wpAnyH_take (i := 11) (oi := ?o_1j) (v := ?v_1j) ?i_1j (by kernel_rfl) (by kernel_rfl) (by kernel_rfl) (fun _ _ _ h => h) (Or.inl ⟨?g_1j, ?y_1j⟩) hS ?_
 case i_1j => simp only [layG]; rfl
 case g_1j => rfl
 case y_1j => (intro w hSw; (go_simp <;> with_reducible rfl))
 (try simp only [Act.put, layS])
 refine wpAnyH_take (i := 12) (oi := ?o_1k) (v := ?v_1k) ?i_1k (by kernel_rfl) (by kernel_rfl) (by kernel_rfl) (fun _ _ _ h => h) (Or.inl ⟨?g_1k, ?y_1k⟩) hS ?_
 case i_1k => simp only [layG]; rfl
 case g_1k => rfl
 case y_1k => (intro w hSw; (go_simp <;> with_reducible rfl))
 (try simp only [Act.put, layS])
 refine wpAnyH_take (i := 13) (oi := ?o_1l) (v := ?v_1l) ?i_1l (by kernel_rfl) (by kernel_rfl) (by kernel_rfl) (fun _ _ _ h => h) (Or.inl ⟨?g_1l, ?y_1l⟩) hS ?_
 case i_1l => simp only [layG]; rfl
 case g_1l => rfl
 case y_1l => (intro w hSw; (go_simp <;> with_reducible rfl))
 (try simp only [Act.put, layS])
 refine wpAnyH_take (i := 14) (oi := ?o_1m) (v := ?v_1m) ?i_1m (by kernel_rfl) (by kernel_rfl) (by kernel_rfl) (fun _ _ _ h => h) (Or.inl ⟨?g_1m, ?y_1m⟩) hS ?_
 case i_1m => simp only [layG]; rfl
 case g_1m => rfl
 case y_1m => (intro w hSw; (go_simp <;> with_reducible rfl))
 (try simp only [Act.put, layS])
 refine wpAnyH_take (i := 15) (oi := ?o_1n) (v := ?v_1n) ?i_1n (by kernel_rfl) (by kernel_rfl) (by kernel_rfl) (fun _ _ _ h => h) (Or.inl ⟨?g_1n, ?y_1n⟩) hS ?_
 case i_1n => simp only [layG]; rfl
 case g_1n => rfl
 case y_1n => (intro w hSw; have hkk := (hSw.cell (p := ⟨g, o + N * 2 + 1, none⟩) HGL.out).trans HKK.out; (go_simp <;> with_reducible rfl))
 (try simp only [Act.put, layS])
 refine wpAnyH_take (i := 16) (oi := ?o_1o) (v := ?v_1o) ?i_1o (by kernel_rfl) (by kernel_rfl) (by kernel_rfl) (fun _ _ _ h => h) (Or.inl ⟨?g_1o, ?y_1o⟩) hS ?_
 case i_1o => simp only [layG]; rfl
 case g_1o => rfl
 case y_1o => (intro w hSw; (go_simp <;> with_reducible rfl))
 (try simp only [Act.put, layS])
 refine wpAnyH_take (i := 17) (oi := ?o_1p) (v := ?v_1p) ?i_1p (by kernel_rfl) (by kernel_rfl) (by kernel_rfl) (fun _ _ _ h => h) (Or.inl ⟨?g_1p, ?y_1p⟩) hS ?_
 case i_1p => simp only [layG]; rfl
 case g_1p => rfl
 case y_1p => (intro w hSw; (go_simp <;> with_reducible rfl))
 (try simp only [Act.put, layS])
 refine wpAnyH_take (i := 18) (oi := ?o_1q) (v := ?v_1q) ?i_1q (by kernel_rfl) (by kernel_rfl) (by kernel_rfl) (fun _ _ _ h => h) (Or.inl ⟨?g_1q, ?y_1q⟩) hS ?_
 case i_1q => simp only [layG]; rfl
 case g_1q => rfl
 case y_1q => (intro w hSw; (go_simp <;> with_reducible rfl))
 (try simp only [Act.put, layS])
 refine wpAnyH_take (i := 19) (oi := ?o_1r) (v := ?v_1r) ?i_1r (by kernel_rfl) (by kernel_rfl) (by kernel_rfl) (fun _ _ _ h => h) (Or.inl ⟨?g_1r, ?y_1r⟩) hS ?_
 case i_1r => simp only [layG]; rfl
 case g_1r => rfl
 case y_1r => (intro w hSw; (go_simp <;> with_reducible rfl))
 (try simp only [Act.put, layS])
 refine wpAnyH_done (by kernel_rfl) ?_ _
 refine NoPanic.normal ?_
 clear hS
 go_wp2
 go_ret
 exact ⟨rfl, HB10.out⟩
theorem pathFronts_ok (v : Int) (hv0 : -9223372036854775808 ≤ v) (hv1 : v ≤ 9223372036854775807) (fr : List Stp) (s : Stp) (N : Nat) (A : Option Addr) (c : Nat) (x y : Sp) (e f : Nat) (w : World) (hA : WayV w.heap.size w (.slice A (N + 1) c) (fr ++ [s])) (hN : N = fr.length) (h20 : N + 1 ≤ 20) (hsz : ∀ t ∈ fr ++ [s], t.1.length ≤ 9223372036854775807 ∧ t.2.length ≤ 9223372036854775807) (hx : atP v fr = (x, e)) (hy : atP v (fr ++ [s]) = (y, f)) (he : e = 0) (i : Nat) (hf : findX s.1 x.2 = some i) (hg : x.2.get? i = some y) (hf0 : f = 0) (hk : (y.1.kind = 3 ∧ s.2 ≠ []) ∨ (y.1.kind ≠ 3 ∧ s.2 = [])) (C : PthC w) (F : FindC w) (HA : Awake15 w) : Calls Tryd.prog 6 #[.int .i64 v, .slice A (N + 1) c] w (fun r w' => r = .returned (.bool true) ∧ Below w.heap.size w w') := by
 rcases hk with ⟨h1, h2⟩ | ⟨h1, h2⟩
 ·exact pathFronts_okL v hv0 hv1 fr s N A c x y e f w hA hN h20 hsz hx hy he i hf hg hf0 (by rw [h1]; rfl) ⟨by simpa using h2, beq_eq_false_iff_ne.2 h2, by unfold bne; rw [beq_eq_false_iff_ne.2 h2]; rfl⟩ C F HA
 ·exact pathFronts_okN v hv0 hv1 fr s N A c x y e f w hA hN h20 hsz hx hy he i hf hg hf0 (beq_eq_false_iff_ne.2 (by omega)) h2 C F HA
set_option maxRecDepth 100000 in
set_option maxHeartbeats 4000000 in
theorem pathFronts_bad (v : Int) (hv0 : -9223372036854775808 ≤ v) (hv1 : v ≤ 9223372036854775807) (fr : List Stp) (s : Stp) (N : Nat) (A : Option Addr) (c : Nat) (x y : Sp) (e f : Nat) (w : World) (hA : WayV w.heap.size w (.slice A (N + 1) c) (fr ++ [s])) (hN : N = fr.length) (h20 : N + 1 ≤ 20) (hsz : ∀ t ∈ fr ++ [s], t.1.length ≤ 9223372036854775807 ∧ t.2.length ≤ 9223372036854775807) (hx : atP v fr = (x, e)) (hy : atP v (fr ++ [s]) = (y, f)) (he : e = 0) (i : Nat) (z : Sp) (hf : findX s.1 x.2 = some i) (hg : x.2.get? i = some z) (hf0 : f = 23) (hk : z.1.kind ≠ 3 ∨ (z.1.kind = 3 ∧ (s.2 = [] ∨ (s.2 ≠ [] ∧ showX (fr ++ [s]) = [])))) (C : PthC w) (F : FindC w) (HA : Awake15 w) : Calls Tryd.prog 6 #[.int .i64 v, .slice A (N + 1) c] w (fun r w' => r = .returned (.bool true) ∧ Below w.heap.size w w') := by
 have HAW := Lib.hid (HA w (Below.refl _ _))
 have HF1 : ∀ W, Below w.heap.size w W → WayV W.heap.size W (.slice A N c) fr := fun W h => by
  have h1 := (hA.below h).front N (by rw [List.length_append, ← hN]; omega)
  rwa [show (fr ++ [s]).take N = fr by rw [hN, List.take_left]] at h1
 have hc1 : ∀ W, Below w.heap.size w W → Hid (Calls Tryd.prog 12 #[.int .i64 v, .slice A N c] W (LieSp (x, e) W)) := fun W h => Lib.hid (by
  have h := C.at_ v fr _ W hv0 hv1 (HF1 W h) (by omega) (fun s hs => hsz s (by simp [hs])) h
  rwa [hx] at h)
 have hc2 : ∀ W, Below w.heap.size w W → Hid (Calls Tryd.prog 12 #[.int .i64 v, .slice A (N + 1) c] W (LieSp (y, f) W)) := fun W h => Lib.hid (by
  have h := C.at_ v (fr ++ [s]) _ W hv0 hv1 (hA.below h) (by rw [List.length_append]; simp; omega) hsz h
  rwa [hy] at h)
 have C1 := Lib.hid hc1
 have C2 := Lib.hid hc2
 have hnc : N + 1 ≤ c := by obtain ⟨_, _, e', h, _⟩ := hA; injection e' with _ e1 e2; rw [List.length_append] at h e1; simp at h; omega
 have i0 : ((N : Int) + 1 == 0) = false := beq_eq_false_iff_ne.2 (by omega)
 have i1 : ¬ (20 : Int) < (N : Int) + 1 := by omega
 have i2 : (N : Int) ≤ (c : Int) := by omega
 have i3 : (N : Int) + 1 ≤ (c : Int) := by omega
 have i4 : (0 : Int) ≤ (N : Int) := by omega
 have HFX := Lib.hid (by have h := few_atP v fr; rw [hx] at h; exact h : Few x)
 have hkey : ∃ g o, A = some ⟨g, o, none⟩ ∧ g < w.heap.size ∧ w.cell? ⟨g, o + N * 2, none⟩ = some (.string (txt s.1)) ∧ w.cell? ⟨g, o + N * 2 + 1, none⟩ = some (.string (txt s.2)) := by
  obtain ⟨g, o, h1, -, -, h2, h3, h4⟩ := hA.at (j := N) (s := s) (by rw [hN]; simp)
  exact ⟨g, o, h1, h2, h3, h4⟩
 obtain ⟨g, o, rfl, hgl, hkn, hkk⟩ := hkey
 have HKC := Lib.hid (And.intro hgl (And.intro hkn hkk))
 have HFC := Lib.hid F
 have HFI : Hid (findI s.1 x.2 = (i : Int)) := Lib.hid (by unfold findI; rw [hf])
 have HGK := Lib.hid hg
 have HIL := Lib.hid (Fr.get_lt hg)
 have hc3 : ∀ W, Below w.heap.size w W → Hid (Calls Tryd.prog 11 #[.slice (some ⟨g, o, none⟩) (N + 1) c] W (ShowP (fr ++ [s]) W)) := fun W h => Lib.hid (C.show_ (fr ++ [s]) _ W (hA.below h) (by rw [List.length_append]; simp; omega) hsz h)
 have C3 := Lib.hid hc3
 have hk2 : ((z.1.kind : Int) == 3) = false ∨ (((z.1.kind : Int) == 3) = true ∧ s.2 = []) ∨ (((z.1.kind : Int) == 3) = true ∧ s.2.isEmpty = false ∧ (s.2 == []) = false ∧ (s.2 != []) = true ∧ Hid (showX (fr ++ [s]) = [])) := by
  rcases hk with h1 | ⟨h1, h2 | ⟨h2, h3⟩⟩
  ·exact .inl (beq_eq_false_iff_ne.2 (by omega))
  ·exact .inr (.inl ⟨by rw [h1]; rfl, h2⟩)
  ·exact .inr (.inr ⟨by rw [h1]; rfl, by simpa using h2, beq_eq_false_iff_ne.2 h2, by unfold bne; rw [beq_eq_false_iff_ne.2 h2]; rfl, Lib.hid h3⟩)
 subst he
 subst hf0
 have tk : (txt s.2).toList = s.2 := txt_toList _
 clear hc1 hc2 hc3 HF1 hA hx hy C F HA hsz h20 hN hnc hf hgl hkn hkk hg hk
 go_enter Tryd.func6, Tryd.ntmps6
 go_wp2_with fail
 refine HAW.out.mono ?_
 rintro r w1 ⟨rfl, hB1⟩
 have HB1 := Lib.hid hB1
 clear hB1
 go_wp2_with fail
 refine (C1.out w1 HB1.out).out.mono ?_
 rintro r w3 ⟨cs, rfl, hlx, hb3⟩
 obtain ⟨Bx, mx, Ax, cx, rfl⟩ := hlx.shape
 have hal : Below w3.heap.size w3 (w3.alloc (.cells #[.string (txt x.1.name), .int .i64 (x.1.kind : Int), .int .i64 (x.1.typ : Int), .int .u64 (x.1.low : Int), .int .u64 (x.1.high : Int), .slice Bx x.1.names.length mx, .bool x.1.must, .int .i64 (x.1.most : Int), .slice Ax x.2.len cx] 34)) := (Below.refl _ _).alloc (Nat.le_refl _) _
 have HX3 : Hid (Blk (w3.alloc (.cells #[.string (txt x.1.name), .int .i64 (x.1.kind : Int), .int .i64 (x.1.typ : Int), .int .u64 (x.1.low : Int), .int .u64 (x.1.high : Int), .slice Bx x.1.names.length mx, .bool x.1.must, .int .i64 (x.1.most : Int), .slice Ax x.2.len cx] 34)) w3.heap.size 34 #[.string (txt x.1.name), .int .i64 (x.1.kind : Int), .int .i64 (x.1.typ : Int), .int .u64 (x.1.low : Int), .int .u64 (x.1.high : Int), .slice Bx x.1.names.length mx, .bool x.1.must, .int .i64 (x.1.most : Int), .slice Ax x.2.len cx]) := Lib.hid (Blk.new w3 34 #[.string (txt x.1.name), .int .i64 (x.1.kind : Int), .int .i64 (x.1.typ : Int), .int .u64 (x.1.low : Int), .int .u64 (x.1.high : Int), .slice Bx x.1.names.length mx, .bool x.1.must, .int .i64 (x.1.most : Int), .slice Ax x.2.len cx])
 have HLX3 := Lib.hid (hlx.below hal)
 have HB3 : Hid (Below w.heap.size w (w3.alloc (.cells #[.string (txt x.1.name), .int .i64 (x.1.kind : Int), .int .i64 (x.1.typ : Int), .int .u64 (x.1.low : Int), .int .u64 (x.1.high : Int), .slice Bx x.1.names.length mx, .bool x.1.must, .int .i64 (x.1.most : Int), .slice Ax x.2.len cx] 34))) := Lib.hid (HB1.out.trans ((hb3.trans (hal.mono hb3.size)).mono HB1.out.size))
 clear hlx hb3 hal
 go_wp2_with fail
 refine (C2.out _ HB3.out).out.mono ?_
 rintro r w4 ⟨cs4, rfl, hly, hb4⟩
 obtain ⟨By, my, Ay, cy, rfl⟩ := hly.shape
 have hal : Below w4.heap.size w4 (w4.alloc (.cells #[.string (txt y.1.name), .int .i64 (y.1.kind : Int), .int .i64 (y.1.typ : Int), .int .u64 (y.1.low : Int), .int .u64 (y.1.high : Int), .slice By y.1.names.length my, .bool y.1.must, .int .i64 (y.1.most : Int), .slice Ay y.2.len cy] 34)) := (Below.refl _ _).alloc (Nat.le_refl _) _
 have hb4' := hb4.trans (hal.mono hb4.size)
 have HX4 := Lib.hid (HX3.out.below hb4' HX3.out.lt)
 have HLX4 := Lib.hid (HLX3.out.below hb4')
 have HY4 : Hid (Blk (w4.alloc (.cells #[.string (txt y.1.name), .int .i64 (y.1.kind : Int), .int .i64 (y.1.typ : Int), .int .u64 (y.1.low : Int), .int .u64 (y.1.high : Int), .slice By y.1.names.length my, .bool y.1.must, .int .i64 (y.1.most : Int), .slice Ay y.2.len cy] 34)) w4.heap.size 34 #[.string (txt y.1.name), .int .i64 (y.1.kind : Int), .int .i64 (y.1.typ : Int), .int .u64 (y.1.low : Int), .int .u64 (y.1.high : Int), .slice By y.1.names.length my, .bool y.1.must, .int .i64 (y.1.most : Int), .slice Ay y.2.len cy]) := Lib.hid (Blk.new w4 34 #[.string (txt y.1.name), .int .i64 (y.1.kind : Int), .int .i64 (y.1.typ : Int), .int .u64 (y.1.low : Int), .int .u64 (y.1.high : Int), .slice By y.1.names.length my, .bool y.1.must, .int .i64 (y.1.most : Int), .slice Ay y.2.len cy])
 have HLY4 := Lib.hid (hly.below hal)
 have HB4 : Hid (Below w.heap.size w (w4.alloc (.cells #[.string (txt y.1.name), .int .i64 (y.1.kind : Int), .int .i64 (y.1.typ : Int), .int .u64 (y.1.low : Int), .int .u64 (y.1.high : Int), .slice By y.1.names.length my, .bool y.1.must, .int .i64 (y.1.most : Int), .slice Ay y.2.len cy] 34))) := Lib.hid (HB3.out.trans (hb4'.mono HB3.out.size))
 clear hly hb4 hb4' hal
 have HX5 : Hid (Blk (w4.alloc (.cells #[.string (txt y.1.name), .int .i64 (y.1.kind : Int), .int .i64 (y.1.typ : Int), .int .u64 (y.1.low : Int), .int .u64 (y.1.high : Int), .slice By y.1.names.length my, .bool y.1.must, .int .i64 (y.1.most : Int), .slice Ay y.2.len cy] 34)).drew w3.heap.size 34 #[.string (txt x.1.name), .int .i64 (x.1.kind : Int), .int .i64 (x.1.typ : Int), .int .u64 (x.1.low : Int), .int .u64 (x.1.high : Int), .slice Bx x.1.names.length mx, .bool x.1.must, .int .i64 (x.1.most : Int), .slice Ax x.2.len cx]) := Lib.hid (HX4.out.below (Below.refl _ _).drew HX4.out.lt)
 have HLX5 : Hid (Lies (w4.alloc (.cells #[.string (txt y.1.name), .int .i64 (y.1.kind : Int), .int .i64 (y.1.typ : Int), .int .u64 (y.1.low : Int), .int .u64 (y.1.high : Int), .slice By y.1.names.length my, .bool y.1.must, .int .i64 (y.1.most : Int), .slice Ay y.2.len cy] 34)).drew [.string (txt x.1.name), .int .i64 (x.1.kind : Int), .int .i64 (x.1.typ : Int), .int .u64 (x.1.low : Int), .int .u64 (x.1.high : Int), .slice Bx x.1.names.length mx, .bool x.1.must, .int .i64 (x.1.most : Int), .slice Ax x.2.len cx] x) := Lib.hid (HLX4.out.below (Below.refl _ _).drew)
 have HY5 : Hid (Blk (w4.alloc (.cells #[.string (txt y.1.name), .int .i64 (y.1.kind : Int), .int .i64 (y.1.typ : Int), .int .u64 (y.1.low : Int), .int .u64 (y.1.high : Int), .slice By y.1.names.length my, .bool y.1.must, .int .i64 (y.1.most : Int), .slice Ay y.2.len cy] 34)).drew w4.heap.size 34 #[.string (txt y.1.name), .int .i64 (y.1.kind : Int), .int .i64 (y.1.typ : Int), .int .u64 (y.1.low : Int), .int .u64 (y.1.high : Int), .slice By y.1.names.length my, .bool y.1.must, .int .i64 (y.1.most : Int), .slice Ay y.2.len cy]) := Lib.hid (HY4.out.below (Below.refl _ _).drew HY4.out.lt)
 have HLY5 : Hid (Lies (w4.alloc (.cells #[.string (txt y.1.name), .int .i64 (y.1.kind : Int), .int .i64 (y.1.typ : Int), .int .u64 (y.1.low : Int), .int .u64 (y.1.high : Int), .slice By y.1.names.length my, .bool y.1.must, .int .i64 (y.1.most : Int), .slice Ay y.2.len cy] 34)).drew [.string (txt y.1.name), .int .i64 (y.1.kind : Int), .int .i64 (y.1.typ : Int), .int .u64 (y.1.low : Int), .int .u64 (y.1.high : Int), .slice By y.1.names.length my, .bool y.1.must, .int .i64 (y.1.most : Int), .slice Ay y.2.len cy] y) := Lib.hid (HLY4.out.below (Below.refl _ _).drew)
 have HB5 : Hid (Below w.heap.size w (w4.alloc (.cells #[.string (txt y.1.name), .int .i64 (y.1.kind : Int), .int .i64 (y.1.typ : Int), .int .u64 (y.1.low : Int), .int .u64 (y.1.high : Int), .slice By y.1.names.length my, .bool y.1.must, .int .i64 (y.1.most : Int), .slice Ay y.2.len cy] 34)).drew) := Lib.hid HB4.out.drew
 have HS5 : Hid (Blk (w4.alloc (.cells #[.string (txt y.1.name), .int .i64 (y.1.kind : Int), .int .i64 (y.1.typ : Int), .int .u64 (y.1.low : Int), .int .u64 (y.1.high : Int), .slice By y.1.names.length my, .bool y.1.must, .int .i64 (y.1.most : Int), .slice Ay y.2.len cy] 34)).drew w3.heap.size 34 #[.string (txt x.1.name), .int .i64 (x.1.kind : Int), .int .i64 (x.1.typ : Int), .int .u64 (x.1.low : Int), .int .u64 (x.1.high : Int), .slice Bx x.1.names.length mx, .bool x.1.must, .int .i64 (x.1.most : Int), .slice Ax x.2.len cx] ∧ (w4.alloc (.cells #[.string (txt y.1.name), .int .i64 (y.1.kind : Int), .int .i64 (y.1.typ : Int), .int .u64 (y.1.low : Int), .int .u64 (y.1.high : Int), .slice By y.1.names.length my, .bool y.1.must, .int .i64 (y.1.most : Int), .slice Ay y.2.len cy] 34)).drew.cell? ⟨g, o + N * 2, none⟩ = some (.string (txt s.1))) := Lib.hid ⟨HX5.out, (HB5.out.cell (p := ⟨g, o + N * 2, none⟩) HKC.out.1).trans HKC.out.2.1⟩
 have n0 : N < N + 1 := Nat.lt_succ_self N
 have n1 : (N : Int) < (N : Int) + 1 := by omega
 go_wp2_with fail
 refine wp_region_noPanic ?_
 refine wp_region_held_drew (S := fun _ => True) (by kernel_rfl) trivial (fun hS => ?_)
 refine held_more (S' := fun w' => Blk w' w3.heap.size 34 #[.string (txt x.1.name), .int .i64 (x.1.kind : Int), .int .i64 (x.1.typ : Int), .int .u64 (x.1.low : Int), .int .u64 (x.1.high : Int), .slice Bx x.1.names.length mx, .bool x.1.must, .int .i64 (x.1.most : Int), .slice Ax x.2.len cx] ∧ w'.cell? ⟨g, o + N * 2, none⟩ = some (.string (txt s.1))) (fun _ _ => trivial) _ _ _ _ ?_
 replace hS := HS5.out
 refine wpAnyH_take (i := 0) (oi := ?o_1s) (v := ?v_1s) ?i_1s (by kernel_rfl) (by kernel_rfl) (by kernel_rfl) (fun _ _ _ h => h) (Or.inl ⟨?g_1s, ?y_1s⟩) hS ?_
 case i_1s => simp only [layG]; rfl
 case g_1s => rfl
 case y_1s => (intro w hSw; have q0 := (hSw.1.cell 0).trans rfl; have q1 := (hSw.1.cell 1).trans rfl; have q2 := (hSw.1.cell 2).trans rfl; have q3 := (hSw.1.cell 3).trans rfl; have q4 := (hSw.1.cell 4).trans rfl; have q5 := (hSw.1.cell 5).trans rfl; have q6 := (hSw.1.cell 6).trans rfl; have q7 := (hSw.1.cell 7).trans rfl; have q8 := (hSw.1.cell 8).trans rfl; (go_simp <;> with_reducible rfl))
 (try simp only [Act.put, layS])
 refine wpAnyH_take (i := 1) (oi := ?o_1t) (v := ?v_1t) ?i_1t (by kernel_rfl) (by kernel_rfl) (by kernel_rfl) (fun _ _ _ h => h) (Or.inl ⟨?g_1t, ?y_1t⟩) hS ?_
 case i_1t => simp only [layG]; rfl
 case g_1t => rfl
 case y_1t => (intro w hSw; (go_simp <;> with_reducible rfl))
 (try simp only [Act.put, layS])
 refine wpAnyH_take (i := 2) (oi := ?o_1u) (v := ?v_1u) ?i_1u (by kernel_rfl) (by kernel_rfl) (by kernel_rfl) (fun _ _ _ h => h) (Or.inl ⟨?g_1u, ?y_1u⟩) hS ?_
 case i_1u => simp only [layG]; rfl
 case g_1u => rfl
 case y_1u => (intro w hSw; (go_simp <;> with_reducible rfl))
 (try simp only [Act.put, layS])
 refine wpAnyH_take (i := 3) (oi := ?o_1v) (v := ?v_1v) ?i_1v (by kernel_rfl) (by kernel_rfl) (by kernel_rfl) (fun _ _ _ h => h) (Or.inl ⟨?g_1v, ?y_1v⟩) hS ?_
 case i_1v => simp only [layG]; rfl
 case g_1v => rfl
 case y_1v => (intro w hSw; (go_simp <;> with_reducible rfl))
 (try simp only [Act.put, layS])
 refine wpAnyH_take (i := 4) (oi := ?o_1w) (v := ?v_1w) ?i_1w (by kernel_rfl) (by kernel_rfl) (by kernel_rfl) (fun _ _ _ h => h) (Or.inl ⟨?g_1w, ?y_1w⟩) hS ?_
 case i_1w => simp only [layG]; rfl
 case g_1w => rfl
 case y_1w => (intro w hSw; (go_simp <;> with_reducible rfl))
 (try simp only [Act.put, layS])
 refine wpAnyH_take (i := 5) (oi := ?o_1x) (v := ?v_1x) ?i_1x (by kernel_rfl) (by kernel_rfl) (by kernel_rfl) (fun _ _ _ h => h) (Or.inl ⟨?g_1x, ?y_1x⟩) hS ?_
 case i_1x => simp only [layG]; rfl
 case g_1x => rfl
 case y_1x => (intro w hSw; have hc := hSw.2; (go_simp <;> with_reducible rfl))
 (try simp only [Act.put, layS])
 refine wpAnyH_ready (rs := [6]) (by kernel_rfl) (by simp) ?_
 refine (AllReadyH.cons (o := ?or_1y) ?ir_1y (fun K hK => ?str_1y) AllReadyH.nil)
 case ir_1y => simp only [layG]; rfl
 rw [if_pos (by rfl)]
 go_simp
 refine (find_c HFC.out s.1 HB5.out HLX5.out HFX.out).mono ?_
 rintro r w5 ⟨rfl, hb⟩
 have HX6 := Lib.hid (HX5.out.below hb HX5.out.lt)
 have HY6 := Lib.hid (HY5.out.below hb HY5.out.lt)
 have HLX6 := Lib.hid (HLX5.out.below hb)
 have HLY6 := Lib.hid (HLY5.out.below hb)
 have HB6 := Lib.hid (HB5.out.trans (hb.mono HB5.out.size))
 have HS6 := Lib.hid (And.intro HX6.out ((HB6.out.cell (p := ⟨g, o + N * 2, none⟩) HKC.out.1).trans HKC.out.2.1))
 clear hb
 go_wp2_with fail
 refine hK.out _ _ ?sr_1y (fun hS => ?_)
 case sr_1y => (exact HS6.out)
 clear hK K
 (try simp only [Act.put, layS])
 refine wpAnyH_take (i := 7) (oi := ?o_1z) (v := ?v_1z) ?i_1z (by kernel_rfl) (by kernel_rfl) (by kernel_rfl) (fun _ _ _ h => h) (Or.inl ⟨?g_1z, ?y_1z⟩) hS ?_
 case i_1z => simp only [layG]; rfl
 case g_1z => rfl
 case y_1z => (intro w hSw; (go_simp <;> with_reducible rfl))
 (try simp only [Act.put, layS])
 refine wpAnyH_done (by kernel_rfl) ?_ _
 refine NoPanic.normal ?_
 clear hS
 rw [HFI.out]
 obtain ⟨kb, ko, cs', rfl, hkb, hlk, hcl⟩ := HLX6.out.kid rfl HGK.out
 obtain ⟨Bk, mk, Ak, ck, rfl⟩ := hlk.shape
 have HLK6 := Lib.hid hlk
 have HKB := Lib.hid hkb
 have HCL : Hid (∀ j u, ([.string (txt z.1.name), .int .i64 (z.1.kind : Int), .int .i64 (z.1.typ : Int), .int .u64 (z.1.low : Int), .int .u64 (z.1.high : Int), .slice Bk z.1.names.length mk, .bool z.1.must, .int .i64 (z.1.most : Int), .slice Ak z.2.len ck])[j]? = some u → w5.cell? ⟨kb, ko + i * 9 + j, none⟩ = some u) := Lib.hid hcl
 have x8 : w5.cell? ⟨w3.heap.size, 8, none⟩ = some (.slice (some ⟨kb, ko, none⟩) x.2.len cx) := (HX6.out.cell 8).trans rfl
 have k1 : w5.cell? ⟨kb, ko + i * 9 + 1, none⟩ = some (.int .i64 (z.1.kind : Int)) := hcl 1 _ rfl
 have ckk : w5.cell? ⟨g, o + N * 2 + 1, none⟩ = some (.string (txt s.2)) := (HB6.out.cell (p := ⟨g, o + N * 2 + 1, none⟩) HKC.out.1).trans HKC.out.2.2
 have j1 : (0 : Int) ≤ (i : Int) := by omega
 have j2 : (i : Int) < (x.2.len : Int) := by have := HIL.out; omega
 have j3 : ¬ (i : Int) < 0 := by omega
 have j4 : i < x.2.len := HIL.out
 clear hkb hlk hcl
 have C4 := Lib.hid (C3.out w5 HB6.out)
 obtain ⟨sn, sk⟩ := s
 simp only at tk hk2 ckk
 have e0 : txt [] = (⟨#[]⟩ : ByteArray) := rfl
 rcases hk2 with m1 | ⟨m1, rfl⟩ | ⟨m1, m2, m3, m4, HSH⟩
 ·go_wp2
  go_ret
  exact ⟨rfl, HB6.out⟩
 ·go_wp2
  go_ret
  exact ⟨rfl, HB6.out⟩
 ·go_wp2_with fail
  refine C4.out.out.mono ?_
  rintro r w7 ⟨rfl, hb⟩
  rw [HSH.out]
  have HB7 := Lib.hid (HB6.out.trans (hb.mono HB6.out.size))
  clear hb
  go_wp2
  go_ret
  exact ⟨rfl, HB7.out⟩
set_option maxRecDepth 100000 in
set_option maxHeartbeats 4000000 in
theorem pathFronts_out (v : Int) (l : List Stp) (A : Option Addr) (c : Nat) (w : World) (h : l.length = 0 ∨ 20 < l.length) (HA : Awake15 w) : Calls Tryd.prog 6 #[.int .i64 v, .slice A l.length c] w (fun r w' => r = .returned (.bool true) ∧ Below w.heap.size w w') := by
 have HAW := Lib.hid (HA w (Below.refl _ _))
 clear HA
 have hw : (((l.length : Int) == 0) = true ∧ (l.length == 0) = true) ∨ (((l.length : Int) == 0) = false ∧ (l.length == 0) = false ∧ (20 : Int) < (l.length : Int)) := by
  rcases h with h | h
  ·exact .inl ⟨beq_iff_eq.2 (by omega), beq_iff_eq.2 h⟩
  ·exact .inr ⟨beq_eq_false_iff_ne.2 (by omega), beq_eq_false_iff_ne.2 (by omega), by omega⟩
 clear h
 obtain ⟨n, hn⟩ : ∃ n, n = l.length := ⟨_, rfl⟩
 rw [← hn] at hw ⊢
 clear hn
 rcases hw with ⟨i0, i1⟩ | ⟨i0, i1, i2⟩
 all_goals
  go_enter Tryd.func6, Tryd.ntmps6
  go_wp2_with fail
  refine HAW.out.mono ?_
  rintro r w1 ⟨rfl, hB1⟩
  have HB1 := Lib.hid hB1
  clear hB1
  go_wp2
  go_ret
  exact ⟨rfl, HB1.out⟩
theorem pathFronts_walk (v : Int) (hv0 : -9223372036854775808 ≤ v) (hv1 : v ≤ 9223372036854775807) (l : List Stp) (A : Option Addr) (c : Nat) (w : World) (hA : WayV w.heap.size w (.slice A l.length c) l) (hsz : ∀ t ∈ l, t.1.length ≤ 9223372036854775807 ∧ t.2.length ≤ 9223372036854775807) (C : PthC w) (F : FindC w) (HA : Awake15 w) :
  Calls Tryd.prog 6 #[.int .i64 v, .slice A l.length c] w (fun r w' => r = .returned (.bool true) ∧ Below w.heap.size w w') := by
 by_cases h : l.length = 0 ∨ 20 < l.length
 ·exact pathFronts_out v l A c w h HA
 have h0 : l ≠ [] := fun e => h (.inl (by rw [e]; rfl))
 obtain ⟨fr, s, rfl⟩ : ∃ fr s, l = fr ++ [s] := ⟨l.dropLast, l.getLast h0, (List.dropLast_concat_getLast h0).symm⟩
 have hl : (fr ++ [s]).length = fr.length + 1 := by rw [List.length_append]; rfl
 rw [hl] at hA h ⊢
 obtain ⟨x, e, hx⟩ : ∃ x e, atP v fr = (x, e) := ⟨_, _, rfl⟩
 obtain ⟨y, f, hy⟩ : ∃ y f, atP v (fr ++ [s]) = (y, f) := ⟨_, _, rfl⟩
 by_cases he : e = 0
 ·have hsn := atP_snoc v fr s
  rw [hx, if_pos he, hy] at hsn
  cases hf : findX s.1 x.2 with
  | none => exact pathFronts_none v hv0 hv1 fr s _ A c x y e f w hA rfl (by omega) hsz hx hy he hf C F HA
  | some i =>
   obtain ⟨z, hg, -, -⟩ := find_some hf
   by_cases hb : (z.1.kind = 3 ∧ identX s.2 = false) ∨ (z.1.kind ≠ 3 ∧ s.2 ≠ [])
   ·rw [goS_bad hf hg hb] at hsn
    refine pathFronts_bad v hv0 hv1 fr s _ A c x y e f w hA rfl (by omega) hsz hx hy he i z hf hg (congrArg Prod.snd hsn) ?_ C F HA
    rcases hb with ⟨h1, h2⟩ | ⟨h1, h2⟩
    ·refine .inr ⟨h1, ?_⟩
     by_cases h3 : s.2 = []
     ·exact .inl h3
     ·exact .inr ⟨h3, show_bad (s := s) (by simp) (by unfold okS; simp [h2, h3])⟩
    ·exact .inl h1
   ·rw [goS_ok hf hg hb] at hsn
    obtain rfl : y = z := congrArg Prod.fst hsn
    refine pathFronts_ok v hv0 hv1 fr s _ A c x y e f w hA rfl (by omega) hsz hx hy he i hf hg (congrArg Prod.snd hsn) ?_ C F HA
    by_cases h3 : y.1.kind = 3
    ·refine .inl ⟨h3, fun e => hb (.inl ⟨h3, by rw [e]; rfl⟩)⟩
    ·refine .inr ⟨h3, ?_⟩
     by_cases h4 : s.2 = []
     ·exact h4
     ·exact absurd (.inr ⟨h3, h4⟩) hb
 ·exact pathFronts_err v hv0 hv1 fr s _ A c x y e f w hA rfl (by omega) hsz hx hy he C HA
end Go.Proofs.YtikmilcdibldhaaDoor
