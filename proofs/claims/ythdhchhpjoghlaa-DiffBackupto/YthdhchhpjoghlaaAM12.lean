/- Law16E -/
import Derived.Test.YthdhchhpjoghlaaAM0
import Derived.Test.YthdhchhpjoghlaaAM11
set_option linter.unusedSimpArgs false
set_option linter.unusedVariables false
namespace Go.Proofs.Ythdhchhpjoghlaa
open Go.RowKit
attribute [local go_sem] Oper.semAt_some
theorem step_in : ∀ {f : NdF} {s : Stp}, findIx s f < 0 ↔ s ∉ stepsF f := by
 intro f s
 have main : ∀ f : NdF, findN s f = none ↔ s ∉ stepsF f := by
  intro f
  induction f with
  | nil => simp [findN, stepsF]
  | cons a k r _ ih =>
   unfold findN
   simp only [stepsF, List.mem_cons, not_or]
   by_cases h : stp a = s
   ·rw [if_pos h]; simp [h]
   ·rw [if_neg h]
    simp only [Option.map_eq_none_iff]
    rw [ih]
    exact ⟨fun h2 => ⟨fun e => h e.symm, h2⟩, fun h2 => h2.2⟩
 unfold findIx
 cases h : findN s f with
 | none => simpa [h] using (main f).1 h
 | some n =>
  have h2 : ¬ s ∉ stepsF f := fun h3 => by rw [(main f).2 h3] at h; cases h
  simp only [h2, iff_false]
  omega
theorem mem_steps : ∀ {g : NdF} {i : Nat} {b : NdD} {q : NdF}, g.get? i = some (b, q) → stp b ∈ stepsF g := by
 intro g
 induction g with
 | nil => intro i b q h; simp [Fr.get?] at h
 | cons a k r _ ih =>
  intro i b q h
  cases i with
  | zero => simp [Fr.get?] at h; simp [stepsF, h.1]
  | succ i => simp only [stepsF, List.mem_cons]; exact .inr (ih (by simpa [Fr.get?] using h))
set_option maxRecDepth 100000 in
set_option maxHeartbeats 4000000 in
theorem diffParts_not (a b : NdD) (f g : NdF) (A B : Option Addr) (c d : Nat) (W0 : World) (hx : LieN W0 (ndC a (.slice A f.len c)) (a, f)) (hy : LieN W0 (ndC b (.slice B g.len d)) (b, g)) (hf : f.size ≤ 1000000) (hg : g.size ≤ 1000000) (C : DifC W0) (HA : Awake16 W0) (hs : smallX a b f g = false) : Calls Try.prog 6 #[.agg #[.string (txt a.name), .string (txt a.key), .int .i64 a.kind, .int .u64 (a.num : Int), .string (txt a.text), .slice A f.len c], .agg #[.string (txt b.name), .string (txt b.key), .int .i64 b.kind, .int .u64 (b.num : Int), .string (txt b.text), .slice B g.len d]] W0 (Ans9 (.bool true) W0) := by
 have hb2 : Blk ((W0.alloc (.cells #[.string (txt a.name), .string (txt a.key), .int .i64 a.kind, .int .u64 (a.num : Int), .string (txt a.text), .slice A f.len c] 27)).alloc (.cells #[.string (txt b.name), .string (txt b.key), .int .i64 b.kind, .int .u64 (b.num : Int), .string (txt b.text), .slice B g.len d] 27)) (W0.heap.size + 1) 27 #[.string (txt b.name), .string (txt b.key), .int .i64 b.kind, .int .u64 (b.num : Int), .string (txt b.text), .slice B g.len d] := by
  have h := Blk.new (W0.alloc (.cells #[.string (txt a.name), .string (txt a.key), .int .i64 a.kind, .int .u64 (a.num : Int), .string (txt a.text), .slice A f.len c] 27)) 27 #[.string (txt b.name), .string (txt b.key), .int .i64 b.kind, .int .u64 (b.num : Int), .string (txt b.text), .slice B g.len d]
  rwa [show (W0.alloc (.cells #[.string (txt a.name), .string (txt a.key), .int .i64 a.kind, .int .u64 (a.num : Int), .string (txt a.text), .slice A f.len c] 27)).heap.size = W0.heap.size + 1 by simp] at h
 have hb1 : Blk ((W0.alloc (.cells #[.string (txt a.name), .string (txt a.key), .int .i64 a.kind, .int .u64 (a.num : Int), .string (txt a.text), .slice A f.len c] 27)).alloc (.cells #[.string (txt b.name), .string (txt b.key), .int .i64 b.kind, .int .u64 (b.num : Int), .string (txt b.text), .slice B g.len d] 27)) W0.heap.size 27 #[.string (txt a.name), .string (txt a.key), .int .i64 a.kind, .int .u64 (a.num : Int), .string (txt a.text), .slice A f.len c] := (Blk.new W0 27 #[.string (txt a.name), .string (txt a.key), .int .i64 a.kind, .int .u64 (a.num : Int), .string (txt a.text), .slice A f.len c]).alloc (.cells #[.string (txt b.name), .string (txt b.key), .int .i64 b.kind, .int .u64 (b.num : Int), .string (txt b.text), .slice B g.len d] 27)
 have hbw : Below W0.heap.size W0 ((W0.alloc (.cells #[.string (txt a.name), .string (txt a.key), .int .i64 a.kind, .int .u64 (a.num : Int), .string (txt a.text), .slice A f.len c] 27)).alloc (.cells #[.string (txt b.name), .string (txt b.key), .int .i64 b.kind, .int .u64 (b.num : Int), .string (txt b.text), .slice B g.len d] 27)) := ((Below.refl _ _).alloc (Nat.le_refl _) _).alloc (by simp) _
 have hc1 : ∀ W, Below W0.heap.size W0 W → Hid (Calls Try.prog 8 #[.agg #[.string (txt a.name), .string (txt a.key), .int .i64 a.kind, .int .u64 (a.num : Int), .string (txt a.text), .slice A f.len c], .agg #[.string (txt b.name), .string (txt b.key), .int .i64 b.kind, .int .u64 (b.num : Int), .string (txt b.text), .slice B g.len d]] W (Ans9 (.bool (smallX a b f g)) W)) := fun W h => Lib.hid (small16_any a b f g A B c d W (hx.below h) (hy.below h) (by omega) (by omega))
 have HX := Lib.hid hb1
 have HY := Lib.hid hb2
 have HB := Lib.hid hbw
 have HAW := Lib.hid (HA _ hbw)
 rw [hs] at hc1
 have C1 := Lib.hid hc1
 clear hx hy hf hg hc1 hb1 hb2 hbw HA C hs
 go_enter Try.func6, Try.ntmps6
 go_wp2_with fail
 refine HAW.out.mono ?_
 rintro r w1 ⟨rfl, hb⟩
 have HX1 := Lib.hid (HX.out.below hb HX.out.lt)
 have HY1 := Lib.hid (HY.out.below hb HY.out.lt)
 have HB1 := Lib.hid (HB.out.trans (hb.mono HB.out.size))
 clear hb
 have q0 := (HX1.out.cell 0).trans rfl
 have q1 := (HX1.out.cell 1).trans rfl
 have q2 := (HX1.out.cell 2).trans rfl
 have q3 := (HX1.out.cell 3).trans rfl
 have q4 := (HX1.out.cell 4).trans rfl
 have q5 := (HX1.out.cell 5).trans rfl
 have x0 := (HY1.out.cell 0).trans rfl
 have x1 := (HY1.out.cell 1).trans rfl
 have x2 := (HY1.out.cell 2).trans rfl
 have x3 := (HY1.out.cell 3).trans rfl
 have x4 := (HY1.out.cell 4).trans rfl
 have x5 := (HY1.out.cell 5).trans rfl
 go_wp2_with fail
 refine (C1.out _ HB1.out).out.mono ?_
 rintro r w2 ⟨rfl, hb⟩
 have HX2 := Lib.hid (HX1.out.below hb HX1.out.lt)
 have HY2 := Lib.hid (HY1.out.below hb HY1.out.lt)
 have HB2 := Lib.hid (HB1.out.trans (hb.mono HB1.out.size))
 clear hb
 have q0 := (HX2.out.cell 0).trans rfl
 have q1 := (HX2.out.cell 1).trans rfl
 have q2 := (HX2.out.cell 2).trans rfl
 have q3 := (HX2.out.cell 3).trans rfl
 have q4 := (HX2.out.cell 4).trans rfl
 have q5 := (HX2.out.cell 5).trans rfl
 have x0 := (HY2.out.cell 0).trans rfl
 have x1 := (HY2.out.cell 1).trans rfl
 have x2 := (HY2.out.cell 2).trans rfl
 have x3 := (HY2.out.cell 3).trans rfl
 have x4 := (HY2.out.cell 4).trans rfl
 have x5 := (HY2.out.cell 5).trans rfl
 go_wp2
 go_ret
 exact ⟨rfl, HB2.out⟩
set_option maxRecDepth 100000 in
set_option maxHeartbeats 40000000 in
theorem diffParts_yes (a b : NdD) (f g : NdF) (A B : Option Addr) (c d : Nat) (W0 : World) (hx : LieN W0 (ndC a (.slice A f.len c)) (a, f)) (hy : LieN W0 (ndC b (.slice B g.len d)) (b, g)) (hf : f.size ≤ 1000000) (hg : g.size ≤ 1000000) (C : DifC W0) (HA : Awake16 W0) (hs : smallX a b f g = true) : Calls Try.prog 6 #[.agg #[.string (txt a.name), .string (txt a.key), .int .i64 a.kind, .int .u64 (a.num : Int), .string (txt a.text), .slice A f.len c], .agg #[.string (txt b.name), .string (txt b.key), .int .i64 b.kind, .int .u64 (b.num : Int), .string (txt b.text), .slice B g.len d]] W0 (Ans9 (.bool true) W0) := by
 have hb2 : Blk ((W0.alloc (.cells #[.string (txt a.name), .string (txt a.key), .int .i64 a.kind, .int .u64 (a.num : Int), .string (txt a.text), .slice A f.len c] 27)).alloc (.cells #[.string (txt b.name), .string (txt b.key), .int .i64 b.kind, .int .u64 (b.num : Int), .string (txt b.text), .slice B g.len d] 27)) (W0.heap.size + 1) 27 #[.string (txt b.name), .string (txt b.key), .int .i64 b.kind, .int .u64 (b.num : Int), .string (txt b.text), .slice B g.len d] := by
  have h := Blk.new (W0.alloc (.cells #[.string (txt a.name), .string (txt a.key), .int .i64 a.kind, .int .u64 (a.num : Int), .string (txt a.text), .slice A f.len c] 27)) 27 #[.string (txt b.name), .string (txt b.key), .int .i64 b.kind, .int .u64 (b.num : Int), .string (txt b.text), .slice B g.len d]
  rwa [show (W0.alloc (.cells #[.string (txt a.name), .string (txt a.key), .int .i64 a.kind, .int .u64 (a.num : Int), .string (txt a.text), .slice A f.len c] 27)).heap.size = W0.heap.size + 1 by simp] at h
 have hb1 : Blk ((W0.alloc (.cells #[.string (txt a.name), .string (txt a.key), .int .i64 a.kind, .int .u64 (a.num : Int), .string (txt a.text), .slice A f.len c] 27)).alloc (.cells #[.string (txt b.name), .string (txt b.key), .int .i64 b.kind, .int .u64 (b.num : Int), .string (txt b.text), .slice B g.len d] 27)) W0.heap.size 27 #[.string (txt a.name), .string (txt a.key), .int .i64 a.kind, .int .u64 (a.num : Int), .string (txt a.text), .slice A f.len c] := (Blk.new W0 27 #[.string (txt a.name), .string (txt a.key), .int .i64 a.kind, .int .u64 (a.num : Int), .string (txt a.text), .slice A f.len c]).alloc (.cells #[.string (txt b.name), .string (txt b.key), .int .i64 b.kind, .int .u64 (b.num : Int), .string (txt b.text), .slice B g.len d] 27)
 have hbw : Below W0.heap.size W0 ((W0.alloc (.cells #[.string (txt a.name), .string (txt a.key), .int .i64 a.kind, .int .u64 (a.num : Int), .string (txt a.text), .slice A f.len c] 27)).alloc (.cells #[.string (txt b.name), .string (txt b.key), .int .i64 b.kind, .int .u64 (b.num : Int), .string (txt b.text), .slice B g.len d] 27)) := ((Below.refl _ _).alloc (Nat.le_refl _) _).alloc (by simp) _
 have hc1 : ∀ W, Below W0.heap.size W0 W → Hid (Calls Try.prog 8 #[.agg #[.string (txt a.name), .string (txt a.key), .int .i64 a.kind, .int .u64 (a.num : Int), .string (txt a.text), .slice A f.len c], .agg #[.string (txt b.name), .string (txt b.key), .int .i64 b.kind, .int .u64 (b.num : Int), .string (txt b.text), .slice B g.len d]] W (Ans9 (.bool (smallX a b f g)) W)) := fun W h => Lib.hid (small16_any a b f g A B c d W (hx.below h) (hy.below h) (by omega) (by omega))
 have HX := Lib.hid hb1
 have HY := Lib.hid hb2
 have HB := Lib.hid hbw
 have HAW := Lib.hid (HA _ hbw)
 rw [hs] at hc1
 obtain ⟨⟨⟨⟨⟨s1, s2⟩, s3⟩, s4⟩, s5⟩, s6⟩ : ((((f.size + 1 ≤ 300 ∧ g.size + 1 ≤ 300) ∧ a.kind = 0) ∧ b.kind = 0) ∧ rgtX (a, f) = true) ∧ rgtX (b, g) = true := by simpa [smallX] using hs
 obtain ⟨r1, r2⟩ := rgt_zero s5 s3
 obtain ⟨r3, r4⟩ := rgt_zero s6 s4
 obtain ⟨L, hL⟩ : ∃ L, L = edF f g [] := ⟨_, rfl⟩
 have hfl : FewE L := hL ▸ fewE_ed (by omega)
 have hll : L.length ≤ 1000 := by rw [hL]; exact Nat.le_trans (ed_len f g []) (by omega)
 obtain ⟨-, p2, p3⟩ := ed_parts f g [] rfl r2 r4
 rw [← hL] at p2 p3
 have hshp : ∀ e ∈ L, Shp [] e := fun e he => ed_shp f g [] e (hL ▸ he)
 have hc2 : ∀ W, Below W0.heap.size W0 W → Hid (Calls Try.prog 10 #[.agg #[.string (txt a.name), .string (txt a.key), .int .i64 a.kind, .int .u64 (a.num : Int), .string (txt a.text), .slice A f.len c], .agg #[.string (txt b.name), .string (txt b.key), .int .i64 b.kind, .int .u64 (b.num : Int), .string (txt b.text), .slice B g.len d]] W (InvP L W)) := fun W h => Lib.hid (hL ▸ C.edits a b f g A B c d W (hx.below h) (hy.below h) (by omega) s3 s4 s5 s6 h)
 have hc3 : ∀ v u s W, Below W0.heap.size W0 W → EdsV (Bel W) W v L → WayV W.heap.size W u [s] → Hid (Calls Try.prog 15 #[v, u] W (Ans9 (.int .i64 (undE L [s] : Int)) W)) := fun v u s W h hv hu => Lib.hid (C.under L [s] v u W hv hu hfl (by simp) h)
 have hc4 : ∀ s W, Below W0.heap.size W0 W → Hid (Calls Try.prog 19 #[.agg #[.string (txt a.name), .string (txt a.key), .int .i64 a.kind, .int .u64 (a.num : Int), .string (txt a.text), .slice A f.len c], .agg #[.string (txt s.1), .string (txt s.2)]] W (Ans9 (.int .i64 (findIx s f)) W)) := fun s W h => Lib.hid (rfindn_any s (a, f) _ W (hx.below h) (Nat.le_trans (Fr.len_size f) (by omega)))
 have lf : f.len ≤ 1000 := Nat.le_trans (Fr.len_size f) (by omega)
 have lg : g.len ≤ 1000 := Nat.le_trans (Fr.len_size g) (by omega)
 have C1 := Lib.hid hc1
 have C2 := Lib.hid hc2
 have C3 := Lib.hid hc3
 have C4 := Lib.hid hc4
 have HLL := Lib.hid hll
 have HP2 := Lib.hid p2
 have HP3 := Lib.hid p3
 have HSH := Lib.hid hshp
 have HFW := Lib.hid hfl
 have HRF := Lib.hid (RowS.bel hx)
 have HRG := Lib.hid (RowS.bel hy)
 have HP0 : Hid (W0.heap.size < W0.heap.size + 2) := Lib.hid (by omega)
 have HP1 : Hid (W0.heap.size + 1 < W0.heap.size + 2) := Lib.hid (by omega)
 clear hx hy hf hg hc1 hc2 hc3 hc4 hb1 hb2 hbw HA C hs s1 s2 s3 s4 s5 s6 hL hll p2 p3 hshp hfl r1 r2 r3 r4
 go_enter Try.func6, Try.ntmps6
 go_wp2_with fail
 refine HAW.out.mono ?_
 rintro r w1 ⟨rfl, hb⟩
 have HX1 := Lib.hid (HX.out.below hb HX.out.lt)
 have HY1 := Lib.hid (HY.out.below hb HY.out.lt)
 have HB1 := Lib.hid (HB.out.trans (hb.mono HB.out.size))
 clear hb
 have q0 := (HX1.out.cell 0).trans rfl
 have q1 := (HX1.out.cell 1).trans rfl
 have q2 := (HX1.out.cell 2).trans rfl
 have q3 := (HX1.out.cell 3).trans rfl
 have q4 := (HX1.out.cell 4).trans rfl
 have q5 := (HX1.out.cell 5).trans rfl
 have x0 := (HY1.out.cell 0).trans rfl
 have x1 := (HY1.out.cell 1).trans rfl
 have x2 := (HY1.out.cell 2).trans rfl
 have x3 := (HY1.out.cell 3).trans rfl
 have x4 := (HY1.out.cell 4).trans rfl
 have x5 := (HY1.out.cell 5).trans rfl
 go_wp2_with fail
 refine (C1.out _ HB1.out).out.mono ?_
 rintro r w2 ⟨rfl, hb⟩
 have HX2 := Lib.hid (HX1.out.below hb HX1.out.lt)
 have HY2 := Lib.hid (HY1.out.below hb HY1.out.lt)
 have HB2 := Lib.hid (HB1.out.trans (hb.mono HB1.out.size))
 clear hb
 have q0 := (HX2.out.cell 0).trans rfl
 have q1 := (HX2.out.cell 1).trans rfl
 have q2 := (HX2.out.cell 2).trans rfl
 have q3 := (HX2.out.cell 3).trans rfl
 have q4 := (HX2.out.cell 4).trans rfl
 have q5 := (HX2.out.cell 5).trans rfl
 have x0 := (HY2.out.cell 0).trans rfl
 have x1 := (HY2.out.cell 1).trans rfl
 have x2 := (HY2.out.cell 2).trans rfl
 have x3 := (HY2.out.cell 3).trans rfl
 have x4 := (HY2.out.cell 4).trans rfl
 have x5 := (HY2.out.cell 5).trans rfl
 go_wp2_with fail
 refine (C2.out w2 HB2.out).out.mono ?_
 rintro r w3 ⟨v3, rfl, hv, hb⟩
 have HX3 := Lib.hid (HX2.out.below hb HX2.out.lt)
 have HY3 := Lib.hid (HY2.out.below hb HY2.out.lt)
 have HB3 := Lib.hid (HB2.out.trans (hb.mono HB2.out.size))
 obtain ⟨A3, c3, rfl⟩ := hv.shape
 have HL3 := Lib.hid hv
 clear hv hb q0 q1 q2 q3 q4 q5 x0 x1 x2 x3 x4 x5
 go_wp2
 go_loopw [8, 9] (fun va vi wr => ∃ n i : Nat, i ≤ f.len ∧ va = .int .i64 (n : Int) ∧ vi = .int .i64 (i : Int) ∧ Hid (n + sumU L (Fr.drop i f) = sumU L f) ∧ Hid (Blk wr W0.heap.size 27 #[.string (txt a.name), .string (txt a.key), .int .i64 a.kind, .int .u64 (a.num : Int), .string (txt a.text), .slice A f.len c]) ∧ Hid (Blk wr (W0.heap.size + 1) 27 #[.string (txt b.name), .string (txt b.key), .int .i64 b.kind, .int .u64 (b.num : Int), .string (txt b.text), .slice B g.len d]) ∧ Hid (EdsV (Bel wr) wr (.slice A3 L.length c3) L) ∧ Hid (Below W0.heap.size W0 wr)) (fun _ vi _ => f.len - (intOf vi).toNat)
 case atStart => exact ⟨0, 0, Nat.zero_le _, rfl, rfl, Lib.hid (Nat.zero_add _), HX3, HY3, HL3, HB3⟩
 case round =>
  obtain ⟨n, i, hi, rfl, rfl, HN, HX4, HY4, HL4, HB4⟩ := hrel
  have x5 : wr.cell? ⟨W0.heap.size, 5, none⟩ = some (.slice A f.len c) := (HX4.out.cell 5).trans rfl
  have i1 : (0 : Int) ≤ (i : Int) := by omega
  have hnn : n ≤ 1000 := by have h1 := HN.out; have h2 := HP3.out; have h3 := HLL.out; omega
  have HBR : Hid (W0.heap.size + 2 ≤ wr.heap.size) := Lib.hid (by have h := HY4.out.lt; omega)
  by_cases hi2 : i < f.len
  ·obtain ⟨⟨a1, k1⟩, hga⟩ : ∃ x, f.get? i = some x := by obtain ⟨a, k, h⟩ := Fr.get_some hi2; exact ⟨_, h⟩
   have hda := (Fr.get_drop hga).1
   obtain ⟨ga, oa, A1, c1, rfl, hsa, hra, hca⟩ := HRF.out.at hga
   have KA : Hid (ga < W0.heap.size + 2 ∧ ∀ j u, (ndC a1 (.slice A1 k1.len c1))[j]? = some u → wr.cell? ⟨ga, oa + i * 6 + j, none⟩ = some u) := Lib.hid ⟨Nat.lt_of_lt_of_le hsa (Nat.le_add_right _ _), fun j u hu => (HB4.out.cell (p := ⟨ga, oa + i * 6 + j, none⟩) hsa).trans (hca j u hu)⟩
   have ia2 : (i : Int) < (f.len : Int) := by omega
   obtain ⟨m, hm⟩ : ∃ m, m = undE L [stp a1] := ⟨_, rfl⟩
   have HN2 : Hid (n + m + sumU L (Fr.drop (i + 1) f) = sumU L f) := Lib.hid (by rw [← HN.out, hda, sumU_cons, hm]; omega)
   have hnm : n + m ≤ 1000 := by have h1 := HN2.out; have h2 := HP3.out; have h3 := HLL.out; omega
   have CU : Hid (∀ W u, Below wr.heap.size wr W → WayV W.heap.size W u [stp a1] → Hid (Calls Try.prog 15 #[.slice A3 L.length c3, u] W (Ans9 (.int .i64 (m : Int)) W))) := Lib.hid fun W u h hu => by rw [hm]; exact C3.out _ u (stp a1) W (HB4.out.trans (h.mono HB4.out.size)) (HL4.out.below h) hu
   have HJW : Hid (IntKind.i64.wrap ((n : Int) + (m : Int)) = ((n + m : Nat) : Int)) := Lib.hid ((Go.IntWalk.i64_in _ (by omega)).trans (by omega))
   clear hga hda hsa hra hca hm
   have hdr : Below wr.heap.size wr wr.drew := (Below.refl _ _).drew
   go_wp2_with fail
   refine wp_region_noPanic ?_
   refine wp_region_held_drew (S := fun _ => True) (by kernel_rfl) trivial (fun hS => ?_)
   refine held_more (S' := fun w' => Below (W0.heap.size + 2) wr w') (fun _ _ => trivial) _ _ _ _ ?_
   replace hS := hdr.mono HBR.out
   refine tkH 0 hS ?_
   refine tkH 1 hS ?_
   refine tkH 2 hS ?_
   refine tkH 3 hS ?_ (hy := fun w hSw => by have za := (hSw.cell (p := ⟨W0.heap.size, 5, none⟩) HP0.out).trans x5; (go_simp <;> with_reducible rfl))
   refine tkH 4 hS ?_
   refine tkH 5 hS ?_
   refine tkH 6 hS ?_
   refine tkH 7 hS ?_ (hy := fun w hSw => by have u0a : w.cell? ⟨ga, oa + i * 6, none⟩ = _ := (hSw.cell (p := ⟨ga, oa + i * 6, none⟩) KA.out.1).trans (KA.out.2 0 _ rfl); (go_simp <;> with_reducible rfl))
   refine tkH 8 hS ?_
   refine tkH 9 hS ?_ (hy := fun w hSw => by have za := (hSw.cell (p := ⟨W0.heap.size, 5, none⟩) HP0.out).trans x5; (go_simp <;> with_reducible rfl))
   refine tkH 10 hS ?_
   refine tkH 11 hS ?_
   refine tkH 12 hS ?_
   refine tkH 13 hS ?_ (hy := fun w hSw => by have u1a := (hSw.cell (p := ⟨ga, oa + i * 6 + 1, none⟩) KA.out.1).trans (KA.out.2 1 _ rfl); (go_simp <;> with_reducible rfl))
   refine tkH 14 hS ?_
   refine wpAnyH_ready (rs := [15]) (by kernel_rfl) (by simp) ?_
   refine (AllReadyH.cons (o := ?or_0) ?ir_0 (fun K hK => ?str_0) AllReadyH.nil)
   case ir_0 => simp only [layG]; rfl
   rw [if_pos (by rfl)]
   go_simp
   refine hK.out _ _ ?sr_0 (fun hS => ?_)
   case sr_0 => (exact (hdr.alloc hdr.size _).mono HBR.out)
   clear hK K
   (try simp only [Act.put, layS])
   refine wpAnyH_ready (rs := [16]) (by kernel_rfl) (by simp) ?_
   refine (AllReadyH.cons (o := ?or_1) ?ir_1 (fun K hK => ?str_1) AllReadyH.nil)
   case ir_1 => simp only [layG]; rfl
   rw [if_pos (by rfl)]
   go_simp
   refine (CU.out _ _ (hdr.alloc hdr.size _) (OwnS.one (stp a1) (base := 0) (Nat.zero_le _)).way).out.mono ?_
   rintro r wv ⟨rfl, hb⟩
   have HV := Lib.hid ((hdr.alloc hdr.size _).trans (hb.mono (hdr.alloc hdr.size _).size))
   clear hb
   go_wp2_with fail
   refine hK.out _ _ ?sr_1 (fun hS => ?_)
   case sr_1 => (exact HV.out.mono HBR.out)
   clear hK K
   (try simp only [Act.put, layS])
   refine tkH 17 hS ?_
   refine tkH 18 hS ?_
   refine wpAnyH_done (by kernel_rfl) ?_ _
   refine NoPanic.normal ?_
   clear hS
   go_wp2
   go_roundw
   case rel => exact ⟨n + m, i + 1, by omega, congrArg (Value.int .i64) HJW.out, by go_num, HN2, Lib.hid (HX4.out.below HV.out HX4.out.lt), Lib.hid (HY4.out.below HV.out HY4.out.lt), Lib.hid (HL4.out.below HV.out), Lib.hid (HB4.out.trans (HV.out.mono HB4.out.size))⟩
   case measure => simp [intOf]; omega
  ·obtain rfl : i = f.len := by omega
   have ia2 : ¬ (f.len : Int) < (f.len : Int) := by omega
   have HN9 : Hid (n = sumU L f) := Lib.hid (by have h := HN.out; rw [Fr.drop_all] at h; exact h)
   clear hi2
   go_wp2
   go_loopw [8, 10, 12] (fun va vk _ wr => ∃ n k : Nat, k ≤ g.len ∧ va = .int .i64 (n : Int) ∧ vk = .int .i64 (k : Int) ∧ Hid (n + onlyG f (Fr.drop k g) = sumU L f + onlyG f g) ∧ Hid (Blk wr W0.heap.size 27 #[.string (txt a.name), .string (txt a.key), .int .i64 a.kind, .int .u64 (a.num : Int), .string (txt a.text), .slice A f.len c]) ∧ Hid (Blk wr (W0.heap.size + 1) 27 #[.string (txt b.name), .string (txt b.key), .int .i64 b.kind, .int .u64 (b.num : Int), .string (txt b.text), .slice B g.len d]) ∧ Hid (EdsV (Bel wr) wr (.slice A3 L.length c3) L) ∧ Hid (Below W0.heap.size W0 wr)) (fun _ vk _ _ => g.len - (intOf vk).toNat)
   case atStart => exact ⟨n, 0, Nat.zero_le _, rfl, rfl, Lib.hid (by rw [HN9.out]; rfl), HX4, HY4, HL4, HB4⟩
   case round =>
    clear HX4 HY4 HL4 HB4 HN9 HN x5
    obtain ⟨n2, k, hk, rfl, rfl, HN, HX4, HY4, HL4, HB4⟩ := hrel
    have y5 : wr.cell? ⟨W0.heap.size + 1, 5, none⟩ = some (.slice B g.len d) := (HY4.out.cell 5).trans rfl
    have k1_ : (0 : Int) ≤ (k : Int) := by omega
    have hnn : n2 ≤ 1000 := by have h1 := HN.out; have h2 := HP3.out; have h3 := HLL.out; omega
    have HBR : Hid (W0.heap.size + 2 ≤ wr.heap.size) := Lib.hid (by have h := HY4.out.lt; omega)
    by_cases hk2 : k < g.len
    ·obtain ⟨⟨b1, q1⟩, hgb⟩ : ∃ x, g.get? k = some x := by obtain ⟨a, q, h⟩ := Fr.get_some hk2; exact ⟨_, h⟩
     have hdb := (Fr.get_drop hgb).1
     obtain ⟨gb, ob, B1, d1, rfl, hsb, hrb, hcb⟩ := HRG.out.at hgb
     have KB : Hid (gb < W0.heap.size + 2 ∧ ∀ j u, (ndC b1 (.slice B1 q1.len d1))[j]? = some u → wr.cell? ⟨gb, ob + k * 6 + j, none⟩ = some u) := Lib.hid ⟨Nat.lt_of_lt_of_le hsb (Nat.le_add_right _ _), fun j u hu => (HB4.out.cell (p := ⟨gb, ob + k * 6 + j, none⟩) hsb).trans (hcb j u hu)⟩
     have ib2 : (k : Int) < (g.len : Int) := by omega
     have hdr : Below wr.heap.size wr wr.drew := (Below.refl _ _).drew
     by_cases hin : stp b1 ∈ stepsF f
     ·obtain ⟨z, hz⟩ : ∃ z, z = findIx (stp b1) f := ⟨_, rfl⟩
      have z0 : ¬ z < 0 := by rw [hz]; exact fun h => step_in.1 h hin
      have CF : Hid (∀ W, Below wr.heap.size wr W → Hid (Calls Try.prog 19 #[.agg #[.string (txt a.name), .string (txt a.key), .int .i64 a.kind, .int .u64 (a.num : Int), .string (txt a.text), .slice A f.len c], .agg #[.string (txt b1.name), .string (txt b1.key)]] W (Ans9 (.int .i64 z) W))) := Lib.hid fun W h => by rw [hz]; exact C4.out (stp b1) W (HB4.out.trans (h.mono HB4.out.size))
      have HN2 : Hid (n2 + onlyG f (Fr.drop (k + 1) g) = sumU L f + onlyG f g) := Lib.hid (by rw [← HN.out, hdb]; simp only [onlyG, if_pos hin]; omega)
      clear hgb hdb hsb hrb hcb hin hz
      go_wp2_with fail
      refine wp_region_noPanic ?_
      refine wp_region_held_drew (S := fun _ => True) (by kernel_rfl) trivial (fun hS => ?_)
      refine held_more (S' := fun w' => Below (W0.heap.size + 2) wr w') (fun _ _ => trivial) _ _ _ _ ?_
      replace hS := hdr.mono HBR.out
      refine tkH 0 hS ?_
      refine tkH 1 hS ?_ (hy := fun w hSw => by have zb := (hSw.cell (p := ⟨W0.heap.size + 1, 5, none⟩) HP1.out).trans y5; (go_simp <;> with_reducible rfl))
      refine tkH 2 hS ?_
      refine tkH 3 hS ?_
      refine tkH 4 hS ?_
      refine tkH 5 hS ?_ (hy := fun w hSw => by have u0b : w.cell? ⟨gb, ob + k * 6, none⟩ = _ := (hSw.cell (p := ⟨gb, ob + k * 6, none⟩) KB.out.1).trans (KB.out.2 0 _ rfl); (go_simp <;> with_reducible rfl))
      refine tkH 6 hS ?_
      refine tkH 7 hS ?_ (hy := fun w hSw => by have zb := (hSw.cell (p := ⟨W0.heap.size + 1, 5, none⟩) HP1.out).trans y5; (go_simp <;> with_reducible rfl))
      refine tkH 8 hS ?_
      refine tkH 9 hS ?_
      refine tkH 10 hS ?_
      refine tkH 11 hS ?_ (hy := fun w hSw => by have u1b := (hSw.cell (p := ⟨gb, ob + k * 6 + 1, none⟩) KB.out.1).trans (KB.out.2 1 _ rfl); (go_simp <;> with_reducible rfl))
      refine tkH 12 hS ?_
      refine wpAnyH_ready (rs := [13]) (by kernel_rfl) (by simp) ?_
      refine (AllReadyH.cons (o := ?or_2) ?ir_2 (fun K hK => ?str_2) AllReadyH.nil)
      case ir_2 => simp only [layG]; rfl
      rw [if_pos (by rfl)]
      go_simp
      refine hK.out _ _ ?sr_2 (fun hS => ?_)
      case sr_2 => (exact (hdr.alloc hdr.size _).mono HBR.out)
      clear hK K
      (try simp only [Act.put, layS])
      refine wpAnyH_ready (rs := [14]) (by kernel_rfl) (by simp) ?_
      refine (AllReadyH.cons (o := ?or_3) ?ir_3 (fun K hK => ?str_3) AllReadyH.nil)
      case ir_3 => simp only [layG]; rfl
      rw [if_pos (by rfl)]
      go_simp
      refine hK.out _ _ ?sr_3 (fun hS => ?_)
      case sr_3 => (exact (hdr.alloc hdr.size _).mono HBR.out)
      clear hK K
      (try simp only [Act.put, layS])
      refine wpAnyH_done (by kernel_rfl) ?_ _
      refine NoPanic.normal ?_
      clear hS
      have HQ : Hid (Below wr.heap.size wr (wr.alloc (.cells #[.string (txt b1.name), .string (txt b1.key)] 39)).drew) := Lib.hid ((Below.refl _ _).alloc (Nat.le_refl _) _).drew
      have HQB : Hid (Blk (wr.alloc (.cells #[.string (txt b1.name), .string (txt b1.key)] 39)).drew wr.heap.size 39 #[.string (txt b1.name), .string (txt b1.key)]) := Lib.hid (show Blk (wr.alloc (.cells #[.string (txt b1.name), .string (txt b1.key)] 39)) wr.heap.size 39 #[.string (txt b1.name), .string (txt b1.key)] from Blk.new wr 39 _)
      clear hdr
      revert HQ HQB
      generalize (wr.alloc (.cells #[.string (txt b1.name), .string (txt b1.key)] 39)).drew = wq
      intro HQ HQB
      have HXQ := Lib.hid (HX4.out.below HQ.out HX4.out.lt)
      have q0 := (HXQ.out.cell 0).trans rfl
      have q1 := (HXQ.out.cell 1).trans rfl
      have q2 := (HXQ.out.cell 2).trans rfl
      have q3 := (HXQ.out.cell 3).trans rfl
      have q4 := (HXQ.out.cell 4).trans rfl
      have q5 := (HXQ.out.cell 5).trans rfl
      have s0 : wq.cell? ⟨wr.heap.size, 0, none⟩ = some (.string (txt b1.name)) := (HQB.out.cell 0).trans rfl
      have s1 : wq.cell? ⟨wr.heap.size, 1, none⟩ = some (.string (txt b1.key)) := (HQB.out.cell 1).trans rfl
      go_wp2_with fail
      refine (CF.out _ HQ.out).out.mono ?_
      rintro r wf ⟨rfl, hb⟩
      have HF := Lib.hid (HQ.out.trans (hb.mono HQ.out.size))
      have HQF := Lib.hid (HQB.out.below hb HQB.out.lt)
      clear hb q0 q1 q2 q3 q4 q5 s0 s1
      have s0 : wf.cell? ⟨wr.heap.size, 0, none⟩ = some (.string (txt b1.name)) := (HQF.out.cell 0).trans rfl
      have s1 : wf.cell? ⟨wr.heap.size, 1, none⟩ = some (.string (txt b1.key)) := (HQF.out.cell 1).trans rfl
      go_wp2
      go_roundw
      case rel => exact ⟨n2, k + 1, by omega, rfl, by go_num, HN2, Lib.hid (HX4.out.below HF.out HX4.out.lt), Lib.hid (HY4.out.below HF.out HY4.out.lt), Lib.hid (HL4.out.below HF.out), Lib.hid (HB4.out.trans (HF.out.mono HB4.out.size))⟩
      case measure => simp [intOf]; omega
     ·obtain ⟨z, hz⟩ : ∃ z, z = findIx (stp b1) f := ⟨_, rfl⟩
      have z0 : z < 0 := by rw [hz]; exact step_in.2 hin
      have CF : Hid (∀ W, Below wr.heap.size wr W → Hid (Calls Try.prog 19 #[.agg #[.string (txt a.name), .string (txt a.key), .int .i64 a.kind, .int .u64 (a.num : Int), .string (txt a.text), .slice A f.len c], .agg #[.string (txt b1.name), .string (txt b1.key)]] W (Ans9 (.int .i64 z) W))) := Lib.hid fun W h => by rw [hz]; exact C4.out (stp b1) W (HB4.out.trans (h.mono HB4.out.size))
      have CU : Hid (∀ W u, Below wr.heap.size wr W → WayV W.heap.size W u [stp b1] → Hid (Calls Try.prog 15 #[.slice A3 L.length c3, u] W (Ans9 (.int .i64 1) W))) := Lib.hid fun W u h hu => by
       have h2 := C3.out _ u (stp b1) W (HB4.out.trans (h.mono HB4.out.size)) (HL4.out.below h) hu
       rwa [HP2.out _ hin (mem_steps hgb)] at h2
      have HN2 : Hid (n2 + 1 + onlyG f (Fr.drop (k + 1) g) = sumU L f + onlyG f g) := Lib.hid (by rw [← HN.out, hdb]; simp only [onlyG, if_neg hin]; omega)
      clear hgb hdb hsb hrb hcb hin hz
      go_wp2_with fail
      refine wp_region_noPanic ?_
      refine wp_region_held_drew (S := fun _ => True) (by kernel_rfl) trivial (fun hS => ?_)
      refine held_more (S' := fun w' => Below (W0.heap.size + 2) wr w') (fun _ _ => trivial) _ _ _ _ ?_
      replace hS := hdr.mono HBR.out
      refine tkH 0 hS ?_
      refine tkH 1 hS ?_ (hy := fun w hSw => by have zb := (hSw.cell (p := ⟨W0.heap.size + 1, 5, none⟩) HP1.out).trans y5; (go_simp <;> with_reducible rfl))
      refine tkH 2 hS ?_
      refine tkH 3 hS ?_
      refine tkH 4 hS ?_
      refine tkH 5 hS ?_ (hy := fun w hSw => by have u0b : w.cell? ⟨gb, ob + k * 6, none⟩ = _ := (hSw.cell (p := ⟨gb, ob + k * 6, none⟩) KB.out.1).trans (KB.out.2 0 _ rfl); (go_simp <;> with_reducible rfl))
      refine tkH 6 hS ?_
      refine tkH 7 hS ?_ (hy := fun w hSw => by have zb := (hSw.cell (p := ⟨W0.heap.size + 1, 5, none⟩) HP1.out).trans y5; (go_simp <;> with_reducible rfl))
      refine tkH 8 hS ?_
      refine tkH 9 hS ?_
      refine tkH 10 hS ?_
      refine tkH 11 hS ?_ (hy := fun w hSw => by have u1b := (hSw.cell (p := ⟨gb, ob + k * 6 + 1, none⟩) KB.out.1).trans (KB.out.2 1 _ rfl); (go_simp <;> with_reducible rfl))
      refine tkH 12 hS ?_
      refine wpAnyH_ready (rs := [13]) (by kernel_rfl) (by simp) ?_
      refine (AllReadyH.cons (o := ?or_4) ?ir_4 (fun K hK => ?str_4) AllReadyH.nil)
      case ir_4 => simp only [layG]; rfl
      rw [if_pos (by rfl)]
      go_simp
      refine hK.out _ _ ?sr_4 (fun hS => ?_)
      case sr_4 => (exact (hdr.alloc hdr.size _).mono HBR.out)
      clear hK K
      (try simp only [Act.put, layS])
      refine wpAnyH_ready (rs := [14]) (by kernel_rfl) (by simp) ?_
      refine (AllReadyH.cons (o := ?or_5) ?ir_5 (fun K hK => ?str_5) AllReadyH.nil)
      case ir_5 => simp only [layG]; rfl
      rw [if_pos (by rfl)]
      go_simp
      refine hK.out _ _ ?sr_5 (fun hS => ?_)
      case sr_5 => (exact (hdr.alloc hdr.size _).mono HBR.out)
      clear hK K
      (try simp only [Act.put, layS])
      refine wpAnyH_done (by kernel_rfl) ?_ _
      refine NoPanic.normal ?_
      clear hS
      have HQ : Hid (Below wr.heap.size wr (wr.alloc (.cells #[.string (txt b1.name), .string (txt b1.key)] 39)).drew) := Lib.hid ((Below.refl _ _).alloc (Nat.le_refl _) _).drew
      have HQB : Hid (Blk (wr.alloc (.cells #[.string (txt b1.name), .string (txt b1.key)] 39)).drew wr.heap.size 39 #[.string (txt b1.name), .string (txt b1.key)]) := Lib.hid (show Blk (wr.alloc (.cells #[.string (txt b1.name), .string (txt b1.key)] 39)) wr.heap.size 39 #[.string (txt b1.name), .string (txt b1.key)] from Blk.new wr 39 _)
      clear hdr
      revert HQ HQB
      generalize (wr.alloc (.cells #[.string (txt b1.name), .string (txt b1.key)] 39)).drew = wq
      intro HQ HQB
      have HXQ := Lib.hid (HX4.out.below HQ.out HX4.out.lt)
      have q0 := (HXQ.out.cell 0).trans rfl
      have q1 := (HXQ.out.cell 1).trans rfl
      have q2 := (HXQ.out.cell 2).trans rfl
      have q3 := (HXQ.out.cell 3).trans rfl
      have q4 := (HXQ.out.cell 4).trans rfl
      have q5 := (HXQ.out.cell 5).trans rfl
      have s0 : wq.cell? ⟨wr.heap.size, 0, none⟩ = some (.string (txt b1.name)) := (HQB.out.cell 0).trans rfl
      have s1 : wq.cell? ⟨wr.heap.size, 1, none⟩ = some (.string (txt b1.key)) := (HQB.out.cell 1).trans rfl
      go_wp2_with fail
      refine (CF.out _ HQ.out).out.mono ?_
      rintro r wf ⟨rfl, hb⟩
      have HF := Lib.hid (HQ.out.trans (hb.mono HQ.out.size))
      have HQF := Lib.hid (HQB.out.below hb HQB.out.lt)
      clear hb q0 q1 q2 q3 q4 q5 s0 s1
      have s0 : wf.cell? ⟨wr.heap.size, 0, none⟩ = some (.string (txt b1.name)) := (HQF.out.cell 0).trans rfl
      have s1 : wf.cell? ⟨wr.heap.size, 1, none⟩ = some (.string (txt b1.key)) := (HQF.out.cell 1).trans rfl
      have l1 : z < 0 := z0
      have hs9 : Below wr.heap.size wr (wf.alloc (.cells #[.string (txt b1.name), .string (txt b1.key)] 39)) := HF.out.alloc HF.out.size _
      have HSW : Hid (WayV (wf.alloc (.cells #[.string (txt b1.name), .string (txt b1.key)] 39)).heap.size (wf.alloc (.cells #[.string (txt b1.name), .string (txt b1.key)] 39)) (.slice (some ⟨wf.heap.size, 0, none⟩) 1 1) [stp b1]) := Lib.hid (OwnS.one (w := wf) (stp b1) (base := 0) (Nat.zero_le _)).way
      have HS9 := Lib.hid hs9
      clear hs9
      go_wp2_with fail
      refine (CU.out _ _ HS9.out HSW.out).out.mono ?_
      rintro r wv ⟨rfl, hb⟩
      have HV := Lib.hid (HS9.out.trans (hb.mono HS9.out.size))
      clear hb
      go_wp2
      go_roundw
      case rel => exact ⟨n2 + 1, k + 1, by omega, by go_num, by go_num, HN2, Lib.hid (HX4.out.below HV.out HX4.out.lt), Lib.hid (HY4.out.below HV.out HY4.out.lt), Lib.hid (HL4.out.below HV.out), Lib.hid (HB4.out.trans (HV.out.mono HB4.out.size))⟩
      case measure => simp [intOf]; omega
    ·obtain rfl : k = g.len := by omega
     have ib2 : ¬ (g.len : Int) < (g.len : Int) := by omega
     have HN9 : Hid (n2 = L.length) := Lib.hid (by have h := HN.out; rw [Fr.drop_all] at h; have h2 := HP3.out; simp only [onlyG] at h; omega)
     clear hk2
     obtain rfl : n2 = L.length := HN9.out
     go_wp2
     go_loopw [13, 14] (fun vi _ wr => ∃ i : Nat, i ≤ L.length ∧ vi = .int .i64 (i : Int) ∧ Hid (EdsV (Bel wr) wr (.slice A3 L.length c3) L) ∧ Hid (Below W0.heap.size W0 wr)) (fun vi _ _ => L.length - (intOf vi).toNat)
     case atStart => exact ⟨0, Nat.zero_le _, rfl, HL4, HB4⟩
     case round =>
      clear HX4 HY4 HL4 HB4 HN9 HN y5 HBR hnn
      obtain ⟨i, hi, rfl, HL4, HB4⟩ := hrel
      have hlb : L.length ≤ 1000 := HLL.out
      have i1 : (0 : Int) ≤ (i : Int) := by omega
      by_cases hlt : i < L.length
      ·have i2 : (i : Int) < (L.length : Int) := by omega
       obtain ⟨e, he⟩ : ∃ e, L[i]? = some e := ⟨_, List.getElem?_eq_getElem hlt⟩
       have hem := List.mem_of_getElem? he
       obtain ⟨-, mw, y, hwy, hyy⟩ := HSH.out e hem
       rw [List.nil_append] at hwy
       obtain ⟨mm, hmm⟩ : ∃ mm, mm = mw.length := ⟨_, rfl⟩
       have hN : e.way.length = mm + 1 := by rw [hwy, hmm]; simp
       have hlast : e.way[mm]? = some (stp y.1) := by rw [hwy, hmm]; simp
       have hmb : mm ≤ 1000000 := by have h := (HFW.out.2 e hem).1; omega
       obtain ⟨g9, o9, Aw, cw, An, cn, Ao, co, rfl, -, lc3, hgS, hw, hn, ho, hcl⟩ := HL4.out.at he
       rw [hN] at hw
       obtain ⟨g2, o2, eA, -, lcw, hg2, k3, k4⟩ := WayV.at hw.v hlast
       subst eA
       have HG9 : Hid (g9 < wr.heap.size) := Lib.hid hgS
       have HG2 : Hid (g2 < wr.heap.size) := Lib.hid hg2
       have kk : wr.cell? ⟨g9, o9 + i * 14, none⟩ = some (.int .i64 e.kind) := hcl 0 _ rfl
       have kw : wr.cell? ⟨g9, o9 + i * 14 + 1, none⟩ = some (.slice (some ⟨g2, o2, none⟩) (mm + 1) cw) := by rw [← hN]; exact hcl 1 _ rfl
       have k3' : wr.cell? ⟨g2, o2 + mm * 2, none⟩ = some (.string (txt y.1.name)) := k3
       have k4' : wr.cell? ⟨g2, o2 + mm * 2 + 1, none⟩ = some (.string (txt y.1.key)) := k4
       have KW := Lib.hid kw
       have K3 := Lib.hid k3'
       have K4 := Lib.hid k4'
       have a2 : wr.cell? ⟨g9, o9 + i * 14 + 2, none⟩ = _ := hcl 2 _ rfl
       have a3 : wr.cell? ⟨g9, o9 + i * 14 + 3, none⟩ = _ := hcl 3 _ rfl
       have a4 : wr.cell? ⟨g9, o9 + i * 14 + 4, none⟩ = _ := hcl 4 _ rfl
       have a5 : wr.cell? ⟨g9, o9 + i * 14 + 5, none⟩ = _ := hcl 5 _ rfl
       have a6 : wr.cell? ⟨g9, o9 + i * 14 + 6, none⟩ = _ := hcl 6 _ rfl
       have a7 : wr.cell? ⟨g9, o9 + i * 14 + 7, none⟩ = _ := hcl 7 _ rfl
       have m1 : (0 : Int) ≤ (mm : Int) := by omega
       have m2 : (mm : Int) < (mm : Int) + 1 := by omega
       have m3 : mm < mm + 1 := by omega
       have m4 : ¬ (mm : Int) < 0 := by omega
       have HP9 : Hid (wr.heap.size < wr.heap.size + 1) := Lib.hid (by omega)
       have hcw : ∀ j u, (edC e.kind (.slice (some ⟨g2, o2, none⟩) e.way.length cw) e.node.1 (.slice An e.node.2.len cn) e.old.1 (.slice Ao e.old.2.len co))[j]? = some u → (wr.alloc (.cells #[.string (txt e.node.1.name), .string (txt e.node.1.key), .int .i64 e.node.1.kind, .int .u64 (e.node.1.num : Int), .string (txt e.node.1.text), .slice An e.node.2.len cn] 27)).cell? ⟨g9, o9 + i * 14 + j, none⟩ = some u := fun j u hu => (((Below.refl wr.heap.size wr).alloc (Nat.le_refl _) _).cell (p := ⟨g9, o9 + i * 14 + j, none⟩) hgS).trans (hcl j u hu)
       have kk' : (wr.alloc (.cells #[.string (txt e.node.1.name), .string (txt e.node.1.key), .int .i64 e.node.1.kind, .int .u64 (e.node.1.num : Int), .string (txt e.node.1.text), .slice An e.node.2.len cn] 27)).cell? ⟨g9, o9 + i * 14, none⟩ = some (.int .i64 e.kind) := hcw 0 _ rfl
       by_cases h2 : e.kind = 2
       ·have hk2 : (e.kind == 2) = true := by simp [h2]
        have hye : y = e.old := by rw [hyy, if_pos h2]
        subst hye
        have a8 : (wr.alloc (.cells #[.string (txt e.node.1.name), .string (txt e.node.1.key), .int .i64 e.node.1.kind, .int .u64 (e.node.1.num : Int), .string (txt e.node.1.text), .slice An e.node.2.len cn] 27)).cell? ⟨g9, o9 + i * 14 + 8, none⟩ = _ := hcw 8 _ rfl
        have a9 : (wr.alloc (.cells #[.string (txt e.node.1.name), .string (txt e.node.1.key), .int .i64 e.node.1.kind, .int .u64 (e.node.1.num : Int), .string (txt e.node.1.text), .slice An e.node.2.len cn] 27)).cell? ⟨g9, o9 + i * 14 + 9, none⟩ = _ := hcw 9 _ rfl
        have a10 : (wr.alloc (.cells #[.string (txt e.node.1.name), .string (txt e.node.1.key), .int .i64 e.node.1.kind, .int .u64 (e.node.1.num : Int), .string (txt e.node.1.text), .slice An e.node.2.len cn] 27)).cell? ⟨g9, o9 + i * 14 + 10, none⟩ = _ := hcw 10 _ rfl
        have a11 : (wr.alloc (.cells #[.string (txt e.node.1.name), .string (txt e.node.1.key), .int .i64 e.node.1.kind, .int .u64 (e.node.1.num : Int), .string (txt e.node.1.text), .slice An e.node.2.len cn] 27)).cell? ⟨g9, o9 + i * 14 + 11, none⟩ = _ := hcw 11 _ rfl
        have a12 : (wr.alloc (.cells #[.string (txt e.node.1.name), .string (txt e.node.1.key), .int .i64 e.node.1.kind, .int .u64 (e.node.1.num : Int), .string (txt e.node.1.text), .slice An e.node.2.len cn] 27)).cell? ⟨g9, o9 + i * 14 + 12, none⟩ = _ := hcw 12 _ rfl
        have a13 : (wr.alloc (.cells #[.string (txt e.node.1.name), .string (txt e.node.1.key), .int .i64 e.node.1.kind, .int .u64 (e.node.1.num : Int), .string (txt e.node.1.text), .slice An e.node.2.len cn] 27)).cell? ⟨g9, o9 + i * 14 + 13, none⟩ = _ := hcw 13 _ rfl
        clear hcl hcw he hw hn ho hem hwy hyy hmm hN hlast k3 k4 k3' k4' hgS hg2 h2
        go_wp2_with fail
        have hal : Below wr.heap.size wr (wr.alloc (.cells #[.string (txt e.old.1.name), .string (txt e.old.1.key), .int .i64 e.old.1.kind, .int .u64 (e.old.1.num : Int), .string (txt e.old.1.text), .slice Ao e.old.2.len co] 27)) := (Below.refl _ _).alloc (Nat.le_refl _) _
        have HAL := Lib.hid hal.drew
        have HXB := Lib.hid (Blk.new wr 27 #[.string (txt e.old.1.name), .string (txt e.old.1.key), .int .i64 e.old.1.kind, .int .u64 (e.old.1.num : Int), .string (txt e.old.1.text), .slice Ao e.old.2.len co])
        have KW9 : Hid (g9 < wr.heap.size + 1 ∧ (wr.alloc (.cells #[.string (txt e.old.1.name), .string (txt e.old.1.key), .int .i64 e.old.1.kind, .int .u64 (e.old.1.num : Int), .string (txt e.old.1.text), .slice Ao e.old.2.len co] 27)).cell? ⟨g9, o9 + i * 14 + 1, none⟩ = some (.slice (some ⟨g2, o2, none⟩) (mm + 1) cw)) := Lib.hid ⟨Nat.lt_succ_of_lt HG9.out, (hal.cell (p := ⟨g9, o9 + i * 14 + 1, none⟩) HG9.out).trans KW.out⟩
        have KS9 : Hid (g2 < wr.heap.size + 1 ∧ (wr.alloc (.cells #[.string (txt e.old.1.name), .string (txt e.old.1.key), .int .i64 e.old.1.kind, .int .u64 (e.old.1.num : Int), .string (txt e.old.1.text), .slice Ao e.old.2.len co] 27)).cell? ⟨g2, o2 + mm * 2, none⟩ = some (.string (txt e.old.1.name)) ∧ (wr.alloc (.cells #[.string (txt e.old.1.name), .string (txt e.old.1.key), .int .i64 e.old.1.kind, .int .u64 (e.old.1.num : Int), .string (txt e.old.1.text), .slice Ao e.old.2.len co] 27)).cell? ⟨g2, o2 + mm * 2 + 1, none⟩ = some (.string (txt e.old.1.key))) := Lib.hid ⟨Nat.lt_succ_of_lt HG2.out, (hal.cell (p := ⟨g2, o2 + mm * 2, none⟩) HG2.out).trans K3.out, (hal.cell (p := ⟨g2, o2 + mm * 2 + 1, none⟩) HG2.out).trans K4.out⟩
        have hS0 : Below (wr.heap.size + 1) (wr.alloc (.cells #[.string (txt e.old.1.name), .string (txt e.old.1.key), .int .i64 e.old.1.kind, .int .u64 (e.old.1.num : Int), .string (txt e.old.1.text), .slice Ao e.old.2.len co] 27)) (wr.alloc (.cells #[.string (txt e.old.1.name), .string (txt e.old.1.key), .int .i64 e.old.1.kind, .int .u64 (e.old.1.num : Int), .string (txt e.old.1.text), .slice Ao e.old.2.len co] 27)).drew := (Below.refl _ _).drew
        clear hal
        refine wp_region_noPanic ?_
        refine wp_region_held_drew (S := fun _ => True) (by kernel_rfl) trivial (fun hS => ?_)
        refine held_more (S' := fun w' => Below (wr.heap.size + 1) (wr.alloc (.cells #[.string (txt e.old.1.name), .string (txt e.old.1.key), .int .i64 e.old.1.kind, .int .u64 (e.old.1.num : Int), .string (txt e.old.1.text), .slice Ao e.old.2.len co] 27)) w') (fun _ _ => trivial) _ _ _ _ ?_
        replace hS := hS0
        refine tkH 0 hS ?_
        refine tkH 1 hS ?_ (hy := fun w hSw => by have b0 : w.cell? ⟨wr.heap.size, 0, none⟩ = _ := (hSw.cell (p := ⟨wr.heap.size, 0, none⟩) HP9.out).trans ((HXB.out.cell 0).trans rfl); (go_simp <;> with_reducible rfl))
        refine tkH 2 hS ?_
        refine tkH 3 hS ?_
        refine tkH 4 hS ?_
        refine tkH 5 hS ?_
        refine tkH 6 hS ?_ (hy := fun w hSw => by have bw : w.cell? ⟨g9, o9 + i * 14 + 1, none⟩ = _ := (hSw.cell (p := ⟨g9, o9 + i * 14 + 1, none⟩) KW9.out.1).trans KW9.out.2; (go_simp <;> with_reducible rfl))
        refine tkH 7 hS ?_
        refine tkH 8 hS ?_
        refine tkH 9 hS ?_
        refine tkH 10 hS ?_ (hy := fun w hSw => by have bn : w.cell? ⟨g2, o2 + mm * 2, none⟩ = _ := (hSw.cell (p := ⟨g2, o2 + mm * 2, none⟩) KS9.out.1).trans KS9.out.2.1; (go_simp <;> with_reducible rfl))
        refine tkH 11 hS ?_
        refine tkH 12 hS ?_
        refine tkH 13 hS ?_
        refine tkH 14 hS ?_ (hy := fun w hSw => by have b1_ : w.cell? ⟨wr.heap.size, 1, none⟩ = _ := (hSw.cell (p := ⟨wr.heap.size, 1, none⟩) HP9.out).trans ((HXB.out.cell 1).trans rfl); (go_simp <;> with_reducible rfl))
        refine tkH 15 hS ?_
        refine tkH 16 hS ?_
        refine tkH 17 hS ?_
        refine tkH 18 hS ?_
        refine tkH 19 hS ?_ (hy := fun w hSw => by have bw : w.cell? ⟨g9, o9 + i * 14 + 1, none⟩ = _ := (hSw.cell (p := ⟨g9, o9 + i * 14 + 1, none⟩) KW9.out.1).trans KW9.out.2; (go_simp <;> with_reducible rfl))
        refine tkH 20 hS ?_
        refine tkH 21 hS ?_
        refine tkH 22 hS ?_
        refine tkH 23 hS ?_ (hy := fun w hSw => by have bk : w.cell? ⟨g2, o2 + mm * 2 + 1, none⟩ = _ := (hSw.cell (p := ⟨g2, o2 + mm * 2 + 1, none⟩) KS9.out.1).trans KS9.out.2.2; (go_simp <;> with_reducible rfl))
        refine tkH 24 hS ?_
        refine tkH 25 hS ?_
        refine wpAnyH_done (by kernel_rfl) ?_ _
        refine NoPanic.normal ?_
        clear hS
        go_wp2
        go_roundw
        case rel => exact ⟨i + 1, by omega, by go_num, Lib.hid (HL4.out.below HAL.out), Lib.hid (HB4.out.trans (HAL.out.mono HB4.out.size))⟩
        case measure => simp [intOf]; omega
       ·have hk2 : (e.kind == 2) = false := by simp [h2]
        have hye : y = e.node := by rw [hyy, if_neg h2]
        subst hye
        clear hcl hcw he hw hn ho hem hwy hyy hmm hN hlast k3 k4 k3' k4' hgS hg2 h2
        go_wp2_with fail
        have hal : Below wr.heap.size wr (wr.alloc (.cells #[.string (txt e.node.1.name), .string (txt e.node.1.key), .int .i64 e.node.1.kind, .int .u64 (e.node.1.num : Int), .string (txt e.node.1.text), .slice An e.node.2.len cn] 27)) := (Below.refl _ _).alloc (Nat.le_refl _) _
        have HAL := Lib.hid hal.drew
        have HXB := Lib.hid (Blk.new wr 27 #[.string (txt e.node.1.name), .string (txt e.node.1.key), .int .i64 e.node.1.kind, .int .u64 (e.node.1.num : Int), .string (txt e.node.1.text), .slice An e.node.2.len cn])
        have KW9 : Hid (g9 < wr.heap.size + 1 ∧ (wr.alloc (.cells #[.string (txt e.node.1.name), .string (txt e.node.1.key), .int .i64 e.node.1.kind, .int .u64 (e.node.1.num : Int), .string (txt e.node.1.text), .slice An e.node.2.len cn] 27)).cell? ⟨g9, o9 + i * 14 + 1, none⟩ = some (.slice (some ⟨g2, o2, none⟩) (mm + 1) cw)) := Lib.hid ⟨Nat.lt_succ_of_lt HG9.out, (hal.cell (p := ⟨g9, o9 + i * 14 + 1, none⟩) HG9.out).trans KW.out⟩
        have KS9 : Hid (g2 < wr.heap.size + 1 ∧ (wr.alloc (.cells #[.string (txt e.node.1.name), .string (txt e.node.1.key), .int .i64 e.node.1.kind, .int .u64 (e.node.1.num : Int), .string (txt e.node.1.text), .slice An e.node.2.len cn] 27)).cell? ⟨g2, o2 + mm * 2, none⟩ = some (.string (txt e.node.1.name)) ∧ (wr.alloc (.cells #[.string (txt e.node.1.name), .string (txt e.node.1.key), .int .i64 e.node.1.kind, .int .u64 (e.node.1.num : Int), .string (txt e.node.1.text), .slice An e.node.2.len cn] 27)).cell? ⟨g2, o2 + mm * 2 + 1, none⟩ = some (.string (txt e.node.1.key))) := Lib.hid ⟨Nat.lt_succ_of_lt HG2.out, (hal.cell (p := ⟨g2, o2 + mm * 2, none⟩) HG2.out).trans K3.out, (hal.cell (p := ⟨g2, o2 + mm * 2 + 1, none⟩) HG2.out).trans K4.out⟩
        have hS0 : Below (wr.heap.size + 1) (wr.alloc (.cells #[.string (txt e.node.1.name), .string (txt e.node.1.key), .int .i64 e.node.1.kind, .int .u64 (e.node.1.num : Int), .string (txt e.node.1.text), .slice An e.node.2.len cn] 27)) (wr.alloc (.cells #[.string (txt e.node.1.name), .string (txt e.node.1.key), .int .i64 e.node.1.kind, .int .u64 (e.node.1.num : Int), .string (txt e.node.1.text), .slice An e.node.2.len cn] 27)).drew := (Below.refl _ _).drew
        clear hal
        refine wp_region_noPanic ?_
        refine wp_region_held_drew (S := fun _ => True) (by kernel_rfl) trivial (fun hS => ?_)
        refine held_more (S' := fun w' => Below (wr.heap.size + 1) (wr.alloc (.cells #[.string (txt e.node.1.name), .string (txt e.node.1.key), .int .i64 e.node.1.kind, .int .u64 (e.node.1.num : Int), .string (txt e.node.1.text), .slice An e.node.2.len cn] 27)) w') (fun _ _ => trivial) _ _ _ _ ?_
        replace hS := hS0
        refine tkH 0 hS ?_
        refine tkH 1 hS ?_ (hy := fun w hSw => by have b0 : w.cell? ⟨wr.heap.size, 0, none⟩ = _ := (hSw.cell (p := ⟨wr.heap.size, 0, none⟩) HP9.out).trans ((HXB.out.cell 0).trans rfl); (go_simp <;> with_reducible rfl))
        refine tkH 2 hS ?_
        refine tkH 3 hS ?_
        refine tkH 4 hS ?_
        refine tkH 5 hS ?_
        refine tkH 6 hS ?_ (hy := fun w hSw => by have bw : w.cell? ⟨g9, o9 + i * 14 + 1, none⟩ = _ := (hSw.cell (p := ⟨g9, o9 + i * 14 + 1, none⟩) KW9.out.1).trans KW9.out.2; (go_simp <;> with_reducible rfl))
        refine tkH 7 hS ?_
        refine tkH 8 hS ?_
        refine tkH 9 hS ?_
        refine tkH 10 hS ?_ (hy := fun w hSw => by have bn : w.cell? ⟨g2, o2 + mm * 2, none⟩ = _ := (hSw.cell (p := ⟨g2, o2 + mm * 2, none⟩) KS9.out.1).trans KS9.out.2.1; (go_simp <;> with_reducible rfl))
        refine tkH 11 hS ?_
        refine tkH 12 hS ?_
        refine tkH 13 hS ?_
        refine tkH 14 hS ?_ (hy := fun w hSw => by have b1_ : w.cell? ⟨wr.heap.size, 1, none⟩ = _ := (hSw.cell (p := ⟨wr.heap.size, 1, none⟩) HP9.out).trans ((HXB.out.cell 1).trans rfl); (go_simp <;> with_reducible rfl))
        refine tkH 15 hS ?_
        refine tkH 16 hS ?_
        refine tkH 17 hS ?_
        refine tkH 18 hS ?_
        refine tkH 19 hS ?_ (hy := fun w hSw => by have bw : w.cell? ⟨g9, o9 + i * 14 + 1, none⟩ = _ := (hSw.cell (p := ⟨g9, o9 + i * 14 + 1, none⟩) KW9.out.1).trans KW9.out.2; (go_simp <;> with_reducible rfl))
        refine tkH 20 hS ?_
        refine tkH 21 hS ?_
        refine tkH 22 hS ?_
        refine tkH 23 hS ?_ (hy := fun w hSw => by have bk : w.cell? ⟨g2, o2 + mm * 2 + 1, none⟩ = _ := (hSw.cell (p := ⟨g2, o2 + mm * 2 + 1, none⟩) KS9.out.1).trans KS9.out.2.2; (go_simp <;> with_reducible rfl))
        refine tkH 24 hS ?_
        refine tkH 25 hS ?_
        refine wpAnyH_done (by kernel_rfl) ?_ _
        refine NoPanic.normal ?_
        clear hS
        go_wp2
        go_roundw
        case rel => exact ⟨i + 1, by omega, by go_num, Lib.hid (HL4.out.below HAL.out), Lib.hid (HB4.out.trans (HAL.out.mono HB4.out.size))⟩
        case measure => simp [intOf]; omega
      ·obtain rfl : i = L.length := by omega
       have i2 : ¬ (L.length : Int) < (L.length : Int) := by omega
       clear hlt
       go_wp2
       go_ret
       exact ⟨by simp, HB4.out⟩
theorem diffParts_walk (a b : NdD) (f g : NdF) (A B : Option Addr) (c d : Nat) (W0 : World) (hx : LieN W0 (ndC a (.slice A f.len c)) (a, f)) (hy : LieN W0 (ndC b (.slice B g.len d)) (b, g)) (hf : f.size ≤ 1000000) (hg : g.size ≤ 1000000) (C : DifC W0) (HA : Awake16 W0) : Calls Try.prog 6 #[.agg #[.string (txt a.name), .string (txt a.key), .int .i64 a.kind, .int .u64 (a.num : Int), .string (txt a.text), .slice A f.len c], .agg #[.string (txt b.name), .string (txt b.key), .int .i64 b.kind, .int .u64 (b.num : Int), .string (txt b.text), .slice B g.len d]] W0 (Ans9 (.bool true) W0) := by
 cases hs : smallX a b f g with
 | true => exact diffParts_yes a b f g A B c d W0 hx hy hf hg C HA hs
 | false => exact diffParts_not a b f g A B c d W0 hx hy hf hg C HA hs
end Go.Proofs.Ythdhchhpjoghlaa
