/- DifRefC -/
import Derived.Test.YtleidkpdpabkpaaGreatDoorBM18
set_option linter.unusedSimpArgs false
set_option linter.unusedVariables false
set_option maxRecDepth 100000
set_option maxHeartbeats 8000000
namespace Go.Proofs.YtleidkpdpabkpaaGreatDoor
open Go.RowKit
section
attribute [local go_sem] Oper.semAt_some
def EdP (S : Nat → Prop) (L : List EdD) (w : World) (r : Ending) (w' : World) : Prop := ∃ v, r = .returned v ∧ EdsV (fun g => S g ∨ (w.heap.size ≤ g ∧ g < w'.heap.size)) w' v L ∧ Below w.heap.size w w'
theorem ed_len (f g : NdF) (w : List Stp) : (edF f g w).length ≤ f.size + g.size := by
 refine ed_ind (P := fun f g w => (edF f g w).length ≤ f.size + g.size) (fun w => by rw [edF_nil]; simp) (fun a k r w ih => ?_) (fun b q s w ih => ?_) (fun a k r b q s w h ih => ?_) (fun a k r b q s w h1 h2 ih => ?_) (fun a k r b q s w h1 h2 _ ihk ih => ?_) f g w
 ·rw [edF_del, List.length_cons]; simp only [Fr.size] at ih ⊢; omega
 ·rw [edF_new, List.length_cons]; simp only [Fr.size] at ih ⊢; omega
 ·rw [edF_lt h, List.length_cons]; simp only [Fr.size] at ih ⊢; omega
 ·rw [edF_gt h1 h2, List.length_cons]; simp only [Fr.size] at ih ⊢; omega
 ·rw [edF_eq h1 h2, List.length_append]
  have hk : (edK (a, k) (b, q) (w ++ [stp a])).length ≤ k.size + q.size + 2 := by
   unfold edK
   split
   ·simp
   ·split
    ·simp
    ·split
     ·simp only; omega
     ·simp
  simp only [Fr.size] at ih ⊢
  omega
theorem EdsV.lit {S : Nat → Prop} {w : World} {g n : Nat} {xs : List Value} {l : List EdD} (hb : Blk w g 55 xs.toArray) (hS : S g) (hr : rowE S w xs l) (hn : n = l.length) : EdsV S w (.slice (some ⟨g, 0, none⟩) n n) l :=
 ⟨_, n, by rw [hn], by omega, fun _ => ⟨g, 0, xs, rfl, hS, hr, fun j u hj => by rw [Nat.zero_add, hb.cell]; simpa using hj⟩⟩
theorem rkid16_same (a b : NdD) (k q : NdF) (way : List Stp) (A B Aw : Option Addr) (c d cw : Nat) (w : World) (S : Nat → Prop) (hS : ∀ g, S g → g < w.heap.size) (hx : RowS S w (.slice A k.len c) k) (hy : RowS S w (.slice B q.len d) q) (hw : WayS S w (.slice Aw way.length cw) way) (hf : k.size ≤ 1000000) (hg : q.size ≤ 1000000) (he : (a, k) = (b, q)) : Calls Tryz.prog 71 #[.agg (cN a (.slice A k.len c)), .agg (cN b (.slice B q.len d)), .slice Aw way.length cw] w (EdP S (edK (a, k) (b, q) way) w) := by
 have hx1 : Below w.heap.size w ((w.alloc (.cells (cN a (.slice A k.len c)) 42)).alloc (.cells (cN b (.slice B q.len d)) 42)) := bAl.alloc (by simp) _
 have hk1 : Blk ((w.alloc (.cells (cN a (.slice A k.len c)) 42)).alloc (.cells (cN b (.slice B q.len d)) 42)) w.heap.size 42 (cN a (.slice A k.len c)) := (Blk.new w 42 _).alloc _
 have hk2 : Blk ((w.alloc (.cells (cN a (.slice A k.len c)) 42)).alloc (.cells (cN b (.slice B q.len d)) 42)) (w.heap.size + 1) 42 (cN b (.slice B q.len d)) := by have h := Blk.new (w.alloc (.cells (cN a (.slice A k.len c)) 42)) 42 (cN b (.slice B q.len d)); rwa [show ((w.alloc (.cells (cN a (.slice A k.len c)) 42))).heap.size = w.heap.size + 1 by simp] at h
 have hkp : ∀ W, Below w.heap.size w W → ∀ g, S g → W.heap[g]? = w.heap[g]? := fun W h g hg => h.block g (hS g hg)
 have HKP := hHd hkp
 have HSS := hHd hS
 have hsm := rsamet_any (a, k) (b, q) _ _ ((w.alloc (.cells (cN a (.slice A k.len c)) 42)).alloc (.cells (cN b (.slice B q.len d)) 42)) (LieB.make (FrV.mono stay_nd (RowS.keep hx (hkp ((w.alloc (.cells (cN a (.slice A k.len c)) 42)).alloc (.cells (cN b (.slice B q.len d)) 42)) hx1) (fun _ h => h)) (fun g hg => Nat.lt_of_lt_of_le (hS g hg) hx1.size) (fun _ h => h))) (LieB.make (FrV.mono stay_nd (RowS.keep hy (hkp ((w.alloc (.cells (cN a (.slice A k.len c)) 42)).alloc (.cells (cN b (.slice B q.len d)) 42)) hx1) (fun _ h => h)) (fun g hg => Nat.lt_of_lt_of_le (hS g hg) hx1.size) (fun _ h => h))) hf hg
 obtain ⟨p0, p1, p2, p3, p4, p5⟩ := cl6 hk1
 obtain ⟨y0, y1, y2, y3, y4, y5⟩ := cl6 hk2
 have HK1 := hHd hk1
 have HK2 := hHd hk2
 have HX1 := hHd hx1
 have HRX := hHd hx
 have HRY := hHd hy
 have HRW := hHd hw
 rw [decide_eq_true he] at hsm
 have HSM := hHd hsm
 have HV : Hid (edK (a, k) (b, q) way = []) := hHd (by unfold edK; rw [if_pos he])
 clear hsm hkp hS hx hy hw hk1 hk2 hx1 he
 go_enter Tryz.func71, Tryz.ntmps71
 go_wp2_with fail
 refine HSM.out.mono ?_
 rintro r w3 ⟨rfl, hb⟩
 have HB3 := hHd (HX1.out.trans (hb.mono HX1.out.size))
 have HK13 := hHd (HK1.out.below hb HK1.out.lt)
 have HK23 := hHd (HK2.out.below hb HK2.out.lt)
 clear hb p0 p1 p2 p3 p4 p5 y0 y1 y2 y3 y4 y5
 go_wp2
 go_ret
 rw [HV.out]
 exact ⟨_, rfl, EdsV.nil _ _, HB3.out⟩
theorem rkid16_leaf (a b : NdD) (k q : NdF) (way : List Stp) (A B Aw : Option Addr) (c d cw : Nat) (w : World) (S : Nat → Prop) (hS : ∀ g, S g → g < w.heap.size) (hx : RowS S w (.slice A k.len c) k) (hy : RowS S w (.slice B q.len d) q) (hw : WayS S w (.slice Aw way.length cw) way) (hf : k.size ≤ 1000000) (hg : q.size ≤ 1000000) (he : ¬ (a, k) = (b, q)) (h1 : a.kind ≠ 0) (h2 : b.kind ≠ 0) : Calls Tryz.prog 71 #[.agg (cN a (.slice A k.len c)), .agg (cN b (.slice B q.len d)), .slice Aw way.length cw] w (EdP S (edK (a, k) (b, q) way) w) := by
 have hx1 : Below w.heap.size w ((w.alloc (.cells (cN a (.slice A k.len c)) 42)).alloc (.cells (cN b (.slice B q.len d)) 42)) := bAl.alloc (by simp) _
 have hk1 : Blk ((w.alloc (.cells (cN a (.slice A k.len c)) 42)).alloc (.cells (cN b (.slice B q.len d)) 42)) w.heap.size 42 (cN a (.slice A k.len c)) := (Blk.new w 42 _).alloc _
 have hk2 : Blk ((w.alloc (.cells (cN a (.slice A k.len c)) 42)).alloc (.cells (cN b (.slice B q.len d)) 42)) (w.heap.size + 1) 42 (cN b (.slice B q.len d)) := by have h := Blk.new (w.alloc (.cells (cN a (.slice A k.len c)) 42)) 42 (cN b (.slice B q.len d)); rwa [show ((w.alloc (.cells (cN a (.slice A k.len c)) 42))).heap.size = w.heap.size + 1 by simp] at h
 have hkp : ∀ W, Below w.heap.size w W → ∀ g, S g → W.heap[g]? = w.heap[g]? := fun W h g hg => h.block g (hS g hg)
 have HKP := hHd hkp
 have HSS := hHd hS
 have hsm := rsamet_any (a, k) (b, q) _ _ ((w.alloc (.cells (cN a (.slice A k.len c)) 42)).alloc (.cells (cN b (.slice B q.len d)) 42)) (LieB.make (FrV.mono stay_nd (RowS.keep hx (hkp ((w.alloc (.cells (cN a (.slice A k.len c)) 42)).alloc (.cells (cN b (.slice B q.len d)) 42)) hx1) (fun _ h => h)) (fun g hg => Nat.lt_of_lt_of_le (hS g hg) hx1.size) (fun _ h => h))) (LieB.make (FrV.mono stay_nd (RowS.keep hy (hkp ((w.alloc (.cells (cN a (.slice A k.len c)) 42)).alloc (.cells (cN b (.slice B q.len d)) 42)) hx1) (fun _ h => h)) (fun g hg => Nat.lt_of_lt_of_le (hS g hg) hx1.size) (fun _ h => h))) hf hg
 obtain ⟨p0, p1, p2, p3, p4, p5⟩ := cl6 hk1
 obtain ⟨y0, y1, y2, y3, y4, y5⟩ := cl6 hk2
 have HK1 := hHd hk1
 have HK2 := hHd hk2
 have HX1 := hHd hx1
 have HRX := hHd hx
 have HRY := hHd hy
 have HRW := hHd hw
 rw [decide_eq_false he] at hsm
 have HSM := hHd hsm
 have HV : Hid (edK (a, k) (b, q) way = [⟨3, way, (b, q), (a, k)⟩]) := hHd (by unfold edK; rw [if_neg he, if_pos ⟨h1, h2⟩])
 have m1 : (a.kind != 0) = true := by simp [h1]
 have m2 : (b.kind != 0) = true := by simp [h2]
 clear hsm hkp hS hx hy hw hk1 hk2 hx1 he h1 h2
 go_enter Tryz.func71, Tryz.ntmps71
 go_wp2_with fail
 refine HSM.out.mono ?_
 rintro r w3 ⟨rfl, hb⟩
 have HB3 := hHd (HX1.out.trans (hb.mono HX1.out.size))
 have HK13 := hHd (HK1.out.below hb HK1.out.lt)
 have HK23 := hHd (HK2.out.below hb HK2.out.lt)
 clear hb p0 p1 p2 p3 p4 p5 y0 y1 y2 y3 y4 y5
 obtain ⟨p0, p1, p2, p3, p4, p5⟩ := cl6 HK13.out
 obtain ⟨y0, y1, y2, y3, y4, y5⟩ := cl6 HK23.out
 go_wp2
 go_ret
 rw [HV.out]
 have hal : Below w.heap.size w (w3.alloc (.cells ([.int .i64 3, .slice Aw way.length cw, .string (txt b.name), .string (txt b.key), .int .i64 b.kind, .int .u64 (b.num : Int), .string (txt b.text), .slice B q.len d, .string (txt a.name), .string (txt a.key), .int .i64 a.kind, .int .u64 (a.num : Int), .string (txt a.text), .slice A k.len c]).toArray 55)) := HB3.out.alloc HB3.out.size _
 refine ⟨_, rfl, EdsV.lit (xs := [.int .i64 3, .slice Aw way.length cw, .string (txt b.name), .string (txt b.key), .int .i64 b.kind, .int .u64 (b.num : Int), .string (txt b.text), .slice B q.len d, .string (txt a.name), .string (txt a.key), .int .i64 a.kind, .int .u64 (a.num : Int), .string (txt a.text), .slice A k.len c]) (Blk.new w3 55 _) (.inr ⟨HB3.out.size, by simp⟩) (rowE.one_ ⟨_, _, _, rfl, ?_, ?_, ?_⟩) rfl, hal⟩
 ·exact HRW.out.keep (HKP.out _ hal) (fun _ h => .inl h)
 ·exact RowS.keep HRY.out (HKP.out _ hal) (fun _ h => .inl h)
 ·exact RowS.keep HRX.out (HKP.out _ hal) (fun _ h => .inl h)
theorem rkid16_in (a b : NdD) (k q : NdF) (way : List Stp) (A B Aw : Option Addr) (c d cw : Nat) (w : World) (S : Nat → Prop) (hS : ∀ g, S g → g < w.heap.size) (hx : RowS S w (.slice A k.len c) k) (hy : RowS S w (.slice B q.len d) q) (hw : WayS S w (.slice Aw way.length cw) way) (hf : k.size ≤ 1000000) (hg : q.size ≤ 1000000) (he : ¬ (a, k) = (b, q)) (h1 : a.kind = 0) (h2 : b.kind = 0) (hrec : ∀ W, Below w.heap.size w W → Calls Tryz.prog 38 #[.agg (cN a (.slice A k.len c)), .agg (cN b (.slice B q.len d)), .slice Aw way.length cw] W (EdP S (edF k q way) W)) : Calls Tryz.prog 71 #[.agg (cN a (.slice A k.len c)), .agg (cN b (.slice B q.len d)), .slice Aw way.length cw] w (EdP S (edK (a, k) (b, q) way) w) := by
 have hx1 : Below w.heap.size w ((w.alloc (.cells (cN a (.slice A k.len c)) 42)).alloc (.cells (cN b (.slice B q.len d)) 42)) := bAl.alloc (by simp) _
 have hk1 : Blk ((w.alloc (.cells (cN a (.slice A k.len c)) 42)).alloc (.cells (cN b (.slice B q.len d)) 42)) w.heap.size 42 (cN a (.slice A k.len c)) := (Blk.new w 42 _).alloc _
 have hk2 : Blk ((w.alloc (.cells (cN a (.slice A k.len c)) 42)).alloc (.cells (cN b (.slice B q.len d)) 42)) (w.heap.size + 1) 42 (cN b (.slice B q.len d)) := by have h := Blk.new (w.alloc (.cells (cN a (.slice A k.len c)) 42)) 42 (cN b (.slice B q.len d)); rwa [show ((w.alloc (.cells (cN a (.slice A k.len c)) 42))).heap.size = w.heap.size + 1 by simp] at h
 have hkp : ∀ W, Below w.heap.size w W → ∀ g, S g → W.heap[g]? = w.heap[g]? := fun W h g hg => h.block g (hS g hg)
 have HKP := hHd hkp
 have HSS := hHd hS
 have hsm := rsamet_any (a, k) (b, q) _ _ ((w.alloc (.cells (cN a (.slice A k.len c)) 42)).alloc (.cells (cN b (.slice B q.len d)) 42)) (LieB.make (FrV.mono stay_nd (RowS.keep hx (hkp ((w.alloc (.cells (cN a (.slice A k.len c)) 42)).alloc (.cells (cN b (.slice B q.len d)) 42)) hx1) (fun _ h => h)) (fun g hg => Nat.lt_of_lt_of_le (hS g hg) hx1.size) (fun _ h => h))) (LieB.make (FrV.mono stay_nd (RowS.keep hy (hkp ((w.alloc (.cells (cN a (.slice A k.len c)) 42)).alloc (.cells (cN b (.slice B q.len d)) 42)) hx1) (fun _ h => h)) (fun g hg => Nat.lt_of_lt_of_le (hS g hg) hx1.size) (fun _ h => h))) hf hg
 obtain ⟨p0, p1, p2, p3, p4, p5⟩ := cl6 hk1
 obtain ⟨y0, y1, y2, y3, y4, y5⟩ := cl6 hk2
 have HK1 := hHd hk1
 have HK2 := hHd hk2
 have HX1 := hHd hx1
 have HRX := hHd hx
 have HRY := hHd hy
 have HRW := hHd hw
 rw [decide_eq_false he] at hsm
 have HSM := hHd hsm
 have HRE := hHd hrec
 have HV : Hid (edK (a, k) (b, q) way = edF k q way) := hHd (by unfold edK; rw [if_neg he, if_neg (fun h => h.1 h1), if_pos ⟨h1, h2⟩])
 have m1 : (a.kind != 0) = false := by simp [h1]
 have m2 : (b.kind != 0) = false := by simp [h2]
 clear hsm hkp hS hx hy hw hk1 hk2 hx1 he h1 h2 hrec
 go_enter Tryz.func71, Tryz.ntmps71
 go_wp2_with fail
 refine HSM.out.mono ?_
 rintro r w3 ⟨rfl, hb⟩
 have HB3 := hHd (HX1.out.trans (hb.mono HX1.out.size))
 have HK13 := hHd (HK1.out.below hb HK1.out.lt)
 have HK23 := hHd (HK2.out.below hb HK2.out.lt)
 clear hb p0 p1 p2 p3 p4 p5 y0 y1 y2 y3 y4 y5
 obtain ⟨p0, p1, p2, p3, p4, p5⟩ := cl6 HK13.out
 obtain ⟨y0, y1, y2, y3, y4, y5⟩ := cl6 HK23.out
 go_wp2_with fail
 refine (HRE.out w3 HB3.out).mono ?_
 rintro r w4 ⟨v4, rfl, hv4, hb4⟩
 have HV4 := hHd hv4
 have HB4 := hHd (HB3.out.trans (hb4.mono HB3.out.size))
 have HS3 := hHd HB3.out.size
 clear hv4 hb4
 go_wp2
 go_ret
 rw [HV.out]
 exact ⟨_, rfl, HV4.out.keep (fun _ _ => rfl) (fun g hg => hg.elim .inl (fun h => .inr ⟨Nat.le_trans HS3.out h.1, h.2⟩)), HB4.out⟩
theorem rkid16_two (a b : NdD) (k q : NdF) (way : List Stp) (A B Aw : Option Addr) (c d cw : Nat) (w : World) (S : Nat → Prop) (hS : ∀ g, S g → g < w.heap.size) (hx : RowS S w (.slice A k.len c) k) (hy : RowS S w (.slice B q.len d) q) (hw : WayS S w (.slice Aw way.length cw) way) (hf : k.size ≤ 1000000) (hg : q.size ≤ 1000000) (he : ¬ (a, k) = (b, q)) (hk0 : (a.kind ≠ 0 ∧ b.kind = 0) ∨ (a.kind = 0 ∧ b.kind ≠ 0)) : Calls Tryz.prog 71 #[.agg (cN a (.slice A k.len c)), .agg (cN b (.slice B q.len d)), .slice Aw way.length cw] w (EdP S (edK (a, k) (b, q) way) w) := by
 have hx1 : Below w.heap.size w ((w.alloc (.cells (cN a (.slice A k.len c)) 42)).alloc (.cells (cN b (.slice B q.len d)) 42)) := bAl.alloc (by simp) _
 have hk1 : Blk ((w.alloc (.cells (cN a (.slice A k.len c)) 42)).alloc (.cells (cN b (.slice B q.len d)) 42)) w.heap.size 42 (cN a (.slice A k.len c)) := (Blk.new w 42 _).alloc _
 have hk2 : Blk ((w.alloc (.cells (cN a (.slice A k.len c)) 42)).alloc (.cells (cN b (.slice B q.len d)) 42)) (w.heap.size + 1) 42 (cN b (.slice B q.len d)) := by have h := Blk.new (w.alloc (.cells (cN a (.slice A k.len c)) 42)) 42 (cN b (.slice B q.len d)); rwa [show ((w.alloc (.cells (cN a (.slice A k.len c)) 42))).heap.size = w.heap.size + 1 by simp] at h
 have hkp : ∀ W, Below w.heap.size w W → ∀ g, S g → W.heap[g]? = w.heap[g]? := fun W h g hg => h.block g (hS g hg)
 have HKP := hHd hkp
 have HSS := hHd hS
 have hsm := rsamet_any (a, k) (b, q) _ _ ((w.alloc (.cells (cN a (.slice A k.len c)) 42)).alloc (.cells (cN b (.slice B q.len d)) 42)) (LieB.make (FrV.mono stay_nd (RowS.keep hx (hkp ((w.alloc (.cells (cN a (.slice A k.len c)) 42)).alloc (.cells (cN b (.slice B q.len d)) 42)) hx1) (fun _ h => h)) (fun g hg => Nat.lt_of_lt_of_le (hS g hg) hx1.size) (fun _ h => h))) (LieB.make (FrV.mono stay_nd (RowS.keep hy (hkp ((w.alloc (.cells (cN a (.slice A k.len c)) 42)).alloc (.cells (cN b (.slice B q.len d)) 42)) hx1) (fun _ h => h)) (fun g hg => Nat.lt_of_lt_of_le (hS g hg) hx1.size) (fun _ h => h))) hf hg
 obtain ⟨p0, p1, p2, p3, p4, p5⟩ := cl6 hk1
 obtain ⟨y0, y1, y2, y3, y4, y5⟩ := cl6 hk2
 have HK1 := hHd hk1
 have HK2 := hHd hk2
 have HX1 := hHd hx1
 have HRX := hHd hx
 have HRY := hHd hy
 have HRW := hHd hw
 rw [decide_eq_false he] at hsm
 have HSM := hHd hsm
 have HV : Hid (edK (a, k) (b, q) way = [delE way (a, k), newE way (b, q)]) := hHd (by unfold edK; rw [if_neg he, if_neg (by rintro ⟨h1, h2⟩; simp only at h1 h2; omega), if_neg (by rintro ⟨h1, h2⟩; simp only at h1 h2; omega)])
 have m0 : ((a.kind != 0) = true ∧ (b.kind != 0) = false) ∨ ((a.kind != 0) = false ∧ (b.kind != 0) = true) := by
  rcases hk0 with ⟨h1, h2⟩ | ⟨h1, h2⟩
  ·exact .inl ⟨by simp [h1], by simp [h2]⟩
  ·exact .inr ⟨by simp [h1], by simp [h2]⟩
 clear hsm hkp hS hx hy hw hk1 hk2 hx1 he hk0
 go_enter Tryz.func71, Tryz.ntmps71
 go_wp2_with fail
 refine HSM.out.mono ?_
 rintro r w3 ⟨rfl, hb⟩
 have HB3 := hHd (HX1.out.trans (hb.mono HX1.out.size))
 have HK13 := hHd (HK1.out.below hb HK1.out.lt)
 have HK23 := hHd (HK2.out.below hb HK2.out.lt)
 clear hb p0 p1 p2 p3 p4 p5 y0 y1 y2 y3 y4 y5
 obtain ⟨p0, p1, p2, p3, p4, p5⟩ := cl6 HK13.out
 obtain ⟨y0, y1, y2, y3, y4, y5⟩ := cl6 HK23.out
 have hal : Below w.heap.size w (w3.alloc (.cells ([.int .i64 2, .slice Aw way.length cw, .string ⟨#[]⟩, .string ⟨#[]⟩, .int .i64 0, .int .u64 0, .string ⟨#[]⟩, .slice none 0 0, .string (txt a.name), .string (txt a.key), .int .i64 a.kind, .int .u64 (a.num : Int), .string (txt a.text), .slice A k.len c] ++ [.int .i64 1, .slice Aw way.length cw, .string (txt b.name), .string (txt b.key), .int .i64 b.kind, .int .u64 (b.num : Int), .string (txt b.text), .slice B q.len d, .string ⟨#[]⟩, .string ⟨#[]⟩, .int .i64 0, .int .u64 0, .string ⟨#[]⟩, .slice none 0 0] : List Value).toArray 55)) := HB3.out.alloc HB3.out.size _
 have HE : Hid (EdP S [delE way (a, k), newE way (b, q)] w (.returned (.slice (some ⟨w3.heap.size, 0, none⟩) 2 2)) (w3.alloc (.cells ([.int .i64 2, .slice Aw way.length cw, .string ⟨#[]⟩, .string ⟨#[]⟩, .int .i64 0, .int .u64 0, .string ⟨#[]⟩, .slice none 0 0, .string (txt a.name), .string (txt a.key), .int .i64 a.kind, .int .u64 (a.num : Int), .string (txt a.text), .slice A k.len c] ++ [.int .i64 1, .slice Aw way.length cw, .string (txt b.name), .string (txt b.key), .int .i64 b.kind, .int .u64 (b.num : Int), .string (txt b.text), .slice B q.len d, .string ⟨#[]⟩, .string ⟨#[]⟩, .int .i64 0, .int .u64 0, .string ⟨#[]⟩, .slice none 0 0] : List Value).toArray 55))) := hHd (by
  have E1 : EdS (fun g => S g ∨ (w.heap.size ≤ g ∧ g < (w3.alloc (.cells ([.int .i64 2, .slice Aw way.length cw, .string ⟨#[]⟩, .string ⟨#[]⟩, .int .i64 0, .int .u64 0, .string ⟨#[]⟩, .slice none 0 0, .string (txt a.name), .string (txt a.key), .int .i64 a.kind, .int .u64 (a.num : Int), .string (txt a.text), .slice A k.len c] ++ [.int .i64 1, .slice Aw way.length cw, .string (txt b.name), .string (txt b.key), .int .i64 b.kind, .int .u64 (b.num : Int), .string (txt b.text), .slice B q.len d, .string ⟨#[]⟩, .string ⟨#[]⟩, .int .i64 0, .int .u64 0, .string ⟨#[]⟩, .slice none 0 0] : List Value).toArray 55)).heap.size)) (w3.alloc (.cells ([.int .i64 2, .slice Aw way.length cw, .string ⟨#[]⟩, .string ⟨#[]⟩, .int .i64 0, .int .u64 0, .string ⟨#[]⟩, .slice none 0 0, .string (txt a.name), .string (txt a.key), .int .i64 a.kind, .int .u64 (a.num : Int), .string (txt a.text), .slice A k.len c] ++ [.int .i64 1, .slice Aw way.length cw, .string (txt b.name), .string (txt b.key), .int .i64 b.kind, .int .u64 (b.num : Int), .string (txt b.text), .slice B q.len d, .string ⟨#[]⟩, .string ⟨#[]⟩, .int .i64 0, .int .u64 0, .string ⟨#[]⟩, .slice none 0 0] : List Value).toArray 55)) ([.int .i64 2, .slice Aw way.length cw, .string ⟨#[]⟩, .string ⟨#[]⟩, .int .i64 0, .int .u64 0, .string ⟨#[]⟩, .slice none 0 0, .string (txt a.name), .string (txt a.key), .int .i64 a.kind, .int .u64 (a.num : Int), .string (txt a.text), .slice A k.len c]) (delE way (a, k)) := ⟨_, _, _, rfl, HRW.out.keep (HKP.out _ hal) (fun _ h => .inl h), FrV.empty _ _ _, RowS.keep HRX.out (HKP.out _ hal) (fun _ h => .inl h)⟩
  have E2 : EdS (fun g => S g ∨ (w.heap.size ≤ g ∧ g < (w3.alloc (.cells ([.int .i64 2, .slice Aw way.length cw, .string ⟨#[]⟩, .string ⟨#[]⟩, .int .i64 0, .int .u64 0, .string ⟨#[]⟩, .slice none 0 0, .string (txt a.name), .string (txt a.key), .int .i64 a.kind, .int .u64 (a.num : Int), .string (txt a.text), .slice A k.len c] ++ [.int .i64 1, .slice Aw way.length cw, .string (txt b.name), .string (txt b.key), .int .i64 b.kind, .int .u64 (b.num : Int), .string (txt b.text), .slice B q.len d, .string ⟨#[]⟩, .string ⟨#[]⟩, .int .i64 0, .int .u64 0, .string ⟨#[]⟩, .slice none 0 0] : List Value).toArray 55)).heap.size)) (w3.alloc (.cells ([.int .i64 2, .slice Aw way.length cw, .string ⟨#[]⟩, .string ⟨#[]⟩, .int .i64 0, .int .u64 0, .string ⟨#[]⟩, .slice none 0 0, .string (txt a.name), .string (txt a.key), .int .i64 a.kind, .int .u64 (a.num : Int), .string (txt a.text), .slice A k.len c] ++ [.int .i64 1, .slice Aw way.length cw, .string (txt b.name), .string (txt b.key), .int .i64 b.kind, .int .u64 (b.num : Int), .string (txt b.text), .slice B q.len d, .string ⟨#[]⟩, .string ⟨#[]⟩, .int .i64 0, .int .u64 0, .string ⟨#[]⟩, .slice none 0 0] : List Value).toArray 55)) ([.int .i64 1, .slice Aw way.length cw, .string (txt b.name), .string (txt b.key), .int .i64 b.kind, .int .u64 (b.num : Int), .string (txt b.text), .slice B q.len d, .string ⟨#[]⟩, .string ⟨#[]⟩, .int .i64 0, .int .u64 0, .string ⟨#[]⟩, .slice none 0 0]) (newE way (b, q)) := ⟨_, _, _, rfl, HRW.out.keep (HKP.out _ hal) (fun _ h => .inl h), RowS.keep HRY.out (HKP.out _ hal) (fun _ h => .inl h), FrV.empty _ _ _⟩
  exact ⟨_, rfl, EdsV.lit (xs := [.int .i64 2, .slice Aw way.length cw, .string ⟨#[]⟩, .string ⟨#[]⟩, .int .i64 0, .int .u64 0, .string ⟨#[]⟩, .slice none 0 0, .string (txt a.name), .string (txt a.key), .int .i64 a.kind, .int .u64 (a.num : Int), .string (txt a.text), .slice A k.len c] ++ [.int .i64 1, .slice Aw way.length cw, .string (txt b.name), .string (txt b.key), .int .i64 b.kind, .int .u64 (b.num : Int), .string (txt b.text), .slice B q.len d, .string ⟨#[]⟩, .string ⟨#[]⟩, .int .i64 0, .int .u64 0, .string ⟨#[]⟩, .slice none 0 0]) (Blk.new w3 55 _) (.inr ⟨HB3.out.size, by simp⟩) (rowE.app (rowE.one_ E2) (rowE.one_ E1)) rfl, hal⟩)
 clear hal
 rcases m0 with ⟨m1, m2⟩ | ⟨m1, m2⟩
 all_goals
  go_wp2
  go_ret
  rw [HV.out]
  exact HE.out
theorem rkid16_any (a b : NdD) (k q : NdF) (way : List Stp) (A B Aw : Option Addr) (c d cw : Nat) (w : World) (S : Nat → Prop) (hS : ∀ g, S g → g < w.heap.size) (hx : RowS S w (.slice A k.len c) k) (hy : RowS S w (.slice B q.len d) q) (hw : WayS S w (.slice Aw way.length cw) way) (hf : k.size ≤ 1000000) (hg : q.size ≤ 1000000) (hrec : ∀ W, Below w.heap.size w W → Calls Tryz.prog 38 #[.agg (cN a (.slice A k.len c)), .agg (cN b (.slice B q.len d)), .slice Aw way.length cw] W (EdP S (edF k q way) W)) : Calls Tryz.prog 71 #[.agg (cN a (.slice A k.len c)), .agg (cN b (.slice B q.len d)), .slice Aw way.length cw] w (EdP S (edK (a, k) (b, q) way) w) := by
 by_cases he : (a, k) = (b, q)
 ·exact rkid16_same a b k q way A B Aw c d cw w S hS hx hy hw hf hg he
 by_cases h1 : a.kind = 0
 ·by_cases h2 : b.kind = 0
  ·exact rkid16_in a b k q way A B Aw c d cw w S hS hx hy hw hf hg he h1 h2 hrec
  ·exact rkid16_two a b k q way A B Aw c d cw w S hS hx hy hw hf hg he (.inr ⟨h1, h2⟩)
 ·by_cases h2 : b.kind = 0
  ·exact rkid16_two a b k q way A B Aw c d cw w S hS hx hy hw hf hg he (.inl ⟨h1, h2⟩)
  ·exact rkid16_leaf a b k q way A B Aw c d cw w S hS hx hy hw hf hg he h1 h2
end
end Go.Proofs.YtleidkpdpabkpaaGreatDoor
