/- DfvE -/
import Derived.Test.YthdhchhpjoghlaaAM0
import Derived.Test.YthdhchhpjoghlaaAM18
set_option linter.unusedSimpArgs false
set_option linter.unusedVariables false
namespace Go.Proofs.Ythdhchhpjoghlaa
open Go.RowKit
attribute [local go_sem] Oper.semAt_some
theorem RowS.lie {w : World} {a : NdD} {f : NdF} {A : Option Addr} {c : Nat} (h : RowS (Bel w) w (.slice A f.len c) f) : LieN w (ndC a (.slice A f.len c)) (a, f) := LieB.make h
theorem EdD.eq_iff (e d : EdD) : e = d ↔ (e.kind = d.kind ∧ e.way = d.way ∧ e.node = d.node ∧ e.old = d.old) := by
 constructor
 ·intro h; rw [h]; exact ⟨rfl, rfl, rfl, rfl⟩
 ·intro ⟨h1, h2, h3, h4⟩
  cases e
  cases d
  simp_all
def Few1 (e : EdD) : Prop := e.way.length ≤ 1000000 ∧ Few9 e.node ∧ Few9 e.old
set_option maxRecDepth 100000 in
set_option maxHeartbeats 8000000 in
theorem same1_any (e d : EdD) (Aw Bw An Bn Ao Bo : Option Addr) (cw dw cn dn co dob : Nat) (w : World) (hwe : WayS (Bel w) w (.slice Aw e.way.length cw) e.way) (hwd : WayS (Bel w) w (.slice Bw d.way.length dw) d.way)
  (hne : RowS (Bel w) w (.slice An e.node.2.len cn) e.node.2) (hnd : RowS (Bel w) w (.slice Bn d.node.2.len dn) d.node.2) (hoe : RowS (Bel w) w (.slice Ao e.old.2.len co) e.old.2) (hod : RowS (Bel w) w (.slice Bo d.old.2.len dob) d.old.2) (fe : Few1 e) (fd : Few1 d) :
  Calls Try.prog 38 #[.agg #[.int .i64 e.kind, .slice Aw e.way.length cw, .string (txt e.node.1.name), .string (txt e.node.1.key), .int .i64 e.node.1.kind, .int .u64 (e.node.1.num : Int), .string (txt e.node.1.text), .slice An e.node.2.len cn, .string (txt e.old.1.name), .string (txt e.old.1.key), .int .i64 e.old.1.kind, .int .u64 (e.old.1.num : Int), .string (txt e.old.1.text), .slice Ao e.old.2.len co], .agg #[.int .i64 d.kind, .slice Bw d.way.length dw, .string (txt d.node.1.name), .string (txt d.node.1.key), .int .i64 d.node.1.kind, .int .u64 (d.node.1.num : Int), .string (txt d.node.1.text), .slice Bn d.node.2.len dn, .string (txt d.old.1.name), .string (txt d.old.1.key), .int .i64 d.old.1.kind, .int .u64 (d.old.1.num : Int), .string (txt d.old.1.text), .slice Bo d.old.2.len dob]] w (Ans9 (.bool (decide (e = d))) w) := by
 have hX : Blk ((w.alloc (.cells #[.int .i64 e.kind, .slice Aw e.way.length cw, .string (txt e.node.1.name), .string (txt e.node.1.key), .int .i64 e.node.1.kind, .int .u64 (e.node.1.num : Int), .string (txt e.node.1.text), .slice An e.node.2.len cn, .string (txt e.old.1.name), .string (txt e.old.1.key), .int .i64 e.old.1.kind, .int .u64 (e.old.1.num : Int), .string (txt e.old.1.text), .slice Ao e.old.2.len co] 42)).alloc (.cells #[.int .i64 d.kind, .slice Bw d.way.length dw, .string (txt d.node.1.name), .string (txt d.node.1.key), .int .i64 d.node.1.kind, .int .u64 (d.node.1.num : Int), .string (txt d.node.1.text), .slice Bn d.node.2.len dn, .string (txt d.old.1.name), .string (txt d.old.1.key), .int .i64 d.old.1.kind, .int .u64 (d.old.1.num : Int), .string (txt d.old.1.text), .slice Bo d.old.2.len dob] 42)) w.heap.size 42 #[.int .i64 e.kind, .slice Aw e.way.length cw, .string (txt e.node.1.name), .string (txt e.node.1.key), .int .i64 e.node.1.kind, .int .u64 (e.node.1.num : Int), .string (txt e.node.1.text), .slice An e.node.2.len cn, .string (txt e.old.1.name), .string (txt e.old.1.key), .int .i64 e.old.1.kind, .int .u64 (e.old.1.num : Int), .string (txt e.old.1.text), .slice Ao e.old.2.len co] := (Blk.new w 42 _).alloc _
 have hY : Blk ((w.alloc (.cells #[.int .i64 e.kind, .slice Aw e.way.length cw, .string (txt e.node.1.name), .string (txt e.node.1.key), .int .i64 e.node.1.kind, .int .u64 (e.node.1.num : Int), .string (txt e.node.1.text), .slice An e.node.2.len cn, .string (txt e.old.1.name), .string (txt e.old.1.key), .int .i64 e.old.1.kind, .int .u64 (e.old.1.num : Int), .string (txt e.old.1.text), .slice Ao e.old.2.len co] 42)).alloc (.cells #[.int .i64 d.kind, .slice Bw d.way.length dw, .string (txt d.node.1.name), .string (txt d.node.1.key), .int .i64 d.node.1.kind, .int .u64 (d.node.1.num : Int), .string (txt d.node.1.text), .slice Bn d.node.2.len dn, .string (txt d.old.1.name), .string (txt d.old.1.key), .int .i64 d.old.1.kind, .int .u64 (d.old.1.num : Int), .string (txt d.old.1.text), .slice Bo d.old.2.len dob] 42)) (w.heap.size + 1) 42 #[.int .i64 d.kind, .slice Bw d.way.length dw, .string (txt d.node.1.name), .string (txt d.node.1.key), .int .i64 d.node.1.kind, .int .u64 (d.node.1.num : Int), .string (txt d.node.1.text), .slice Bn d.node.2.len dn, .string (txt d.old.1.name), .string (txt d.old.1.key), .int .i64 d.old.1.kind, .int .u64 (d.old.1.num : Int), .string (txt d.old.1.text), .slice Bo d.old.2.len dob] := by
  have h := Blk.new (w.alloc (.cells #[.int .i64 e.kind, .slice Aw e.way.length cw, .string (txt e.node.1.name), .string (txt e.node.1.key), .int .i64 e.node.1.kind, .int .u64 (e.node.1.num : Int), .string (txt e.node.1.text), .slice An e.node.2.len cn, .string (txt e.old.1.name), .string (txt e.old.1.key), .int .i64 e.old.1.kind, .int .u64 (e.old.1.num : Int), .string (txt e.old.1.text), .slice Ao e.old.2.len co] 42)) 42 #[.int .i64 d.kind, .slice Bw d.way.length dw, .string (txt d.node.1.name), .string (txt d.node.1.key), .int .i64 d.node.1.kind, .int .u64 (d.node.1.num : Int), .string (txt d.node.1.text), .slice Bn d.node.2.len dn, .string (txt d.old.1.name), .string (txt d.old.1.key), .int .i64 d.old.1.kind, .int .u64 (d.old.1.num : Int), .string (txt d.old.1.text), .slice Bo d.old.2.len dob]
  rwa [show (w.alloc (.cells #[.int .i64 e.kind, .slice Aw e.way.length cw, .string (txt e.node.1.name), .string (txt e.node.1.key), .int .i64 e.node.1.kind, .int .u64 (e.node.1.num : Int), .string (txt e.node.1.text), .slice An e.node.2.len cn, .string (txt e.old.1.name), .string (txt e.old.1.key), .int .i64 e.old.1.kind, .int .u64 (e.old.1.num : Int), .string (txt e.old.1.text), .slice Ao e.old.2.len co] 42)).heap.size = w.heap.size + 1 by simp] at h
 have hB : Below w.heap.size w ((w.alloc (.cells #[.int .i64 e.kind, .slice Aw e.way.length cw, .string (txt e.node.1.name), .string (txt e.node.1.key), .int .i64 e.node.1.kind, .int .u64 (e.node.1.num : Int), .string (txt e.node.1.text), .slice An e.node.2.len cn, .string (txt e.old.1.name), .string (txt e.old.1.key), .int .i64 e.old.1.kind, .int .u64 (e.old.1.num : Int), .string (txt e.old.1.text), .slice Ao e.old.2.len co] 42)).alloc (.cells #[.int .i64 d.kind, .slice Bw d.way.length dw, .string (txt d.node.1.name), .string (txt d.node.1.key), .int .i64 d.node.1.kind, .int .u64 (d.node.1.num : Int), .string (txt d.node.1.text), .slice Bn d.node.2.len dn, .string (txt d.old.1.name), .string (txt d.old.1.key), .int .i64 d.old.1.kind, .int .u64 (d.old.1.num : Int), .string (txt d.old.1.text), .slice Bo d.old.2.len dob] 42)) := ((Below.refl _ _).alloc (Nat.le_refl _) _).alloc (by simp) _
 have hk : ∀ W, Below w.heap.size w W → ∀ g, Bel w g → W.heap[g]? = w.heap[g]? := fun W h g hg => h.block g hg
 have hs : ∀ W, Below w.heap.size w W → ∀ g, Bel w g → Bel W g := fun W h g hg => Nat.lt_of_lt_of_le hg h.size
 obtain ⟨b1, hb1⟩ : ∃ b, b = decide (e.way = d.way) := ⟨_, rfl⟩
 obtain ⟨b2, hb2⟩ : ∃ b, b = decide (e.node = d.node) := ⟨_, rfl⟩
 obtain ⟨b3, hb3⟩ : ∃ b, b = decide (e.old = d.old) := ⟨_, rfl⟩
 have CW : Hid (∀ W, Below w.heap.size w W → Calls Try.prog 47 #[.slice Aw e.way.length cw, .slice Bw d.way.length dw] W (Ans9 (.bool b1) W)) := Lib.hid fun W h => hb1 ▸ eqs_any _ _ _ _ W (hwe.keep (hk W h) (hs W h)) (hwd.keep (hk W h) (hs W h)) fe.1
 have CN : Hid (∀ W, Below w.heap.size w W → Calls Try.prog 28 #[.agg #[.string (txt e.node.1.name), .string (txt e.node.1.key), .int .i64 e.node.1.kind, .int .u64 (e.node.1.num : Int), .string (txt e.node.1.text), .slice An e.node.2.len cn], .agg #[.string (txt d.node.1.name), .string (txt d.node.1.key), .int .i64 d.node.1.kind, .int .u64 (d.node.1.num : Int), .string (txt d.node.1.text), .slice Bn d.node.2.len dn]] W (Ans9 (.bool b2) W)) := Lib.hid fun W h => hb2 ▸ sameT w e.node d.node _ _ W (RowS.lie (RowS.keep hne (hk W h) (hs W h))) (RowS.lie (RowS.keep hnd (hk W h) (hs W h))) fe.2.1 fd.2.1 h
 have CO : Hid (∀ W, Below w.heap.size w W → Calls Try.prog 28 #[.agg #[.string (txt e.old.1.name), .string (txt e.old.1.key), .int .i64 e.old.1.kind, .int .u64 (e.old.1.num : Int), .string (txt e.old.1.text), .slice Ao e.old.2.len co], .agg #[.string (txt d.old.1.name), .string (txt d.old.1.key), .int .i64 d.old.1.kind, .int .u64 (d.old.1.num : Int), .string (txt d.old.1.text), .slice Bo d.old.2.len dob]] W (Ans9 (.bool b3) W)) := Lib.hid fun W h => hb3 ▸ sameT w e.old d.old _ _ W (RowS.lie (RowS.keep hoe (hk W h) (hs W h))) (RowS.lie (RowS.keep hod (hk W h) (hs W h))) fe.2.2 fd.2.2 h
 have HX := Lib.hid hX
 have HY := Lib.hid hY
 have HB := Lib.hid hB
 have HE : Hid (decide (e = d) = (decide (e.kind = d.kind) && b1 && b2 && b3)) := Lib.hid (by
  rw [hb1, hb2, hb3, Bool.eq_iff_iff]
  simp only [decide_eq_true_eq, Bool.and_eq_true, EdD.eq_iff e d]
  constructor
  ·exact fun ⟨h1, h2, h3, h4⟩ => ⟨⟨⟨h1, h2⟩, h3⟩, h4⟩
  ·exact fun ⟨⟨⟨h1, h2⟩, h3⟩, h4⟩ => ⟨h1, h2, h3, h4⟩)
 clear hwe hwd hne hnd hoe hod fe fd hk hs hb1 hb2 hb3 hX hY hB
 by_cases h0 : e.kind = d.kind
 ·have k0 : (e.kind == d.kind) = true := beq_iff_eq.2 h0
  rw [decide_eq_true h0] at HE
  have x0 : ((w.alloc (.cells #[.int .i64 e.kind, .slice Aw e.way.length cw, .string (txt e.node.1.name), .string (txt e.node.1.key), .int .i64 e.node.1.kind, .int .u64 (e.node.1.num : Int), .string (txt e.node.1.text), .slice An e.node.2.len cn, .string (txt e.old.1.name), .string (txt e.old.1.key), .int .i64 e.old.1.kind, .int .u64 (e.old.1.num : Int), .string (txt e.old.1.text), .slice Ao e.old.2.len co] 42)).alloc (.cells #[.int .i64 d.kind, .slice Bw d.way.length dw, .string (txt d.node.1.name), .string (txt d.node.1.key), .int .i64 d.node.1.kind, .int .u64 (d.node.1.num : Int), .string (txt d.node.1.text), .slice Bn d.node.2.len dn, .string (txt d.old.1.name), .string (txt d.old.1.key), .int .i64 d.old.1.kind, .int .u64 (d.old.1.num : Int), .string (txt d.old.1.text), .slice Bo d.old.2.len dob] 42)).cell? ⟨w.heap.size, 0, none⟩ = _ := (HX.out.cell 0).trans rfl
  have y0 : ((w.alloc (.cells #[.int .i64 e.kind, .slice Aw e.way.length cw, .string (txt e.node.1.name), .string (txt e.node.1.key), .int .i64 e.node.1.kind, .int .u64 (e.node.1.num : Int), .string (txt e.node.1.text), .slice An e.node.2.len cn, .string (txt e.old.1.name), .string (txt e.old.1.key), .int .i64 e.old.1.kind, .int .u64 (e.old.1.num : Int), .string (txt e.old.1.text), .slice Ao e.old.2.len co] 42)).alloc (.cells #[.int .i64 d.kind, .slice Bw d.way.length dw, .string (txt d.node.1.name), .string (txt d.node.1.key), .int .i64 d.node.1.kind, .int .u64 (d.node.1.num : Int), .string (txt d.node.1.text), .slice Bn d.node.2.len dn, .string (txt d.old.1.name), .string (txt d.old.1.key), .int .i64 d.old.1.kind, .int .u64 (d.old.1.num : Int), .string (txt d.old.1.text), .slice Bo d.old.2.len dob] 42)).cell? ⟨w.heap.size + 1, 0, none⟩ = _ := (HY.out.cell 0).trans rfl
  have x1 : ((w.alloc (.cells #[.int .i64 e.kind, .slice Aw e.way.length cw, .string (txt e.node.1.name), .string (txt e.node.1.key), .int .i64 e.node.1.kind, .int .u64 (e.node.1.num : Int), .string (txt e.node.1.text), .slice An e.node.2.len cn, .string (txt e.old.1.name), .string (txt e.old.1.key), .int .i64 e.old.1.kind, .int .u64 (e.old.1.num : Int), .string (txt e.old.1.text), .slice Ao e.old.2.len co] 42)).alloc (.cells #[.int .i64 d.kind, .slice Bw d.way.length dw, .string (txt d.node.1.name), .string (txt d.node.1.key), .int .i64 d.node.1.kind, .int .u64 (d.node.1.num : Int), .string (txt d.node.1.text), .slice Bn d.node.2.len dn, .string (txt d.old.1.name), .string (txt d.old.1.key), .int .i64 d.old.1.kind, .int .u64 (d.old.1.num : Int), .string (txt d.old.1.text), .slice Bo d.old.2.len dob] 42)).cell? ⟨w.heap.size, 1, none⟩ = _ := (HX.out.cell 1).trans rfl
  have y1 : ((w.alloc (.cells #[.int .i64 e.kind, .slice Aw e.way.length cw, .string (txt e.node.1.name), .string (txt e.node.1.key), .int .i64 e.node.1.kind, .int .u64 (e.node.1.num : Int), .string (txt e.node.1.text), .slice An e.node.2.len cn, .string (txt e.old.1.name), .string (txt e.old.1.key), .int .i64 e.old.1.kind, .int .u64 (e.old.1.num : Int), .string (txt e.old.1.text), .slice Ao e.old.2.len co] 42)).alloc (.cells #[.int .i64 d.kind, .slice Bw d.way.length dw, .string (txt d.node.1.name), .string (txt d.node.1.key), .int .i64 d.node.1.kind, .int .u64 (d.node.1.num : Int), .string (txt d.node.1.text), .slice Bn d.node.2.len dn, .string (txt d.old.1.name), .string (txt d.old.1.key), .int .i64 d.old.1.kind, .int .u64 (d.old.1.num : Int), .string (txt d.old.1.text), .slice Bo d.old.2.len dob] 42)).cell? ⟨w.heap.size + 1, 1, none⟩ = _ := (HY.out.cell 1).trans rfl
  clear h0
  go_enter Try.func38, Try.ntmps38
  go_wp2_with fail
  refine (CW.out _ HB.out).mono ?_
  rintro r w1 ⟨rfl, hb⟩
  have HX1 := Lib.hid (HX.out.below hb HX.out.lt)
  have HY1 := Lib.hid (HY.out.below hb HY.out.lt)
  have HB1 := Lib.hid (HB.out.trans (hb.mono HB.out.size))
  clear hb
  clear x0 y0 x1 y1
  cases b1 with
  | false =>
   go_wp2
   go_ret
   exact ⟨by rw [HE.out]; rfl, HB1.out⟩
  | true =>
   have x2 : w1.cell? ⟨w.heap.size, 2, none⟩ = _ := (HX1.out.cell 2).trans rfl
   have y2 : w1.cell? ⟨w.heap.size + 1, 2, none⟩ = _ := (HY1.out.cell 2).trans rfl
   have x3 : w1.cell? ⟨w.heap.size, 3, none⟩ = _ := (HX1.out.cell 3).trans rfl
   have y3 : w1.cell? ⟨w.heap.size + 1, 3, none⟩ = _ := (HY1.out.cell 3).trans rfl
   have x4 : w1.cell? ⟨w.heap.size, 4, none⟩ = _ := (HX1.out.cell 4).trans rfl
   have y4 : w1.cell? ⟨w.heap.size + 1, 4, none⟩ = _ := (HY1.out.cell 4).trans rfl
   have x5 : w1.cell? ⟨w.heap.size, 5, none⟩ = _ := (HX1.out.cell 5).trans rfl
   have y5 : w1.cell? ⟨w.heap.size + 1, 5, none⟩ = _ := (HY1.out.cell 5).trans rfl
   have x6 : w1.cell? ⟨w.heap.size, 6, none⟩ = _ := (HX1.out.cell 6).trans rfl
   have y6 : w1.cell? ⟨w.heap.size + 1, 6, none⟩ = _ := (HY1.out.cell 6).trans rfl
   have x7 : w1.cell? ⟨w.heap.size, 7, none⟩ = _ := (HX1.out.cell 7).trans rfl
   have y7 : w1.cell? ⟨w.heap.size + 1, 7, none⟩ = _ := (HY1.out.cell 7).trans rfl
   go_wp2_with fail
   refine (CN.out _ HB1.out).mono ?_
   rintro r w2 ⟨rfl, hb⟩
   have HX2 := Lib.hid (HX1.out.below hb HX1.out.lt)
   have HY2 := Lib.hid (HY1.out.below hb HY1.out.lt)
   have HB2 := Lib.hid (HB1.out.trans (hb.mono HB1.out.size))
   clear hb
   clear x2 y2 x3 y3 x4 y4 x5 y5 x6 y6 x7 y7
   cases b2 with
   | false =>
    go_wp2
    go_ret
    exact ⟨by rw [HE.out]; rfl, HB2.out⟩
   | true =>
    have x8 : w2.cell? ⟨w.heap.size, 8, none⟩ = _ := (HX2.out.cell 8).trans rfl
    have y8 : w2.cell? ⟨w.heap.size + 1, 8, none⟩ = _ := (HY2.out.cell 8).trans rfl
    have x9 : w2.cell? ⟨w.heap.size, 9, none⟩ = _ := (HX2.out.cell 9).trans rfl
    have y9 : w2.cell? ⟨w.heap.size + 1, 9, none⟩ = _ := (HY2.out.cell 9).trans rfl
    have x10 : w2.cell? ⟨w.heap.size, 10, none⟩ = _ := (HX2.out.cell 10).trans rfl
    have y10 : w2.cell? ⟨w.heap.size + 1, 10, none⟩ = _ := (HY2.out.cell 10).trans rfl
    have x11 : w2.cell? ⟨w.heap.size, 11, none⟩ = _ := (HX2.out.cell 11).trans rfl
    have y11 : w2.cell? ⟨w.heap.size + 1, 11, none⟩ = _ := (HY2.out.cell 11).trans rfl
    have x12 : w2.cell? ⟨w.heap.size, 12, none⟩ = _ := (HX2.out.cell 12).trans rfl
    have y12 : w2.cell? ⟨w.heap.size + 1, 12, none⟩ = _ := (HY2.out.cell 12).trans rfl
    have x13 : w2.cell? ⟨w.heap.size, 13, none⟩ = _ := (HX2.out.cell 13).trans rfl
    have y13 : w2.cell? ⟨w.heap.size + 1, 13, none⟩ = _ := (HY2.out.cell 13).trans rfl
    go_wp2_with fail
    refine (CO.out _ HB2.out).mono ?_
    rintro r w3 ⟨rfl, hb⟩
    have HX3 := Lib.hid (HX2.out.below hb HX2.out.lt)
    have HY3 := Lib.hid (HY2.out.below hb HY2.out.lt)
    have HB3 := Lib.hid (HB2.out.trans (hb.mono HB2.out.size))
    clear hb
    clear x8 y8 x9 y9 x10 y10 x11 y11 x12 y12 x13 y13
    cases b3 with
    | false =>
     go_wp2
     go_ret
     exact ⟨by rw [HE.out]; rfl, HB3.out⟩
    | true =>
     go_wp2
     go_ret
     exact ⟨by rw [HE.out]; rfl, HB3.out⟩
 ·have k0 : (e.kind == d.kind) = false := beq_eq_false_iff_ne.2 h0
  rw [decide_eq_false h0] at HE
  have x0 : ((w.alloc (.cells #[.int .i64 e.kind, .slice Aw e.way.length cw, .string (txt e.node.1.name), .string (txt e.node.1.key), .int .i64 e.node.1.kind, .int .u64 (e.node.1.num : Int), .string (txt e.node.1.text), .slice An e.node.2.len cn, .string (txt e.old.1.name), .string (txt e.old.1.key), .int .i64 e.old.1.kind, .int .u64 (e.old.1.num : Int), .string (txt e.old.1.text), .slice Ao e.old.2.len co] 42)).alloc (.cells #[.int .i64 d.kind, .slice Bw d.way.length dw, .string (txt d.node.1.name), .string (txt d.node.1.key), .int .i64 d.node.1.kind, .int .u64 (d.node.1.num : Int), .string (txt d.node.1.text), .slice Bn d.node.2.len dn, .string (txt d.old.1.name), .string (txt d.old.1.key), .int .i64 d.old.1.kind, .int .u64 (d.old.1.num : Int), .string (txt d.old.1.text), .slice Bo d.old.2.len dob] 42)).cell? ⟨w.heap.size, 0, none⟩ = _ := (HX.out.cell 0).trans rfl
  have y0 : ((w.alloc (.cells #[.int .i64 e.kind, .slice Aw e.way.length cw, .string (txt e.node.1.name), .string (txt e.node.1.key), .int .i64 e.node.1.kind, .int .u64 (e.node.1.num : Int), .string (txt e.node.1.text), .slice An e.node.2.len cn, .string (txt e.old.1.name), .string (txt e.old.1.key), .int .i64 e.old.1.kind, .int .u64 (e.old.1.num : Int), .string (txt e.old.1.text), .slice Ao e.old.2.len co] 42)).alloc (.cells #[.int .i64 d.kind, .slice Bw d.way.length dw, .string (txt d.node.1.name), .string (txt d.node.1.key), .int .i64 d.node.1.kind, .int .u64 (d.node.1.num : Int), .string (txt d.node.1.text), .slice Bn d.node.2.len dn, .string (txt d.old.1.name), .string (txt d.old.1.key), .int .i64 d.old.1.kind, .int .u64 (d.old.1.num : Int), .string (txt d.old.1.text), .slice Bo d.old.2.len dob] 42)).cell? ⟨w.heap.size + 1, 0, none⟩ = _ := (HY.out.cell 0).trans rfl
  clear h0
  go_enter Try.func38, Try.ntmps38
  go_wp2
  go_ret
  exact ⟨by rw [HE.out]; rfl, HB.out⟩
set_option maxRecDepth 100000 in
set_option maxHeartbeats 4000000 in
theorem eqe_len (A B : Option Addr) (m n c d : Nat) (fv : Value) (w : World) (h : m ≠ n) : Calls Try.prog 37 #[.slice A m c, .slice B n d, fv] w (Ans9 (.bool false) w) := by
 have e1 : ((m : Int) != (n : Int)) = true := by simp [bne_iff_ne]; omega
 have e2 : ((m : Int) == (n : Int)) = false := beq_eq_false_iff_ne.2 (by omega)
 clear h
 go_enter Try.func37, Try.ntmps37
 go_wp2
 go_ret
 exact ⟨rfl, Below.refl _ _⟩
set_option maxRecDepth 100000 in
set_option maxHeartbeats 8000000 in
theorem eqe_row (l m : List EdD) (N : Nat) (A B : Option Addr) (c c' : Nat) (w : World) (ha : EdsV (Bel w) w (.slice A N c) l) (hb : EdsV (Bel w) w (.slice B N c') m) (hl : FewE l) (hm : FewE m) (el : l.length = N) (em : m.length = N) :
  Calls Try.prog 37 #[.slice A N c, .slice B N c', .func (.func 38) #[] #[]] w (Ans9 (.bool (decide (l = m))) w) := by
 have HA := Lib.hid ha
 have HM := Lib.hid hb
 have HL := Lib.hid (And.intro el em)
 have HFL := Lib.hid (And.intro hl.2 hm.2)
 have i3 : (N : Int) ≤ 1000000 := by have := hl.1; omega
 clear ha hb hl hm el em
 go_enter Try.func37, Try.ntmps37
 go_wp2
 go_loopw [17] (fun i wr => ∃ j : Nat, j ≤ N ∧ i = .int .i64 (j : Int) ∧ Hid (∀ n, n < j → l[n]? = m[n]?) ∧ Hid (Below w.heap.size w wr)) (fun i _ => N - (intOf i).toNat)
 case atStart => exact ⟨0, Nat.zero_le _, rfl, Lib.hid (fun n h => by omega), Lib.hid (Below.refl _ _)⟩
 case round =>
  obtain ⟨j, hj, rfl, HE, HB⟩ := hrel
  by_cases hlt : j < N
  ·obtain ⟨e, he⟩ : ∃ e, l[j]? = some e := ⟨_, List.getElem?_eq_getElem (by have := HL.out.1; omega)⟩
   obtain ⟨d, hd⟩ : ∃ d, m[j]? = some d := ⟨_, List.getElem?_eq_getElem (by have := HL.out.2; omega)⟩
   obtain ⟨b1, o1, Aw, cw, An, cn, Ao, co, rfl, -, -, hs1, hwa, hna, hoa, hca⟩ := HA.out.at he
   obtain ⟨b2, o2, Bw, dw, Bn, dn, Bo, dob, rfl, -, -, hs2, hwb, hnb, hob, hcb⟩ := HM.out.at hd
   have i1 : (0 : Int) ≤ (j : Int) := by omega
   have i2 : (j : Int) < (N : Int) := by omega
   obtain ⟨rb, hrb⟩ : ∃ z, z = decide (e = d) := ⟨_, rfl⟩
   have hBA : Below w.heap.size w (wr.alloc (.cells #[.int .i64 e.kind, .slice Aw e.way.length cw, .string (txt e.node.1.name), .string (txt e.node.1.key), .int .i64 e.node.1.kind, .int .u64 (e.node.1.num : Int), .string (txt e.node.1.text), .slice An e.node.2.len cn, .string (txt e.old.1.name), .string (txt e.old.1.key), .int .i64 e.old.1.kind, .int .u64 (e.old.1.num : Int), .string (txt e.old.1.text), .slice Ao e.old.2.len co] 42)) := HB.out.alloc HB.out.size _
   have hBB : Below w.heap.size w ((wr.alloc (.cells #[.int .i64 e.kind, .slice Aw e.way.length cw, .string (txt e.node.1.name), .string (txt e.node.1.key), .int .i64 e.node.1.kind, .int .u64 (e.node.1.num : Int), .string (txt e.node.1.text), .slice An e.node.2.len cn, .string (txt e.old.1.name), .string (txt e.old.1.key), .int .i64 e.old.1.kind, .int .u64 (e.old.1.num : Int), .string (txt e.old.1.text), .slice Ao e.old.2.len co] 42)).alloc (.cells #[.int .i64 d.kind, .slice Bw d.way.length dw, .string (txt d.node.1.name), .string (txt d.node.1.key), .int .i64 d.node.1.kind, .int .u64 (d.node.1.num : Int), .string (txt d.node.1.text), .slice Bn d.node.2.len dn, .string (txt d.old.1.name), .string (txt d.old.1.key), .int .i64 d.old.1.kind, .int .u64 (d.old.1.num : Int), .string (txt d.old.1.text), .slice Bo d.old.2.len dob] 42)) := hBA.alloc hBA.size _
   have hk : ∀ g, Bel w g → ((wr.alloc (.cells #[.int .i64 e.kind, .slice Aw e.way.length cw, .string (txt e.node.1.name), .string (txt e.node.1.key), .int .i64 e.node.1.kind, .int .u64 (e.node.1.num : Int), .string (txt e.node.1.text), .slice An e.node.2.len cn, .string (txt e.old.1.name), .string (txt e.old.1.key), .int .i64 e.old.1.kind, .int .u64 (e.old.1.num : Int), .string (txt e.old.1.text), .slice Ao e.old.2.len co] 42)).alloc (.cells #[.int .i64 d.kind, .slice Bw d.way.length dw, .string (txt d.node.1.name), .string (txt d.node.1.key), .int .i64 d.node.1.kind, .int .u64 (d.node.1.num : Int), .string (txt d.node.1.text), .slice Bn d.node.2.len dn, .string (txt d.old.1.name), .string (txt d.old.1.key), .int .i64 d.old.1.kind, .int .u64 (d.old.1.num : Int), .string (txt d.old.1.text), .slice Bo d.old.2.len dob] 42)).heap[g]? = w.heap[g]? := fun g hg => hBB.block g hg
   have hs : ∀ g, Bel w g → Bel ((wr.alloc (.cells #[.int .i64 e.kind, .slice Aw e.way.length cw, .string (txt e.node.1.name), .string (txt e.node.1.key), .int .i64 e.node.1.kind, .int .u64 (e.node.1.num : Int), .string (txt e.node.1.text), .slice An e.node.2.len cn, .string (txt e.old.1.name), .string (txt e.old.1.key), .int .i64 e.old.1.kind, .int .u64 (e.old.1.num : Int), .string (txt e.old.1.text), .slice Ao e.old.2.len co] 42)).alloc (.cells #[.int .i64 d.kind, .slice Bw d.way.length dw, .string (txt d.node.1.name), .string (txt d.node.1.key), .int .i64 d.node.1.kind, .int .u64 (d.node.1.num : Int), .string (txt d.node.1.text), .slice Bn d.node.2.len dn, .string (txt d.old.1.name), .string (txt d.old.1.key), .int .i64 d.old.1.kind, .int .u64 (d.old.1.num : Int), .string (txt d.old.1.text), .slice Bo d.old.2.len dob] 42)) g := fun g hg => Nat.lt_of_lt_of_le hg hBB.size
   have HC : Hid (Calls Try.prog 38 #[.agg #[.int .i64 e.kind, .slice Aw e.way.length cw, .string (txt e.node.1.name), .string (txt e.node.1.key), .int .i64 e.node.1.kind, .int .u64 (e.node.1.num : Int), .string (txt e.node.1.text), .slice An e.node.2.len cn, .string (txt e.old.1.name), .string (txt e.old.1.key), .int .i64 e.old.1.kind, .int .u64 (e.old.1.num : Int), .string (txt e.old.1.text), .slice Ao e.old.2.len co], .agg #[.int .i64 d.kind, .slice Bw d.way.length dw, .string (txt d.node.1.name), .string (txt d.node.1.key), .int .i64 d.node.1.kind, .int .u64 (d.node.1.num : Int), .string (txt d.node.1.text), .slice Bn d.node.2.len dn, .string (txt d.old.1.name), .string (txt d.old.1.key), .int .i64 d.old.1.kind, .int .u64 (d.old.1.num : Int), .string (txt d.old.1.text), .slice Bo d.old.2.len dob]] ((wr.alloc (.cells #[.int .i64 e.kind, .slice Aw e.way.length cw, .string (txt e.node.1.name), .string (txt e.node.1.key), .int .i64 e.node.1.kind, .int .u64 (e.node.1.num : Int), .string (txt e.node.1.text), .slice An e.node.2.len cn, .string (txt e.old.1.name), .string (txt e.old.1.key), .int .i64 e.old.1.kind, .int .u64 (e.old.1.num : Int), .string (txt e.old.1.text), .slice Ao e.old.2.len co] 42)).alloc (.cells #[.int .i64 d.kind, .slice Bw d.way.length dw, .string (txt d.node.1.name), .string (txt d.node.1.key), .int .i64 d.node.1.kind, .int .u64 (d.node.1.num : Int), .string (txt d.node.1.text), .slice Bn d.node.2.len dn, .string (txt d.old.1.name), .string (txt d.old.1.key), .int .i64 d.old.1.kind, .int .u64 (d.old.1.num : Int), .string (txt d.old.1.text), .slice Bo d.old.2.len dob] 42)) (Ans9 (.bool rb) ((wr.alloc (.cells #[.int .i64 e.kind, .slice Aw e.way.length cw, .string (txt e.node.1.name), .string (txt e.node.1.key), .int .i64 e.node.1.kind, .int .u64 (e.node.1.num : Int), .string (txt e.node.1.text), .slice An e.node.2.len cn, .string (txt e.old.1.name), .string (txt e.old.1.key), .int .i64 e.old.1.kind, .int .u64 (e.old.1.num : Int), .string (txt e.old.1.text), .slice Ao e.old.2.len co] 42)).alloc (.cells #[.int .i64 d.kind, .slice Bw d.way.length dw, .string (txt d.node.1.name), .string (txt d.node.1.key), .int .i64 d.node.1.kind, .int .u64 (d.node.1.num : Int), .string (txt d.node.1.text), .slice Bn d.node.2.len dn, .string (txt d.old.1.name), .string (txt d.old.1.key), .int .i64 d.old.1.kind, .int .u64 (d.old.1.num : Int), .string (txt d.old.1.text), .slice Bo d.old.2.len dob] 42)))) := Lib.hid (hrb ▸ same1_any e d Aw Bw An Bn Ao Bo cw dw cn dn co dob ((wr.alloc (.cells #[.int .i64 e.kind, .slice Aw e.way.length cw, .string (txt e.node.1.name), .string (txt e.node.1.key), .int .i64 e.node.1.kind, .int .u64 (e.node.1.num : Int), .string (txt e.node.1.text), .slice An e.node.2.len cn, .string (txt e.old.1.name), .string (txt e.old.1.key), .int .i64 e.old.1.kind, .int .u64 (e.old.1.num : Int), .string (txt e.old.1.text), .slice Ao e.old.2.len co] 42)).alloc (.cells #[.int .i64 d.kind, .slice Bw d.way.length dw, .string (txt d.node.1.name), .string (txt d.node.1.key), .int .i64 d.node.1.kind, .int .u64 (d.node.1.num : Int), .string (txt d.node.1.text), .slice Bn d.node.2.len dn, .string (txt d.old.1.name), .string (txt d.old.1.key), .int .i64 d.old.1.kind, .int .u64 (d.old.1.num : Int), .string (txt d.old.1.text), .slice Bo d.old.2.len dob] 42)) (hwa.keep hk hs) (hwb.keep hk hs) (RowS.keep hna hk hs) (RowS.keep hnb hk hs) (RowS.keep hoa hk hs) (RowS.keep hob hk hs) (HFL.out.1 e (List.mem_of_getElem? he)) (HFL.out.2 d (List.mem_of_getElem? hd)))
   have s0 : wr.cell? ⟨b1, o1 + j * 14, none⟩ = _ := (HB.out.cell (p := ⟨b1, o1 + j * 14, none⟩) hs1).trans (hca 0 _ rfl)
   have s1 : wr.cell? ⟨b1, o1 + j * 14 + 1, none⟩ = _ := (HB.out.cell (p := ⟨b1, o1 + j * 14 + 1, none⟩) hs1).trans (hca 1 _ rfl)
   have s2 : wr.cell? ⟨b1, o1 + j * 14 + 2, none⟩ = _ := (HB.out.cell (p := ⟨b1, o1 + j * 14 + 2, none⟩) hs1).trans (hca 2 _ rfl)
   have s3 : wr.cell? ⟨b1, o1 + j * 14 + 3, none⟩ = _ := (HB.out.cell (p := ⟨b1, o1 + j * 14 + 3, none⟩) hs1).trans (hca 3 _ rfl)
   have s4 : wr.cell? ⟨b1, o1 + j * 14 + 4, none⟩ = _ := (HB.out.cell (p := ⟨b1, o1 + j * 14 + 4, none⟩) hs1).trans (hca 4 _ rfl)
   have s5 : wr.cell? ⟨b1, o1 + j * 14 + 5, none⟩ = _ := (HB.out.cell (p := ⟨b1, o1 + j * 14 + 5, none⟩) hs1).trans (hca 5 _ rfl)
   have s6 : wr.cell? ⟨b1, o1 + j * 14 + 6, none⟩ = _ := (HB.out.cell (p := ⟨b1, o1 + j * 14 + 6, none⟩) hs1).trans (hca 6 _ rfl)
   have s7 : wr.cell? ⟨b1, o1 + j * 14 + 7, none⟩ = _ := (HB.out.cell (p := ⟨b1, o1 + j * 14 + 7, none⟩) hs1).trans (hca 7 _ rfl)
   have s8 : wr.cell? ⟨b1, o1 + j * 14 + 8, none⟩ = _ := (HB.out.cell (p := ⟨b1, o1 + j * 14 + 8, none⟩) hs1).trans (hca 8 _ rfl)
   have s9 : wr.cell? ⟨b1, o1 + j * 14 + 9, none⟩ = _ := (HB.out.cell (p := ⟨b1, o1 + j * 14 + 9, none⟩) hs1).trans (hca 9 _ rfl)
   have s10 : wr.cell? ⟨b1, o1 + j * 14 + 10, none⟩ = _ := (HB.out.cell (p := ⟨b1, o1 + j * 14 + 10, none⟩) hs1).trans (hca 10 _ rfl)
   have s11 : wr.cell? ⟨b1, o1 + j * 14 + 11, none⟩ = _ := (HB.out.cell (p := ⟨b1, o1 + j * 14 + 11, none⟩) hs1).trans (hca 11 _ rfl)
   have s12 : wr.cell? ⟨b1, o1 + j * 14 + 12, none⟩ = _ := (HB.out.cell (p := ⟨b1, o1 + j * 14 + 12, none⟩) hs1).trans (hca 12 _ rfl)
   have s13 : wr.cell? ⟨b1, o1 + j * 14 + 13, none⟩ = _ := (HB.out.cell (p := ⟨b1, o1 + j * 14 + 13, none⟩) hs1).trans (hca 13 _ rfl)
   have p0 : (wr.alloc (.cells #[.int .i64 e.kind, .slice Aw e.way.length cw, .string (txt e.node.1.name), .string (txt e.node.1.key), .int .i64 e.node.1.kind, .int .u64 (e.node.1.num : Int), .string (txt e.node.1.text), .slice An e.node.2.len cn, .string (txt e.old.1.name), .string (txt e.old.1.key), .int .i64 e.old.1.kind, .int .u64 (e.old.1.num : Int), .string (txt e.old.1.text), .slice Ao e.old.2.len co] 42)).cell? ⟨b2, o2 + j * 14, none⟩ = _ := (hBA.cell (p := ⟨b2, o2 + j * 14, none⟩) hs2).trans (hcb 0 _ rfl)
   have p1 : (wr.alloc (.cells #[.int .i64 e.kind, .slice Aw e.way.length cw, .string (txt e.node.1.name), .string (txt e.node.1.key), .int .i64 e.node.1.kind, .int .u64 (e.node.1.num : Int), .string (txt e.node.1.text), .slice An e.node.2.len cn, .string (txt e.old.1.name), .string (txt e.old.1.key), .int .i64 e.old.1.kind, .int .u64 (e.old.1.num : Int), .string (txt e.old.1.text), .slice Ao e.old.2.len co] 42)).cell? ⟨b2, o2 + j * 14 + 1, none⟩ = _ := (hBA.cell (p := ⟨b2, o2 + j * 14 + 1, none⟩) hs2).trans (hcb 1 _ rfl)
   have p2 : (wr.alloc (.cells #[.int .i64 e.kind, .slice Aw e.way.length cw, .string (txt e.node.1.name), .string (txt e.node.1.key), .int .i64 e.node.1.kind, .int .u64 (e.node.1.num : Int), .string (txt e.node.1.text), .slice An e.node.2.len cn, .string (txt e.old.1.name), .string (txt e.old.1.key), .int .i64 e.old.1.kind, .int .u64 (e.old.1.num : Int), .string (txt e.old.1.text), .slice Ao e.old.2.len co] 42)).cell? ⟨b2, o2 + j * 14 + 2, none⟩ = _ := (hBA.cell (p := ⟨b2, o2 + j * 14 + 2, none⟩) hs2).trans (hcb 2 _ rfl)
   have p3 : (wr.alloc (.cells #[.int .i64 e.kind, .slice Aw e.way.length cw, .string (txt e.node.1.name), .string (txt e.node.1.key), .int .i64 e.node.1.kind, .int .u64 (e.node.1.num : Int), .string (txt e.node.1.text), .slice An e.node.2.len cn, .string (txt e.old.1.name), .string (txt e.old.1.key), .int .i64 e.old.1.kind, .int .u64 (e.old.1.num : Int), .string (txt e.old.1.text), .slice Ao e.old.2.len co] 42)).cell? ⟨b2, o2 + j * 14 + 3, none⟩ = _ := (hBA.cell (p := ⟨b2, o2 + j * 14 + 3, none⟩) hs2).trans (hcb 3 _ rfl)
   have p4 : (wr.alloc (.cells #[.int .i64 e.kind, .slice Aw e.way.length cw, .string (txt e.node.1.name), .string (txt e.node.1.key), .int .i64 e.node.1.kind, .int .u64 (e.node.1.num : Int), .string (txt e.node.1.text), .slice An e.node.2.len cn, .string (txt e.old.1.name), .string (txt e.old.1.key), .int .i64 e.old.1.kind, .int .u64 (e.old.1.num : Int), .string (txt e.old.1.text), .slice Ao e.old.2.len co] 42)).cell? ⟨b2, o2 + j * 14 + 4, none⟩ = _ := (hBA.cell (p := ⟨b2, o2 + j * 14 + 4, none⟩) hs2).trans (hcb 4 _ rfl)
   have p5 : (wr.alloc (.cells #[.int .i64 e.kind, .slice Aw e.way.length cw, .string (txt e.node.1.name), .string (txt e.node.1.key), .int .i64 e.node.1.kind, .int .u64 (e.node.1.num : Int), .string (txt e.node.1.text), .slice An e.node.2.len cn, .string (txt e.old.1.name), .string (txt e.old.1.key), .int .i64 e.old.1.kind, .int .u64 (e.old.1.num : Int), .string (txt e.old.1.text), .slice Ao e.old.2.len co] 42)).cell? ⟨b2, o2 + j * 14 + 5, none⟩ = _ := (hBA.cell (p := ⟨b2, o2 + j * 14 + 5, none⟩) hs2).trans (hcb 5 _ rfl)
   have p6 : (wr.alloc (.cells #[.int .i64 e.kind, .slice Aw e.way.length cw, .string (txt e.node.1.name), .string (txt e.node.1.key), .int .i64 e.node.1.kind, .int .u64 (e.node.1.num : Int), .string (txt e.node.1.text), .slice An e.node.2.len cn, .string (txt e.old.1.name), .string (txt e.old.1.key), .int .i64 e.old.1.kind, .int .u64 (e.old.1.num : Int), .string (txt e.old.1.text), .slice Ao e.old.2.len co] 42)).cell? ⟨b2, o2 + j * 14 + 6, none⟩ = _ := (hBA.cell (p := ⟨b2, o2 + j * 14 + 6, none⟩) hs2).trans (hcb 6 _ rfl)
   have p7 : (wr.alloc (.cells #[.int .i64 e.kind, .slice Aw e.way.length cw, .string (txt e.node.1.name), .string (txt e.node.1.key), .int .i64 e.node.1.kind, .int .u64 (e.node.1.num : Int), .string (txt e.node.1.text), .slice An e.node.2.len cn, .string (txt e.old.1.name), .string (txt e.old.1.key), .int .i64 e.old.1.kind, .int .u64 (e.old.1.num : Int), .string (txt e.old.1.text), .slice Ao e.old.2.len co] 42)).cell? ⟨b2, o2 + j * 14 + 7, none⟩ = _ := (hBA.cell (p := ⟨b2, o2 + j * 14 + 7, none⟩) hs2).trans (hcb 7 _ rfl)
   have p8 : (wr.alloc (.cells #[.int .i64 e.kind, .slice Aw e.way.length cw, .string (txt e.node.1.name), .string (txt e.node.1.key), .int .i64 e.node.1.kind, .int .u64 (e.node.1.num : Int), .string (txt e.node.1.text), .slice An e.node.2.len cn, .string (txt e.old.1.name), .string (txt e.old.1.key), .int .i64 e.old.1.kind, .int .u64 (e.old.1.num : Int), .string (txt e.old.1.text), .slice Ao e.old.2.len co] 42)).cell? ⟨b2, o2 + j * 14 + 8, none⟩ = _ := (hBA.cell (p := ⟨b2, o2 + j * 14 + 8, none⟩) hs2).trans (hcb 8 _ rfl)
   have p9 : (wr.alloc (.cells #[.int .i64 e.kind, .slice Aw e.way.length cw, .string (txt e.node.1.name), .string (txt e.node.1.key), .int .i64 e.node.1.kind, .int .u64 (e.node.1.num : Int), .string (txt e.node.1.text), .slice An e.node.2.len cn, .string (txt e.old.1.name), .string (txt e.old.1.key), .int .i64 e.old.1.kind, .int .u64 (e.old.1.num : Int), .string (txt e.old.1.text), .slice Ao e.old.2.len co] 42)).cell? ⟨b2, o2 + j * 14 + 9, none⟩ = _ := (hBA.cell (p := ⟨b2, o2 + j * 14 + 9, none⟩) hs2).trans (hcb 9 _ rfl)
   have p10 : (wr.alloc (.cells #[.int .i64 e.kind, .slice Aw e.way.length cw, .string (txt e.node.1.name), .string (txt e.node.1.key), .int .i64 e.node.1.kind, .int .u64 (e.node.1.num : Int), .string (txt e.node.1.text), .slice An e.node.2.len cn, .string (txt e.old.1.name), .string (txt e.old.1.key), .int .i64 e.old.1.kind, .int .u64 (e.old.1.num : Int), .string (txt e.old.1.text), .slice Ao e.old.2.len co] 42)).cell? ⟨b2, o2 + j * 14 + 10, none⟩ = _ := (hBA.cell (p := ⟨b2, o2 + j * 14 + 10, none⟩) hs2).trans (hcb 10 _ rfl)
   have p11 : (wr.alloc (.cells #[.int .i64 e.kind, .slice Aw e.way.length cw, .string (txt e.node.1.name), .string (txt e.node.1.key), .int .i64 e.node.1.kind, .int .u64 (e.node.1.num : Int), .string (txt e.node.1.text), .slice An e.node.2.len cn, .string (txt e.old.1.name), .string (txt e.old.1.key), .int .i64 e.old.1.kind, .int .u64 (e.old.1.num : Int), .string (txt e.old.1.text), .slice Ao e.old.2.len co] 42)).cell? ⟨b2, o2 + j * 14 + 11, none⟩ = _ := (hBA.cell (p := ⟨b2, o2 + j * 14 + 11, none⟩) hs2).trans (hcb 11 _ rfl)
   have p12 : (wr.alloc (.cells #[.int .i64 e.kind, .slice Aw e.way.length cw, .string (txt e.node.1.name), .string (txt e.node.1.key), .int .i64 e.node.1.kind, .int .u64 (e.node.1.num : Int), .string (txt e.node.1.text), .slice An e.node.2.len cn, .string (txt e.old.1.name), .string (txt e.old.1.key), .int .i64 e.old.1.kind, .int .u64 (e.old.1.num : Int), .string (txt e.old.1.text), .slice Ao e.old.2.len co] 42)).cell? ⟨b2, o2 + j * 14 + 12, none⟩ = _ := (hBA.cell (p := ⟨b2, o2 + j * 14 + 12, none⟩) hs2).trans (hcb 12 _ rfl)
   have p13 : (wr.alloc (.cells #[.int .i64 e.kind, .slice Aw e.way.length cw, .string (txt e.node.1.name), .string (txt e.node.1.key), .int .i64 e.node.1.kind, .int .u64 (e.node.1.num : Int), .string (txt e.node.1.text), .slice An e.node.2.len cn, .string (txt e.old.1.name), .string (txt e.old.1.key), .int .i64 e.old.1.kind, .int .u64 (e.old.1.num : Int), .string (txt e.old.1.text), .slice Ao e.old.2.len co] 42)).cell? ⟨b2, o2 + j * 14 + 13, none⟩ = _ := (hBA.cell (p := ⟨b2, o2 + j * 14 + 13, none⟩) hs2).trans (hcb 13 _ rfl)
   have HED := Lib.hid (And.intro he hd)
   have HRB := Lib.hid hrb
   have HBB := Lib.hid hBB
   clear hs1 hwa hna hoa hca hs2 hwb hnb hob hcb he hd hrb hBA hBB hk hs
   cases rb with
   | false =>
    have HF : Hid (decide (l = m) = false) := Lib.hid (decide_eq_false (fun h => by
     have h1 := HED.out.1
     rw [h, HED.out.2] at h1
     injection h1 with h1
     have h2 := HRB.out
     rw [h1] at h2
     simp at h2))
    go_wp2_with fail
    refine HC.out.mono ?_
    rintro r w2 ⟨rfl, hb⟩
    have HB2 := Lib.hid (HBB.out.trans (hb.mono HBB.out.size))
    clear hb s0 p0 s1 p1 s2 p2 s3 p3 s4 p4 s5 p5 s6 p6 s7 p7 s8 p8 s9 p9 s10 p10 s11 p11 s12 p12 s13 p13
    go_wp2
    go_ret
    exact ⟨by rw [HF.out]; rfl, HB2.out⟩
   | true =>
    have HL2 : Hid (∀ n, n < j + 1 → l[n]? = m[n]?) := Lib.hid (fun n hn => by
     by_cases h : n = j
     ·subst h
      have h2 : e = d := of_decide_eq_true HRB.out.symm
      rw [HED.out.1, HED.out.2, h2]
     ·exact HE.out n (by omega))
    go_wp2_with fail
    refine HC.out.mono ?_
    rintro r w2 ⟨rfl, hb⟩
    have HB2 := Lib.hid (HBB.out.trans (hb.mono HBB.out.size))
    clear hb s0 p0 s1 p1 s2 p2 s3 p3 s4 p4 s5 p5 s6 p6 s7 p7 s8 p8 s9 p9 s10 p10 s11 p11 s12 p12 s13 p13
    go_wp2
    go_roundw
    case rel => exact ⟨j + 1, by omega, by go_num, HL2, HB2⟩
    case measure => simp [intOf]; omega
  ·have i2 : ¬ (j : Int) < (N : Int) := by omega
   have HF : Hid (decide (l = m) = true) := Lib.hid (decide_eq_true (List.ext_getElem? (fun k => by
    by_cases hk : k < j
    ·exact HE.out k hk
    ·rw [List.getElem?_eq_none (by have := HL.out.1; omega), List.getElem?_eq_none (by have := HL.out.2; omega)])))
   go_wp2
   go_ret
   exact ⟨by rw [HF.out]; rfl, HB.out⟩
set_option maxRecDepth 100000 in
set_option maxHeartbeats 8000000 in
theorem dsame16_any (l m : List EdD) (va vb : Value) (w : World) (ha : EdsV (Bel w) w va l) (hb : EdsV (Bel w) w vb m) (hl : FewE l) (hm : FewE m) :
  Calls Try.prog 17 #[va, vb] w (Ans9 (.bool (decide (l = m))) w) := by
 obtain ⟨A, c, rfl⟩ := ha.shape
 obtain ⟨B, d, rfl⟩ := hb.shape
 have HC : Hid (Calls Try.prog 37 #[.slice A l.length c, .slice B m.length d, .func (.func 38) #[] #[]] w (Ans9 (.bool (decide (l = m))) w)) := Lib.hid (by
  by_cases h : l.length = m.length
  ·rw [← h] at hb ⊢
   exact eqe_row l m l.length A B c d w ha hb hl hm rfl h.symm
  ·rw [show decide (l = m) = false from decide_eq_false (fun e => h (by rw [e]))]
   exact eqe_len A B _ _ c d _ w h)
 clear ha hb hl hm
 go_enter Try.func17, Try.ntmps17
 go_wp2_with fail
 refine HC.out.mono ?_
 rintro r w2 ⟨rfl, hb⟩
 have HB2 := Lib.hid hb
 clear hb
 go_wp2
 go_ret
 exact ⟨rfl, HB2.out⟩
end Go.Proofs.Ythdhchhpjoghlaa
