/- What ValidLess stands on: Law10C. -/
import Derived.Test.YtljjaikejfoanaaGreatYM0
import Derived.Test.YtljjaikejfoanaaGreatYM1
import Derived.Test.YtljjaikejfoanaaGreatYM11
import Derived.Test.YtljjaikejfoanaaGreatYM36
import Derived.Deep.DeepCutAuto
set_option linter.unusedSimpArgs false
set_option linter.unusedVariables false
namespace Go.Proofs.YtljjaikejfoanaaGreat
open Go.RowKit
attribute [local go_sem] Oper.semAt_some
theorem SpL.shape10 {b : Nat} {w : World} {cs : Array Value} {x : Sp} (h : SpL b w cs.toList x) :
  ∃ B m A c, cs = #[.string (txt x.1.name), .int .i64 (x.1.kind : Int), .int .i64 (x.1.typ : Int), .int .u64 (x.1.low : Int), .int .u64 (x.1.high : Int), .slice B x.1.names.length m, .bool x.1.must, .int .i64 (x.1.most : Int), .slice A x.2.len c] := by
 obtain ⟨B, m, A, c, d, e, -⟩ := SpN.shape h
 exact ⟨B, m, A, c, Array.ext' (by simpa using e)⟩
theorem LieB.shape10 {b : Nat} {w : World} {cs : Array Value} {x : Nd} (h : LieB b w cs.toList x) : ∃ A c, cs = (ndC x.1 (.slice A x.2.len c)).toArray := by
 obtain ⟨A, c, e, -⟩ := h.shape
 exact ⟨A, c, Array.ext' (by simpa using e)⟩
theorem Rd.at10 {w : World} {d : Nat} {A : Option Addr} {n c : Nat} {l : List UInt8} (h : Rd w d (.slice A n c) l) {j : Nat} {b : UInt8} (hj : l[j]? = some b) :
  ∃ off, A = some ⟨d, off, none⟩ ∧ w.cell? ⟨d, off + j, none⟩ = some (.int .u8 (b.toNat : Int)) := by
 obtain ⟨A', c', he, h1, h2, h3⟩ := h
 injection he with e1 e2 e3
 subst e1
 have hl : j < l.length := (List.getElem?_eq_some_iff.1 hj).1
 obtain ⟨off, rfl, hc⟩ := h3 (by omega)
 exact ⟨off, rfl, hc j b hj⟩
theorem blk_eq10 {w w' : World} {g : Nat} {t : TypeId} {cs : Array Value} (h : Blk w g t cs) (e : w'.heap[g]? = w.heap[g]?) : Blk w' g t cs := by unfold Blk at h ⊢; rw [e]; exact h
theorem OwnS.keep10 {base : Nat} {w w' : World} {v : Value} {l : List Stp} (h : OwnS base w v l) (hk : ∀ q, v.ownBlock = some q → w'.heap[q]? = w.heap[q]?) : OwnS base w' v l := OwnK.keep h hk
theorem blk_drew10 {w : World} {g : Nat} {t : TypeId} {cs : Array Value} (h : Blk w g t cs) : Blk w.drew g t cs := h
theorem st6_10 {W w0 : World} {t : TypeId} {cs : Array Value} {y0 y1 y2 y3 y4 y5 : Value} {v : Value} {l : List Stp} (x0 x1 x2 x3 x4 x5 : Value) (hb : Below W.heap.size W w0) (h9 : Blk w0 W.heap.size t cs) (h11 : Blk w0 (W.heap.size + 1) 27 #[y0, y1, y2, y3, y4, y5]) (ho : OwnS (W.heap.size + 2) w0 v l) :
  Below W.heap.size W (set6 w0 (W.heap.size + 1) x0 x1 x2 x3 x4 x5).drew ∧ Blk (set6 w0 (W.heap.size + 1) x0 x1 x2 x3 x4 x5).drew W.heap.size t cs ∧ Blk (set6 w0 (W.heap.size + 1) x0 x1 x2 x3 x4 x5).drew (W.heap.size + 1) 27 #[x0, x1, x2, x3, x4, x5] ∧ OwnS (W.heap.size + 2) (set6 w0 (W.heap.size + 1) x0 x1 x2 x3 x4 x5).drew v l := by
 have h0 : Below W.heap.size W (set6 w0 (W.heap.size + 1) x0 x1 x2 x3 x4 x5) := hb.trans (set6_below (by omega))
 have h1 : Blk (set6 w0 (W.heap.size + 1) x0 x1 x2 x3 x4 x5) W.heap.size t cs := blk_eq10 h9 (set6_other (by omega))
 have h2 := h11.set6 x0 x1 x2 x3 x4 x5
 have h3 : OwnS (W.heap.size + 2) (set6 w0 (W.heap.size + 1) x0 x1 x2 x3 x4 x5) v l := ho.keep10 fun q hq => set6_other (by have := (ho.lt q hq).1; omega)
 generalize set6 w0 (W.heap.size + 1) x0 x1 x2 x3 x4 x5 = V at h0 h1 h2 h3 ⊢
 exact ⟨h0.drew, blk_drew10 h1, blk_drew10 h2, h3.keep10 fun _ _ => rfl⟩
theorem st9_10 {W w0 : World} {cs : Array Value} {y0 y1 y2 y3 y4 y5 y6 y7 y8 : Value} {v : Value} {l : List Stp} (x0 x1 x2 x3 x4 x5 x6 x7 x8 : Value) (hb : Below W.heap.size W w0) (h9 : Blk w0 W.heap.size 41 #[y0, y1, y2, y3, y4, y5, y6, y7, y8]) (h11 : Blk w0 (W.heap.size + 1) 27 cs) (ho : OwnS (W.heap.size + 2) w0 v l) :
  Below W.heap.size W (set9 w0 W.heap.size x0 x1 x2 x3 x4 x5 x6 x7 x8) ∧ Blk (set9 w0 W.heap.size x0 x1 x2 x3 x4 x5 x6 x7 x8) W.heap.size 41 #[x0, x1, x2, x3, x4, x5, x6, x7, x8] ∧ Blk (set9 w0 W.heap.size x0 x1 x2 x3 x4 x5 x6 x7 x8) (W.heap.size + 1) 27 cs ∧ OwnS (W.heap.size + 2) (set9 w0 W.heap.size x0 x1 x2 x3 x4 x5 x6 x7 x8) v l :=
 ⟨hb.trans (set9_below (Nat.le_refl _)), h9.set9 _ _ _ _ _ _ _ _ _, blk_eq10 h11 (set9_other (by omega)), ho.keep10 fun q hq => set9_other (by have := (ho.lt q hq).1; omega)⟩
theorem Below.weaken10 {b B : Nat} {w w' : World} (h : Below B w w') (hb : b ≤ B) : Below b w w' := ⟨h.os, h.tape, h.output, h.size, fun g hg => h.block g (Nat.lt_of_lt_of_le hg hb)⟩
theorem ownS_snoc10 {base : Nat} {w : World} {v : Value} {l : List Stp} {a : NdD} (h : OwnK 45 2 w base v (l.length + 1) (stC l ++ [.string (txt a.name), .string (txt a.key)])) : OwnS base w v (l ++ [stp a]) := by
 have e : stC l ++ [.string (txt a.name), .string (txt a.key)] = stC (l ++ [stp a]) := (stC_app l [stp a]).symm
 rw [e] at h
 show OwnK 45 2 w base v (l ++ [stp a]).length (stC (l ++ [stp a]))
 rw [List.length_append]
 exact h
theorem ok_get {s : Stp} {z : Nd} {f : NdF} (h : OkF f) (hg : gtF s f = some z) : OkN z := by
 obtain ⟨i, _, hi⟩ := getF_find hg
 exact h.at hi
theorem ok_del {s : Stp} : ∀ {f : NdF}, OkF f → OkF (delF s f) := by
 intro f
 induction f with
 | nil => intro h; exact h
 | cons a k r _ ih =>
  intro h
  simp only [delF]
  split
  ·exact h.2.2
  ·exact ⟨h.1, h.2.1, ih h.2.2⟩
theorem ok_rep {s : Stp} {y : Nd} (hy : OkN y) : ∀ {f : NdF}, OkF f → OkF (repF s y f) := by
 intro f
 induction f with
 | nil => intro h; exact h
 | cons a k r _ ih =>
  intro h
  simp only [repF]
  split
  ·exact ⟨hy.1, hy.2, h.2.2⟩
  ·exact ⟨h.1, h.2.1, ih h.2.2⟩
theorem ok_cut : ∀ (l : List Stp) (x : Nd), OkN x → OkN (cutX x l) := by
 intro l
 induction l with
 | nil => intro x h; exact h
 | cons s l ih =>
  intro x h
  cases l with
  | nil => rw [cutX_one]; exact ⟨h.1, ok_del h.2⟩
  | cons t l =>
   rw [cut_more]
   cases hg : gtF s x.2 with
   | none => exact h
   | some z => exact ⟨h.1, ok_rep (ih z (ok_get h.2 hg)) h.2⟩
structure LsM (rt : Sp) (a : NdD) (f : NdF) (l : List Stp) (x : Nd) (y : Sp) : Prop where
 get : getX (a, f) l = some x
 down : downX rt (l.map (·.1)) = some y
 fits : x.2.len = 0 ∨ insideX y.2 x.2 = none
 rgt : rgtF x.2 = true
 spok : SpOk y.2
 splen : y.2.len ≤ 1000000
structure LsR (W : World) (l : List Stp) (x : Nd) (y : Sp) (vw : Value) (scs bx : Array Value) (V : World) : Prop where
 bel : Below W.heap.size W V
 b9 : Blk V W.heap.size 41 scs
 b11 : Blk V (W.heap.size + 1) 27 bx
 lie : LieB W.heap.size V bx.toList x
 spec : SpL W.heap.size V scs.toList y
 own : OwnS (W.heap.size + 2) V vw l
theorem get_snoc {s : Stp} : ∀ (l : List Stp) (x p : Nd), getX x l = some p → getX x (l ++ [s]) = gtF s p.2 := by
 intro l
 induction l with
 | nil =>
  intro x p h
  injection h with h
  subst h
  simp only [List.nil_append, getX]
  cases gtF s x.2 <;> rfl
 | cons t l ih =>
  intro x p h
  simp only [List.cons_append, getX] at h ⊢
  cases hg : gtF t x.2 with
  | none => rw [hg] at h; cases h
  | some z => rw [hg] at h; exact ih z p h
theorem down_snoc {n : List UInt8} {i : Nat} {z : Sp} : ∀ (l : List (List UInt8)) (x y : Sp), downX x l = some y → findX n y.2 = some i → y.2.get? i = some z → downX x (l ++ [n]) = some z := by
 intro l
 induction l with
 | nil =>
  intro x y h h1 h2
  injection h with h
  subst h
  simp only [List.nil_append, downX, h1, h2]
 | cons m l ih =>
  intro x y h h1 h2
  simp only [List.cons_append, downX] at h ⊢
  cases hf : findX m x.2 with
  | none => rw [hf] at h; cases h
  | some j =>
   rw [hf] at h
   simp only at h ⊢
   cases hg : x.2.get? j with
   | none => rw [hg] at h; cases h
   | some u =>
    rw [hg] at h
    simp only at h ⊢
    exact ih u y h h1 h2
theorem rgt_kids {k : Nd} (h : rgtX k = true) : rgtF k.2 = true := by
 obtain ⟨a, f⟩ := k
 cases f with
 | nil => rfl
 | cons b q r =>
  obtain ⟨z2, hz2⟩ := get_gtF (f := Fr.cons b q r) (m := 0) (y := (b, q)) rfl
  exact (right_kind (x := (a, Fr.cons b q r)) h hz2).2.2.2
theorem LsM.next {rt : Sp} {a : NdD} {f : NdF} {l : List Stp} {x k : Nd} {y : Sp} {m : Nat} (h : LsM rt a f l x y) (hk : x.2.get? m = some k) :
  ∃ i z, findX k.1.name y.2 = some i ∧ y.2.get? i = some z ∧ LsM rt a f (l ++ [stp k.1]) k z := by
 have hin : insideX y.2 x.2 = none := by
  rcases h.fits with h0 | h0
  ·have := Fr.get_lt hk; omega
  ·exact h0
 obtain ⟨i, z, n, h1, h2, h3⟩ := scanK_at (a := k.1) (k := k.2) (inside_split.1 hin).1 hk
 have hg := right_at_gt h.rgt hk
 have hso := h.spok.at h2
 refine ⟨i, z, h1, h2, ?_, ?_, ?_, rgt_kids (right_get h.rgt hg), hso.2.2, hso.2.1⟩
 ·rw [get_snoc l _ _ h.get]; exact hg
 ·rw [List.map_append]; exact down_snoc _ _ _ h.down h1 h2
 ·by_cases hk : z.1.kind = 1
  ·exact .inl (kid_leaf h3 hk).2
  ·exact .inr (kid_box h3 hk).2
set_option maxRecDepth 100000 in
set_option maxHeartbeats 8000000 in
theorem validLess_walk (v : Int) (a : NdD) (f : NdF) (A : Option Addr) (c : Nat) (bl : List UInt8) (dq : Nat) (Aq : Option Addr) (cq : Nat) (w : World) (hrow : RowT w.heap.size w (.slice A f.len c) f) (hf : f.size ≤ 999990) (hoka : OkD a) (hok : OkF f) (HAW : Awake10 w) (hrd : Rd w dq (.slice Aq bl.length cq) bl) :
  Calls Tryz.prog 4 #[.int .i64 v, .agg #[.string (txt a.name), .string (txt a.key), .int .i64 a.kind, .int .u64 (a.num : Int), .string (txt a.text), .slice A f.len c], .slice Aq bl.length cq] w (Ans9 (.bool true) w) := by
 have hx1 : Below w.heap.size w (w.alloc (.cells #[.string (txt a.name), .string (txt a.key), .int .i64 a.kind, .int .u64 (a.num : Int), .string (txt a.text), .slice A f.len c] 27)) := (Below.refl _ _).alloc (Nat.le_refl _) _
 have HAU := Lib.hid (HAW (w.alloc (.cells #[.string (txt a.name), .string (txt a.key), .int .i64 a.kind, .int .u64 (a.num : Int), .string (txt a.text), .slice A f.len c] 27)) hx1)
 have HX1 := Lib.hid hx1
 have HBK := Lib.hid (Blk.new w 27 #[.string (txt a.name), .string (txt a.key), .int .i64 a.kind, .int .u64 (a.num : Int), .string (txt a.text), .slice A f.len c])
 have HROW := Lib.hid hrow
 have HOK := Lib.hid hok
 have HOKA := Lib.hid hoka
 have HF9 := Lib.hid hf
 have HRD := Lib.hid hrd
 have HF : Hid (f.size ≤ 1000000) := Lib.hid (by omega)
 have hl0 := hrd.len
 have hl1 : (bl.length : Int) ≤ 140737488355328 := by omega
 clear hx1 hrow hf hok hoka HAW hrd
 go_enter Tryz.func4, Tryz.ntmps4
 go_wp2_with fail
 refine HAU.out.mono ?_
 rintro r w1 ⟨rfl, hb1⟩
 have HB1 := Lib.hid (HX1.out.trans (hb1.mono HX1.out.size))
 have HN1 := Lib.hid (HBK.out.below hb1 HBK.out.lt)
 clear hb1
 have q0 := (HN1.out.cell 0).trans rfl
 have q1 := (HN1.out.cell 1).trans rfl
 have q2 := (HN1.out.cell 2).trans rfl
 have q3 := (HN1.out.cell 3).trans rfl
 have q4 := (HN1.out.cell 4).trans rfl
 have q5 := (HN1.out.cell 5).trans rfl
 go_wp2_with fail
 refine (rsmall10_any a f A c _ (HROW.out.under HB1.out (Nat.le_refl _) HB1.out.size) HF.out).mono ?_
 rintro r w2 ⟨rfl, hb2⟩
 have HB2 := Lib.hid (HB1.out.trans (hb2.mono HB1.out.size))
 have HN2 := Lib.hid (HN1.out.below hb2 HN1.out.lt)
 clear hb2 q0 q1 q2 q3 q4 q5
 cases hsm : decide (f.size + 1 ≤ 300) with
 | false =>
  clear hsm
  go_wp2
  go_ret
  exact ⟨rfl, HB2.out⟩
 | true =>
  clear hsm
  by_cases h8 : bl.length ≤ 8
  ·have g8 : ¬ (8 : Int) < (bl.length : Int) := by omega
   have H8 := Lib.hid h8
   clear h8
   have q0 := (HN2.out.cell 0).trans rfl
   have q1 := (HN2.out.cell 1).trans rfl
   have q2 := (HN2.out.cell 2).trans rfl
   have q3 := (HN2.out.cell 3).trans rfl
   have q4 := (HN2.out.cell 4).trans rfl
   have q5 := (HN2.out.cell 5).trans rfl
   go_wp2_with fail
   refine (vmay_any v a f A c _ (HROW.out.under HB2.out (Nat.le_refl _) HB2.out.size) HF.out HOK.out).mono ?_
   rintro r w3 ⟨rfl, hb3⟩
   have HB3 := Lib.hid (HB2.out.trans (hb3.mono HB2.out.size))
   have HN3 := Lib.hid (HN2.out.below hb3 HN2.out.lt)
   clear hb3 q0 q1 q2 q3 q4 q5
   cases hm : MayX v (a, f) with
   | false =>
    go_wp2
    go_ret
    exact ⟨rfl, HB3.out⟩
   | true =>
    have hm0 : (CheckX v (a, f)).1 = 0 := by unfold MayX at hm; simpa using hm
    have HM := Lib.hid hm0
    have HRT := Lib.hid (rroot_any v w3)
    have HSO := Lib.hid (root_ok v)
    have hcz := check_zero.1 hm0
    obtain ⟨rx, hrx⟩ : ∃ rx, rx = rootX v := ⟨_, rfl⟩
    rw [← hrx] at HRT HSO hcz
    obtain ⟨⟨sd, sf⟩, er⟩ := rx
    simp only at HSO hcz
    obtain ⟨rfl, hcb, hci, -⟩ := hcz
    have HRX := Lib.hid hrx
    have HC : Hid (True ∧ rgtX (a, f) = true ∧ insideX sf f = none) := Lib.hid ⟨trivial, by unfold rootB at hcb; simp only [Bool.and_eq_true] at hcb; exact hcb.1, hci⟩
    clear hm hm0 hrx hcb hci
    go_wp2_with fail
    refine HRT.out.mono ?_
    rintro r w4 ⟨cs, rfl, hs, hb4⟩
    have hsl : SpL w4.heap.size w4 cs (sd, sf) := FrN.kept stay_spc hs (fun g _ => rfl) (fun g hg => hg.2) (fun g _ => rfl) (fun g hg => hg.2)
    obtain ⟨B0, m0, A0, c0, d0, rfl, -, -, -⟩ := SpN.shape (x := (sd, sf)) hsl
    have HB4 := Lib.hid (HB3.out.trans (hb4.mono HB3.out.size))
    have HN4 := Lib.hid (HN3.out.below hb4 HN3.out.lt)
    have hy1 : Below w4.heap.size w4 (w4.alloc (.cells #[.string (txt sd.name), .int .i64 (sd.kind : Int), .int .i64 (sd.typ : Int), .int .u64 (sd.low : Int), .int .u64 (sd.high : Int), .slice B0 sd.names.length m0, .bool sd.must, .int .i64 (sd.most : Int), .slice A0 sf.len c0] 41)) := (Below.refl _ _).alloc (Nat.le_refl _) _
    have hy2 : Below w4.heap.size w4 ((w4.alloc (.cells #[.string (txt sd.name), .int .i64 (sd.kind : Int), .int .i64 (sd.typ : Int), .int .u64 (sd.low : Int), .int .u64 (sd.high : Int), .slice B0 sd.names.length m0, .bool sd.must, .int .i64 (sd.most : Int), .slice A0 sf.len c0] 41)).alloc (.cells #[.string (txt a.name), .string (txt a.key), .int .i64 a.kind, .int .u64 (a.num : Int), .string (txt a.text), .slice A f.len c] 27)) := hy1.alloc hy1.size _
    have HY : Hid (LsM (sd, sf) a f [] (a, f) (sd, sf) ∧ LsR w4 [] (a, f) (sd, sf) (.slice none 0 0) #[.string (txt sd.name), .int .i64 (sd.kind : Int), .int .i64 (sd.typ : Int), .int .u64 (sd.low : Int), .int .u64 (sd.high : Int), .slice B0 sd.names.length m0, .bool sd.must, .int .i64 (sd.most : Int), .slice A0 sf.len c0] #[.string (txt a.name), .string (txt a.key), .int .i64 a.kind, .int .u64 (a.num : Int), .string (txt a.text), .slice A f.len c] ((w4.alloc (.cells #[.string (txt sd.name), .int .i64 (sd.kind : Int), .int .i64 (sd.typ : Int), .int .u64 (sd.low : Int), .int .u64 (sd.high : Int), .slice B0 sd.names.length m0, .bool sd.must, .int .i64 (sd.most : Int), .slice A0 sf.len c0] 41)).alloc (.cells #[.string (txt a.name), .string (txt a.key), .int .i64 a.kind, .int .u64 (a.num : Int), .string (txt a.text), .slice A f.len c] 27))) := Lib.hid ⟨⟨rfl, rfl, .inr HC.out.2.2, rgt_kids (k := (a, f)) HC.out.2.1, HSO.out.1, HSO.out.2⟩,
     ⟨hy2, (Blk.new w4 41 #[.string (txt sd.name), .int .i64 (sd.kind : Int), .int .i64 (sd.typ : Int), .int .u64 (sd.low : Int), .int .u64 (sd.high : Int), .slice B0 sd.names.length m0, .bool sd.must, .int .i64 (sd.most : Int), .slice A0 sf.len c0]).alloc _, Blk.newA (w := (w4.alloc (.cells #[.string (txt sd.name), .int .i64 (sd.kind : Int), .int .i64 (sd.typ : Int), .int .u64 (sd.low : Int), .int .u64 (sd.high : Int), .slice B0 sd.names.length m0, .bool sd.must, .int .i64 (sd.most : Int), .slice A0 sf.len c0] 41))) (by simp) _ _, LieB.under (LieB.make (HROW.out.under HB4.out (Nat.le_refl _) HB4.out.size)) hy2 (Nat.le_refl _) (Nat.le_refl _), hsl.keep (fun g hg => hy2.block g hg) (Nat.le_refl _), OwnS.nil _ _⟩⟩
    clear hs hb4 hsl hy1 hy2
    have HNS : Hid (Blk (w4.alloc (.cells #[.string (txt sd.name), .int .i64 (sd.kind : Int), .int .i64 (sd.typ : Int), .int .u64 (sd.low : Int), .int .u64 (sd.high : Int), .slice B0 sd.names.length m0, .bool sd.must, .int .i64 (sd.most : Int), .slice A0 sf.len c0] 41)) w.heap.size 27 #[.string (txt a.name), .string (txt a.key), .int .i64 a.kind, .int .u64 (a.num : Int), .string (txt a.text), .slice A f.len c]) := Lib.hid (HN4.out.alloc _)
    have q0 := (HNS.out.cell 0).trans rfl
    have q1 := (HNS.out.cell 1).trans rfl
    have q2 := (HNS.out.cell 2).trans rfl
    have q3 := (HNS.out.cell 3).trans rfl
    have q4 := (HNS.out.cell 4).trans rfl
    have q5 := (HNS.out.cell 5).trans rfl
    go_wp2_with fail
    clear q0 q1 q2 q3 q4 q5
    go_loopw [12, 13] (fun v12 v13 wr => ∃ (l : List Stp) (x : Nd) (y : Sp) (scs bx : Array Value), l.length ≤ bl.length ∧ v13 = .int .i64 (l.length : Int) ∧ Hid (LsM (sd, sf) a f l x y ∧ LsR w4 l x y v12 scs bx wr)) (fun _ v13 _ => bl.length - (intOf v13).toNat)
    case atStart => exact ⟨[], (a, f), (sd, sf), _, _, Nat.zero_le _, rfl, HY⟩
    case round =>
     obtain ⟨l, ⟨xa, xf⟩, y, scs, bx, hl, rfl, HR⟩ := hrel
     obtain ⟨Ax, cx, rfl⟩ := HR.out.2.lie.shape10
     obtain ⟨B1, m1, A1, c1, rfl⟩ := HR.out.2.spec.shape10
     obtain ⟨⟨nm, kd, ty, lo, up, ns, mu, mo⟩, yf⟩ := y
     obtain ⟨Aw, cw, rfl⟩ := HR.out.2.own.shape
     unfold ndC at HR
     simp only at HR
     obtain ⟨w0, hw0⟩ : ∃ w0, w0 = wr := ⟨_, rfl⟩
     subst hw0
     have i1 : (0 : Int) ≤ (l.length : Int) := by omega
     have HBW : Hid (Below w.heap.size w w0) := Lib.hid (HB4.out.trans (HR.out.2.bel.mono HB4.out.size))
     have HXR : Hid (RowT w4.heap.size w0 (.slice Ax xf.len cx) xf) := Lib.hid (by obtain ⟨A', c', e, h⟩ := HR.out.2.lie.shape; injection e with _ e; injection e with _ e; injection e with _ e; injection e with _ e; injection e with _ e; injection e with e _; injection e with e1 _ e3; subst e1 e3; exact h)
     have r5 := (HR.out.2.b11.cell 5).trans rfl
     by_cases hlt : l.length < bl.length
     ·have i2 : (l.length : Int) < (bl.length : Int) := by omega
      by_cases h0 : 0 < xf.len
      ·have i3 : (0 : Int) < (xf.len : Int) := by omega
       obtain ⟨b, hb⟩ : ∃ b, bl[l.length]? = some b := ⟨_, List.getElem?_eq_getElem hlt⟩
       obtain ⟨off, rfl, hcb⟩ := (HRD.out.below' HBW.out).at10 hb
       have HLT : Hid (l.length + 1 ≤ bl.length) := Lib.hid hlt
       obtain ⟨m, hm⟩ : ∃ m, m = b.toNat % xf.len := ⟨_, rfl⟩
       have hmx : m < xf.len := by rw [hm]; exact Nat.mod_lt _ h0
       have ht : ((b.toNat : Int)).tmod (xf.len : Int) = (m : Int) := by rw [hm]; rfl
       obtain ⟨ka, kk, hk⟩ := Fr.get_some hmx
       obtain ⟨g, o, Ak, ck, rfl, -, hnc, hgb, hrk, hcell⟩ := HXR.out.at hk
       have HCL : Hid (∀ V, Below w4.heap.size w4 V → ∀ j u, (ndC ka (.slice Ak kk.len ck))[j]? = some u → V.cell? ⟨g, o + m * 6 + j, none⟩ = some u) := Lib.hid (fun V hV j u hu =>
        (World.cell?_of_block (w := w0) (a := ⟨g, o + m * 6 + j, none⟩) ((hV.block g hgb).trans (HR.out.2.bel.block g hgb).symm)).trans (hcell j u hu))
       have hdq : dq < w.heap.size := HRD.out.lt (by omega)
       have HQC : Hid (∀ V, Below w4.heap.size w4 V → V.cell? ⟨dq, off + l.length, none⟩ = some (.int .u8 (b.toNat : Int))) := Lib.hid (fun V hV => (World.cell?_of_block (w := w0) (a := ⟨dq, off + l.length, none⟩) ((hV.block dq (Nat.lt_of_lt_of_le hdq HB4.out.size)).trans (HR.out.2.bel.block dq (Nat.lt_of_lt_of_le hdq HB4.out.size)).symm)).trans hcb)
       have b0 := b.toNat_lt
       have b1 : ((b.toNat : Int)) < 256 := by omega
       have n0 : (m : Int) < (xf.len : Int) := by omega
       have n1 : (0 : Int) ≤ (m : Int) := by omega
       have HNX := Lib.hid (HR.out.1.next hk)
       have HRK := Lib.hid hrk
       have HBX : Hid (Blk w0 (w4.heap.size + 1) 27 #[.string (txt xa.name), .string (txt xa.key), .int .i64 xa.kind, .int .u64 (xa.num : Int), .string (txt xa.text), .slice (some ⟨g, o, none⟩) xf.len cx]) := Lib.hid HR.out.2.b11
       have HBD : Hid (Below w4.heap.size w4 w0.drew) := Lib.hid HR.out.2.bel.drew
       have HRAP : Hid (IntKind.i64.wrap (b.toNat : Int) = (b.toNat : Int)) := Lib.hid (IntWalk.i64_in _ (by omega))
       have HI4 : Hid (¬ xf.len = 0) := Lib.hid (by omega)
       have HTM := Lib.hid ht
       have HOW := Lib.hid HR.out.2.own
       have HB9 := Lib.hid HR.out.2.b9
       have HSP := Lib.hid HR.out.2.spec
       clear hm hcell hcb hrk ht
       have HAFT := Lib.hid (st6_10 (.string (txt ka.name)) (.string (txt ka.key)) (.int .i64 ka.kind) (.int .u64 (ka.num : Int)) (.string (txt ka.text)) (.slice Ak kk.len ck) HR.out.2.bel HB9.out HBX.out HOW.out)
       have HST := Lib.hid HAFT.out.1
       go_upto_region 13 with (fail)
       go_cut [] (fun wx => Hid (Below w4.heap.size w4 wx ∧ Blk wx w4.heap.size 41 #[.string (txt nm), .int .i64 (kd : Int), .int .i64 (ty : Int), .int .u64 (lo : Int), .int .u64 (up : Int), .slice B1 ns.length m1, .bool mu, .int .i64 (mo : Int), .slice A1 yf.len c1] ∧ Blk wx (w4.heap.size + 1) 27 #[.string (txt ka.name), .string (txt ka.key), .int .i64 ka.kind, .int .u64 (ka.num : Int), .string (txt ka.text), .slice Ak kk.len ck] ∧ OwnS (w4.heap.size + 2) wx (.slice Aw l.length cw) l))
       case first =>
        go_wp2_with fail
        refine wp_region_noPanic ?_
        refine wp_region_held_drew (S := fun _ => True) (by kernel_rfl) trivial (fun hS => ?_)
        refine held_more (S' := fun w' => Below w4.heap.size w4 w') (fun _ _ => trivial) _ _ _ _ ?_
        replace hS := HBD.out
        refine wpAnyH_take (i := 0) (oi := ?o_0) (v := ?v_0) ?i_0 (by kernel_rfl) (by kernel_rfl) (by kernel_rfl) (fun _ _ _ h => h) (Or.inl ⟨?g_0, ?y_0⟩) hS ?_
        case i_0 => simp only [layG]; rfl
        case g_0 => rfl
        case y_0 => (intro w hSw; (go_simp <;> with_reducible rfl))
        (try simp only [Act.put, layS])
        refine wpAnyH_take (i := 2) (oi := ?o_1) (v := ?v_1) ?i_1 (by kernel_rfl) (by kernel_rfl) (by kernel_rfl) (fun _ _ _ h => h) (Or.inl ⟨?g_1, ?y_1⟩) hS ?_
        case i_1 => simp only [layG]; rfl
        case g_1 => rfl
        case y_1 => (intro w hSw; (go_simp <;> with_reducible rfl))
        (try simp only [Act.put, layS])
        refine wpAnyH_take (i := 3) (oi := ?o_2) (v := ?v_2) ?i_2 (by kernel_rfl) (by kernel_rfl) (by kernel_rfl) (fun _ _ _ h => h) (Or.inl ⟨?g_2, ?y_2⟩) hS ?_
        case i_2 => simp only [layG]; rfl
        case g_2 => rfl
        case y_2 => (intro w hSw; (go_simp <;> with_reducible rfl))
        (try simp only [Act.put, layS])
        refine wpAnyH_take (i := 4) (oi := ?o_3) (v := ?v_3) ?i_3 (by kernel_rfl) (by kernel_rfl) (by kernel_rfl) (fun _ _ _ h => h) (Or.inl ⟨?g_3, ?y_3⟩) hS ?_
        case i_3 => simp only [layG]; rfl
        case g_3 => rfl
        case y_3 => (intro w hSw; (go_simp <;> with_reducible rfl))
        (try simp only [Act.put, layS])
        refine wpAnyH_take (i := 5) (oi := ?o_4) (v := ?v_4) ?i_4 (by kernel_rfl) (by kernel_rfl) (by kernel_rfl) (fun _ _ _ h => h) (Or.inl ⟨?g_4, ?y_4⟩) hS ?_
        case i_4 => simp only [layG]; rfl
        case g_4 => rfl
        case y_4 => (intro w hSw; have hq := HQC.out _ hSw; (go_simp <;> with_reducible rfl))
        (try simp only [Act.put, layS])
        refine wpAnyH_take (i := 6) (oi := ?o_5) (v := ?v_5) ?i_5 (by kernel_rfl) (by kernel_rfl) (by kernel_rfl) (fun _ _ _ h => h) (Or.inl ⟨?g_5, ?y_5⟩) hS ?_
        case i_5 => simp only [layG]; rfl
        case g_5 => rfl
        case y_5 => (intro w hSw; have hw := HRAP.out; (go_simp <;> with_reducible rfl))
        (try simp only [Act.put, layS])
        refine wpAnyH_take (i := 7) (oi := ?o_6) (v := ?v_6) ?i_6 (by kernel_rfl) (by kernel_rfl) (by kernel_rfl) (fun _ _ _ h => h) (Or.inl ⟨?g_6, ?y_6⟩) hS ?_
        case i_6 => simp only [layG]; rfl
        case g_6 => rfl
        case y_6 => (intro w hSw; (go_simp <;> with_reducible rfl))
        (try simp only [Act.put, layS])
        refine wpAnyH_ready (rs := [1, 8]) (by kernel_rfl) (by simp) ?_
        refine (AllReadyH.cons (o := ?or_7) ?ir_7 (fun K hK => ?str_7) (AllReadyH.cons (o := ?or_8) ?ir_8 (fun K hK => ?str_8) AllReadyH.nil))
        case ir_7 => simp only [layG]; rfl
        case ir_8 => simp only [layG]; rfl
        case' str_7 =>
         rw [if_pos (by rfl)]
         have q5 := (HBX.out.cell 5).trans rfl
         go_simp
         refine hK.out _ _ ?sr_7 (fun hS => ?_)
         case sr_7 => (exact hS)
         clear hK K
         (try simp only [Act.put, layS])
         clear q5
         refine wpAnyH_ready (rs := [8]) (by kernel_rfl) (by simp) ?_
         refine (AllReadyH.cons (o := ?or_9) ?ir_9 (fun K hK => ?str_9) AllReadyH.nil)
         case ir_9 => simp only [layG]; rfl
         rw [if_pos (by rfl)]
         have q5 := (HBX.out.cell 5).trans rfl
         go_simp
         refine hK.out _ _ ?sr_9 (fun hS => ?_)
         case sr_9 => (exact hS)
         clear hK K
         (try simp only [Act.put, layS])
         clear q5
         refine wpAnyH_take (i := 9) (oi := ?o_a) (v := ?v_a) ?i_a (by kernel_rfl) (by kernel_rfl) (by kernel_rfl) (fun _ _ _ h => h) (Or.inl ⟨?g_a, ?y_a⟩) hS ?_
         case i_a => simp only [layG]; rfl
         case g_a => rfl
         case y_a => (intro w hSw; (go_simp <;> with_reducible rfl))
         (try simp only [Act.put, layS])
         refine wpAnyH_take (i := 10) (oi := ?o_b) (v := ?v_b) ?i_b (by kernel_rfl) (by kernel_rfl) (by kernel_rfl) (fun _ _ _ h => h) (Or.inl ⟨?g_b, ?y_b⟩) hS ?_
         case i_b => simp only [layG]; rfl
         case g_b => rfl
         case y_b => (intro w hSw; have hw := HRAP.out; have hz := HI4.out; have ht := HTM.out; (go_simp <;> with_reducible rfl))
         (try simp only [Act.put, layS])
         refine wpAnyH_take (i := 11) (oi := ?o_c) (v := ?v_c) ?i_c (by kernel_rfl) (by kernel_rfl) (by kernel_rfl) (fun _ _ _ h => h) (Or.inl ⟨?g_c, ?y_c⟩) hS ?_
         case i_c => simp only [layG]; rfl
         case g_c => rfl
         case y_c => (intro w hSw; (go_simp <;> with_reducible rfl))
         (try simp only [Act.put, layS])
         refine wpAnyH_take (i := 12) (oi := ?o_d) (v := ?v_d) ?i_d (by kernel_rfl) (by kernel_rfl) (by kernel_rfl) (fun _ _ _ h => h) (Or.inl ⟨?g_d, ?y_d⟩) hS ?_
         case i_d => simp only [layG]; rfl
         case g_d => rfl
         case y_d => (intro w hSw; have z0 : w.cell? ⟨g, o + m * 6, none⟩ = some (.string (txt ka.name)) := HCL.out _ hSw 0 _ rfl; have z1 := HCL.out _ hSw 1 _ rfl; have z2 := HCL.out _ hSw 2 _ rfl; have z3 := HCL.out _ hSw 3 _ rfl; have z4 := HCL.out _ hSw 4 _ rfl; have z5 := HCL.out _ hSw 5 _ rfl; (go_simp <;> with_reducible rfl))
         (try simp only [Act.put, layS])
         refine wpAnyH_ready (rs := [13]) (by kernel_rfl) (by simp) ?_
         refine (AllReadyH.cons (o := ?or_e) ?ir_e (fun K hK => ?str_e) AllReadyH.nil)
         case ir_e => simp only [layG]; rfl
         rw [if_pos (by rfl)]
         have fz0 : (w0).frozen? ⟨w4.heap.size + 1, 0, none⟩ = false := HBX.out.frozen 0
         have fq0 := (HBX.out.cell 0).trans rfl
         have fz1 : (w0).frozen? ⟨w4.heap.size + 1, 1, none⟩ = false := HBX.out.frozen 1
         have fq1 := (HBX.out.cell 1).trans rfl
         have fz2 : (w0).frozen? ⟨w4.heap.size + 1, 2, none⟩ = false := HBX.out.frozen 2
         have fq2 := (HBX.out.cell 2).trans rfl
         have fz3 : (w0).frozen? ⟨w4.heap.size + 1, 3, none⟩ = false := HBX.out.frozen 3
         have fq3 := (HBX.out.cell 3).trans rfl
         have fz4 : (w0).frozen? ⟨w4.heap.size + 1, 4, none⟩ = false := HBX.out.frozen 4
         have fq4 := (HBX.out.cell 4).trans rfl
         have fz5 : (w0).frozen? ⟨w4.heap.size + 1, 5, none⟩ = false := HBX.out.frozen 5
         have fq5 := (HBX.out.cell 5).trans rfl
         go_simp
         refine hK.out _ _ ?sr_e (fun hS => ?_)
         case sr_e => (exact HST.out)
         clear hK K
         (try simp only [Act.put, layS])
         refine wpAnyH_done (by kernel_rfl) ?_ _
         refine NoPanic.normal ?_
        case' str_8 =>
         rw [if_pos (by rfl)]
         have q5 := (HBX.out.cell 5).trans rfl
         go_simp
         refine hK.out _ _ ?sr_8 (fun hS => ?_)
         case sr_8 => (exact hS)
         clear hK K
         (try simp only [Act.put, layS])
         clear q5
         refine wpAnyH_take (i := 9) (oi := ?o_f) (v := ?v_f) ?i_f (by kernel_rfl) (by kernel_rfl) (by kernel_rfl) (fun _ _ _ h => h) (Or.inl ⟨?g_f, ?y_f⟩) hS ?_
         case i_f => simp only [layG]; rfl
         case g_f => rfl
         case y_f => (intro w hSw; (go_simp <;> with_reducible rfl))
         (try simp only [Act.put, layS])
         refine wpAnyH_take (i := 10) (oi := ?o_g) (v := ?v_g) ?i_g (by kernel_rfl) (by kernel_rfl) (by kernel_rfl) (fun _ _ _ h => h) (Or.inl ⟨?g_g, ?y_g⟩) hS ?_
         case i_g => simp only [layG]; rfl
         case g_g => rfl
         case y_g => (intro w hSw; have hw := HRAP.out; have hz := HI4.out; have ht := HTM.out; (go_simp <;> with_reducible rfl))
         (try simp only [Act.put, layS])
         refine wpAnyH_ready (rs := [1]) (by kernel_rfl) (by simp) ?_
         refine (AllReadyH.cons (o := ?or_h) ?ir_h (fun K hK => ?str_h) AllReadyH.nil)
         case ir_h => simp only [layG]; rfl
         rw [if_pos (by rfl)]
         have q5 := (HBX.out.cell 5).trans rfl
         go_simp
         refine hK.out _ _ ?sr_h (fun hS => ?_)
         case sr_h => (exact hS)
         clear hK K
         (try simp only [Act.put, layS])
         clear q5
         refine wpAnyH_take (i := 11) (oi := ?o_i) (v := ?v_i) ?i_i (by kernel_rfl) (by kernel_rfl) (by kernel_rfl) (fun _ _ _ h => h) (Or.inl ⟨?g_i, ?y_i⟩) hS ?_
         case i_i => simp only [layG]; rfl
         case g_i => rfl
         case y_i => (intro w hSw; (go_simp <;> with_reducible rfl))
         (try simp only [Act.put, layS])
         refine wpAnyH_take (i := 12) (oi := ?o_j) (v := ?v_j) ?i_j (by kernel_rfl) (by kernel_rfl) (by kernel_rfl) (fun _ _ _ h => h) (Or.inl ⟨?g_j, ?y_j⟩) hS ?_
         case i_j => simp only [layG]; rfl
         case g_j => rfl
         case y_j => (intro w hSw; have z0 : w.cell? ⟨g, o + m * 6, none⟩ = some (.string (txt ka.name)) := HCL.out _ hSw 0 _ rfl; have z1 := HCL.out _ hSw 1 _ rfl; have z2 := HCL.out _ hSw 2 _ rfl; have z3 := HCL.out _ hSw 3 _ rfl; have z4 := HCL.out _ hSw 4 _ rfl; have z5 := HCL.out _ hSw 5 _ rfl; (go_simp <;> with_reducible rfl))
         (try simp only [Act.put, layS])
         refine wpAnyH_ready (rs := [13]) (by kernel_rfl) (by simp) ?_
         refine (AllReadyH.cons (o := ?or_k) ?ir_k (fun K hK => ?str_k) AllReadyH.nil)
         case ir_k => simp only [layG]; rfl
         rw [if_pos (by rfl)]
         have fz0 : (w0).frozen? ⟨w4.heap.size + 1, 0, none⟩ = false := HBX.out.frozen 0
         have fq0 := (HBX.out.cell 0).trans rfl
         have fz1 : (w0).frozen? ⟨w4.heap.size + 1, 1, none⟩ = false := HBX.out.frozen 1
         have fq1 := (HBX.out.cell 1).trans rfl
         have fz2 : (w0).frozen? ⟨w4.heap.size + 1, 2, none⟩ = false := HBX.out.frozen 2
         have fq2 := (HBX.out.cell 2).trans rfl
         have fz3 : (w0).frozen? ⟨w4.heap.size + 1, 3, none⟩ = false := HBX.out.frozen 3
         have fq3 := (HBX.out.cell 3).trans rfl
         have fz4 : (w0).frozen? ⟨w4.heap.size + 1, 4, none⟩ = false := HBX.out.frozen 4
         have fq4 := (HBX.out.cell 4).trans rfl
         have fz5 : (w0).frozen? ⟨w4.heap.size + 1, 5, none⟩ = false := HBX.out.frozen 5
         have fq5 := (HBX.out.cell 5).trans rfl
         go_simp
         refine hK.out _ _ ?sr_k (fun hS => ?_)
         case sr_k => (exact HST.out)
         clear hK K
         (try simp only [Act.put, layS])
         refine wpAnyH_done (by kernel_rfl) ?_ _
         refine NoPanic.normal ?_
        all_goals clear hS
        all_goals (go_wp2_with fail; go_meet; exact HAFT)
       case rest =>
        have HQ := hcut
        clear hcut
        obtain ⟨wq, hwq⟩ : ∃ wq, wq = wc := ⟨_, rfl⟩
        subst hwq
        have q0 := (HQ.out.2.2.1.cell 0).trans rfl
        have q1 := (HQ.out.2.2.1.cell 1).trans rfl
        have hlw := HQ.out.2.2.1.lt
        have hal : Below wq.heap.size wq (wq.alloc (.cells #[.string (txt ka.name), .string (txt ka.key)] 45)) := (Below.refl _ _).alloc (Nat.le_refl _) _
        have HOA : Hid (OwnS (w4.heap.size + 2) (wq.alloc (.cells #[.string (txt ka.name), .string (txt ka.key)] 45)) (.slice Aw l.length cw) l) := Lib.hid (HQ.out.2.2.2.below hal)
        have HBA := Lib.hid (Blk.new wq 45 #[.string (txt ka.name), .string (txt ka.key)])
        have HBS : Hid (w4.heap.size + 2 ≤ ((wq.alloc (.cells #[.string (txt ka.name), .string (txt ka.key)] 45))).heap.size) := Lib.hid (by simp; omega)
        have HON : Hid (∀ u ∈ [Value.string (txt ka.name), .string (txt ka.key)], u.oneCell' = true) := Lib.hid (by simp [Value.oneCell'])
        have HLA : Hid (Below w4.heap.size w4 (wq.alloc (.cells #[.string (txt ka.name), .string (txt ka.key)] 45)) ∧ Blk (wq.alloc (.cells #[.string (txt ka.name), .string (txt ka.key)] 45)) w4.heap.size 41 #[.string (txt nm), .int .i64 (kd : Int), .int .i64 (ty : Int), .int .u64 (lo : Int), .int .u64 (up : Int), .slice B1 ns.length m1, .bool mu, .int .i64 (mo : Int), .slice A1 yf.len c1] ∧ Blk (wq.alloc (.cells #[.string (txt ka.name), .string (txt ka.key)] 45)) (w4.heap.size + 1) 27 #[.string (txt ka.name), .string (txt ka.key), .int .i64 ka.kind, .int .u64 (ka.num : Int), .string (txt ka.text), .slice Ak kk.len ck]) := Lib.hid ⟨HQ.out.1.trans (hal.mono HQ.out.1.size), HQ.out.2.1.below hal HQ.out.2.1.lt, HQ.out.2.2.1.below hal HQ.out.2.2.1.lt⟩
        have l8 : l.length ≤ 8 := by have := H8.out; omega
        clear hlw hal
        go_upto_region 15 with (at_builtin; refine wpList_append_k (P := Tryz.prog) (ts := 31) Tryz.underlying31 Tryz.cellsSt szeroN (by omega) rfl _ _ rfl rfl (w4.heap.size + 2) (.slice Aw l.length cw) l.length (stC l) rfl HOA.out wq.heap.size rfl [.string (txt ka.name), .string (txt ka.key)] HBA.out rfl HON.out (by omega) (by omega) HBS.out ?_; intro v' w' hap)
        obtain ⟨g9, c9, rfl⟩ := hap.2.2.2
        have hb' : Below (w4.heap.size + 2) (wq.alloc (.cells #[.string (txt ka.name), .string (txt ka.key)] 45)) w' := AppK.below hap HOA.out HBS.out
        have HV' : Hid (Below w4.heap.size w4 w' ∧ Blk w' w4.heap.size 41 #[.string (txt nm), .int .i64 (kd : Int), .int .i64 (ty : Int), .int .u64 (lo : Int), .int .u64 (up : Int), .slice B1 ns.length m1, .bool mu, .int .i64 (mo : Int), .slice A1 yf.len c1] ∧ Blk w' (w4.heap.size + 1) 27 #[.string (txt ka.name), .string (txt ka.key), .int .i64 ka.kind, .int .u64 (ka.num : Int), .string (txt ka.text), .slice Ak kk.len ck] ∧ OwnS (w4.heap.size + 2) w' (.slice (some ⟨g9, 0, none⟩) (l.length + 1) c9) (l ++ [stp ka])) := Lib.hid ⟨(HLA.out.1.trans (Below.weaken10 hb' (by omega))), blk_eq10 HLA.out.2.1 (hb'.block _ (by omega)), blk_eq10 HLA.out.2.2 (hb'.block _ (by omega)), ownS_snoc10 hap.1⟩
        clear hap hb' HOA HBA HBS HON HLA q0 q1
        obtain ⟨iz, ⟨⟨nz, kz, tz, lz, uz, nsz, mz, oz⟩, zf⟩, hfz, hgz, hlm⟩ := HNX.out
        obtain ⟨dn, hsrow⟩ : ∃ dn, FrV SpcD 9 8 w0 (fun g => g < w4.heap.size) (fun g => g < w4.heap.size) (.slice A1 yf.len c1) yf := by
         obtain ⟨B', m', A', c', d', e, -, -, h⟩ := SpN.shape HSP.out
         simp only [List.cons.injEq, Value.slice.injEq, and_true] at e
         obtain ⟨-, -, -, -, -, -, -, -, h1, -, h3⟩ := e
         subst h1 h3
         exact ⟨0, h⟩
        obtain ⟨gz, oz', c', cs', e, -, hgb1, hN, hcl⟩ := hsrow.at hgz
        injection e with f1 f2 f3
        subst f1 f3
        obtain ⟨Bz, mz', Az, cz, dz, rfl, -, -, -⟩ := SpN.shape (x := ((⟨nz, kz, tz, lz, uz, nsz, mz, oz⟩ : SpD), zf)) hN
        have HCZ : Hid (∀ V, Below w4.heap.size w4 V → ∀ j u, (#[.string (txt nz), .int .i64 (kz : Int), .int .i64 (tz : Int), .int .u64 (lz : Int), .int .u64 (uz : Int), .slice Bz nsz.length mz', .bool mz, .int .i64 (oz : Int), .slice Az zf.len cz] : Array Value).toList[j]? = some u → V.cell? ⟨gz, oz' + iz * 9 + j, none⟩ = some u) := Lib.hid (fun V hV j u hu =>
         (World.cell?_of_block (w := w0) (a := ⟨gz, oz' + iz * 9 + j, none⟩) ((hV.block gz hgb1).trans (HR.out.2.bel.block gz hgb1).symm)).trans (hcl j u (by simpa using hu)))
        have HFI : Hid (∀ V, Below w4.heap.size w4 V → Calls Tryz.prog 15 #[.agg #[.string (txt nm), .int .i64 (kd : Int), .int .i64 (ty : Int), .int .u64 (lo : Int), .int .u64 (up : Int), .slice B1 ns.length m1, .bool mu, .int .i64 (mo : Int), .slice (some ⟨gz, oz', none⟩) yf.len c1], .string (txt ka.name)] V (AnsP (.int .i64 (iz : Int)) V)) := Lib.hid (fun V hV => by
         have h := rfind_any ka.name (fun q => q < w4.heap.size) (fun q => q < w4.heap.size) (#[.string (txt nm), .int .i64 (kd : Int), .int .i64 (ty : Int), .int .u64 (lo : Int), .int .u64 (up : Int), .slice B1 ns.length m1, .bool mu, .int .i64 (mo : Int), .slice (some ⟨gz, oz', none⟩) yf.len c1] : Array Value).toList ((⟨nm, kd, ty, lo, up, ns, mu, mo⟩ : SpD), yf) V (SpL.keep (b := w4.heap.size) HSP.out (fun q hq => (hV.block q hq).trans (HR.out.2.bel.block q hq).symm) (Nat.le_refl _)) (fun q hq => Nat.lt_of_lt_of_le hq hV.size) HR.out.1.splen
         have e1 : findI ka.name yf = (iz : Int) := by unfold findI; rw [hfz]
         simp only [e1] at h
         exact h)
        have HNZ : Hid (SpL w4.heap.size w0 (#[.string (txt nz), .int .i64 (kz : Int), .int .i64 (tz : Int), .int .u64 (lz : Int), .int .u64 (uz : Int), .slice Bz nsz.length mz', .bool mz, .int .i64 (oz : Int), .slice Az zf.len cz] : Array Value).toList ((⟨nz, kz, tz, lz, uz, nsz, mz, oz⟩ : SpD), zf)) := Lib.hid hN
        have HLM := Lib.hid hlm
        have hiz : iz < yf.len := Fr.get_lt hgz
        have j1 : (iz : Int) < (yf.len : Int) := by omega
        have j2 : (0 : Int) ≤ (iz : Int) := by omega
        have HD15 : Hid (Below w4.heap.size w4 w'.drew ∧ Blk w'.drew (w4.heap.size + 1) 27 #[.string (txt ka.name), .string (txt ka.key), .int .i64 ka.kind, .int .u64 (ka.num : Int), .string (txt ka.text), .slice Ak kk.len ck]) := Lib.hid ⟨HV'.out.1.drew, blk_drew10 HV'.out.2.2.1⟩
        clear hlm hN hcl hfz hgz hsrow dn
        refine wp_region_noPanic ?_
        refine wp_region_held_drew (S := fun _ => True) (by kernel_rfl) trivial (fun hS => ?_)
        refine held_more (S' := fun w'' => Below w4.heap.size w4 w'' ∧ Blk w'' (w4.heap.size + 1) 27 #[.string (txt ka.name), .string (txt ka.key), .int .i64 ka.kind, .int .u64 (ka.num : Int), .string (txt ka.text), .slice Ak kk.len ck]) (fun _ _ => trivial) _ _ _ _ ?_
        replace hS := HD15.out
        refine wpAnyH_take (i := 0) (oi := ?o_l) (v := ?v_l) ?i_l (by kernel_rfl) (by kernel_rfl) (by kernel_rfl) (fun _ _ _ h => h) (Or.inl ⟨?g_l, ?y_l⟩) hS ?_
        case i_l => simp only [layG]; rfl
        case g_l => rfl
        case y_l => (intro w hSw; (go_simp <;> with_reducible rfl))
        (try simp only [Act.put, layS])
        refine wpAnyH_take (i := 3) (oi := ?o_m) (v := ?v_m) ?i_m (by kernel_rfl) (by kernel_rfl) (by kernel_rfl) (fun _ _ _ h => h) (Or.inl ⟨?g_m, ?y_m⟩) hS ?_
        case i_m => simp only [layG]; rfl
        case g_m => rfl
        case y_m => (intro w hSw; (go_simp <;> with_reducible rfl))
        (try simp only [Act.put, layS])
        refine wpAnyH_take (i := 4) (oi := ?o_n) (v := ?v_n) ?i_n (by kernel_rfl) (by kernel_rfl) (by kernel_rfl) (fun _ _ _ h => h) (Or.inl ⟨?g_n, ?y_n⟩) hS ?_
        case i_n => simp only [layG]; rfl
        case g_n => rfl
        case y_n => (intro w hSw; have p0 := (hSw.2.cell 0).trans rfl; (go_simp <;> with_reducible rfl))
        (try simp only [Act.put, layS])
        refine wpAnyH_ready (rs := [1, 2]) (by kernel_rfl) (by simp) ?_
        refine (AllReadyH.cons (o := ?or_o) ?ir_o (fun K hK => ?str_o) (AllReadyH.cons (o := ?or_p) ?ir_p (fun K hK => ?str_p) AllReadyH.nil))
        case ir_o => simp only [layG]; rfl
        case ir_p => simp only [layG]; rfl
        case' str_o =>
         rw [if_pos (by rfl)]
         have y8 := (HV'.out.2.1.cell 8).trans rfl
         go_simp
         refine hK.out _ _ ?sr_o (fun hS => ?_)
         case sr_o => (exact hS)
         clear hK K
         (try simp only [Act.put, layS])
         clear y8
         refine wpAnyH_ready (rs := [2]) (by kernel_rfl) (by simp) ?_
         refine (AllReadyH.cons (o := ?or_q) ?ir_q (fun K hK => ?str_q) AllReadyH.nil)
         case ir_q => simp only [layG]; rfl
         rw [if_pos (by rfl)]
         have y0 := (HV'.out.2.1.cell 0).trans rfl
         have y1 := (HV'.out.2.1.cell 1).trans rfl
         have y2 := (HV'.out.2.1.cell 2).trans rfl
         have y3 := (HV'.out.2.1.cell 3).trans rfl
         have y4 := (HV'.out.2.1.cell 4).trans rfl
         have y5 := (HV'.out.2.1.cell 5).trans rfl
         have y6 := (HV'.out.2.1.cell 6).trans rfl
         have y7 := (HV'.out.2.1.cell 7).trans rfl
         have y8 := (HV'.out.2.1.cell 8).trans rfl
         go_simp
         refine hK.out _ _ ?sr_q (fun hS => ?_)
         case sr_q => (exact hS)
         clear hK K
         (try simp only [Act.put, layS])
         clear y0 y1 y2 y3 y4 y5 y6 y7 y8
         refine wpAnyH_ready (rs := [5]) (by kernel_rfl) (by simp) ?_
         refine (AllReadyH.cons (o := ?or_r) ?ir_r (fun K hK => ?str_r) AllReadyH.nil)
         case ir_r => simp only [layG]; rfl
         rw [if_pos (by rfl)]
         go_simp
         refine (HFI.out _ HD15.out.1).mono ?_
         rintro r w5 ⟨rfl, hb5⟩
         have HV5 : Hid (Below w4.heap.size w4 w5 ∧ Blk w5 w4.heap.size 41 #[.string (txt nm), .int .i64 (kd : Int), .int .i64 (ty : Int), .int .u64 (lo : Int), .int .u64 (up : Int), .slice B1 ns.length m1, .bool mu, .int .i64 (mo : Int), .slice (some ⟨gz, oz', none⟩) yf.len c1] ∧ Blk w5 (w4.heap.size + 1) 27 #[.string (txt ka.name), .string (txt ka.key), .int .i64 ka.kind, .int .u64 (ka.num : Int), .string (txt ka.text), .slice Ak kk.len ck] ∧ OwnS (w4.heap.size + 2) w5 (.slice (some ⟨g9, 0, none⟩) (l.length + 1) c9) (l ++ [stp ka])) := Lib.hid ⟨HD15.out.1.trans (hb5.mono HD15.out.1.size), (blk_drew10 HV'.out.2.1).below hb5 (blk_drew10 HV'.out.2.1).lt, HD15.out.2.below hb5 HD15.out.2.lt, OwnS.below (OwnS.keep10 (w' := w'.drew) HV'.out.2.2.2 (fun _ _ => rfl)) hb5⟩
         clear hb5
         go_wp2_with fail
         refine hK.out _ _ ?sr_r (fun hS => ?_)
         case sr_r => (exact ⟨HV5.out.1, HV5.out.2.2.1⟩)
         clear hK K
         (try simp only [Act.put, layS])
         have HE := Lib.hid (st9_10 (.string (txt nz)) (.int .i64 (kz : Int)) (.int .i64 (tz : Int)) (.int .u64 (lz : Int)) (.int .u64 (uz : Int)) (.slice Bz nsz.length mz') (.bool mz) (.int .i64 (oz : Int)) (.slice Az zf.len cz) HV5.out.1 HV5.out.2.1 HV5.out.2.2.1 HV5.out.2.2.2)
         refine wpAnyH_take (i := 6) (oi := ?o_s) (v := ?v_s) ?i_s (by kernel_rfl) (by kernel_rfl) (by kernel_rfl) (fun _ _ _ h => h) (Or.inl ⟨?g_s, ?y_s⟩) hS ?_
         case i_s => simp only [layG]; rfl
         case g_s => rfl
         case y_s => (intro w hSw; (go_simp <;> with_reducible rfl))
         (try simp only [Act.put, layS])
         refine wpAnyH_take (i := 7) (oi := ?o_t) (v := ?v_t) ?i_t (by kernel_rfl) (by kernel_rfl) (by kernel_rfl) (fun _ _ _ h => h) (Or.inl ⟨?g_t, ?y_t⟩) hS ?_
         case i_t => simp only [layG]; rfl
         case g_t => rfl
         case y_t => (intro w hSw; have x0 : w.cell? ⟨gz, oz' + iz * 9, none⟩ = some (.string (txt nz)) := HCZ.out _ hSw.1 0 _ rfl; have x1 := HCZ.out _ hSw.1 1 _ rfl; have x2 := HCZ.out _ hSw.1 2 _ rfl; have x3 := HCZ.out _ hSw.1 3 _ rfl; have x4 := HCZ.out _ hSw.1 4 _ rfl; have x5 := HCZ.out _ hSw.1 5 _ rfl; have x6 := HCZ.out _ hSw.1 6 _ rfl; have x7 := HCZ.out _ hSw.1 7 _ rfl; have x8 := HCZ.out _ hSw.1 8 _ rfl; (go_simp <;> with_reducible rfl))
         (try simp only [Act.put, layS])
         refine wpAnyH_ready (rs := [8]) (by kernel_rfl) (by simp) ?_
         refine (AllReadyH.cons (o := ?or_u) ?ir_u (fun K hK => ?str_u) AllReadyH.nil)
         case ir_u => simp only [layG]; rfl
         rw [if_pos (by rfl)]
         have fz0 : w5.frozen? ⟨w4.heap.size, 0, none⟩ = false := HV5.out.2.1.frozen 0
         have fq0 := (HV5.out.2.1.cell 0).trans rfl
         have fz1 : w5.frozen? ⟨w4.heap.size, 1, none⟩ = false := HV5.out.2.1.frozen 1
         have fq1 := (HV5.out.2.1.cell 1).trans rfl
         have fz2 : w5.frozen? ⟨w4.heap.size, 2, none⟩ = false := HV5.out.2.1.frozen 2
         have fq2 := (HV5.out.2.1.cell 2).trans rfl
         have fz3 : w5.frozen? ⟨w4.heap.size, 3, none⟩ = false := HV5.out.2.1.frozen 3
         have fq3 := (HV5.out.2.1.cell 3).trans rfl
         have fz4 : w5.frozen? ⟨w4.heap.size, 4, none⟩ = false := HV5.out.2.1.frozen 4
         have fq4 := (HV5.out.2.1.cell 4).trans rfl
         have fz5 : w5.frozen? ⟨w4.heap.size, 5, none⟩ = false := HV5.out.2.1.frozen 5
         have fq5 := (HV5.out.2.1.cell 5).trans rfl
         have fz6 : w5.frozen? ⟨w4.heap.size, 6, none⟩ = false := HV5.out.2.1.frozen 6
         have fq6 := (HV5.out.2.1.cell 6).trans rfl
         have fz7 : w5.frozen? ⟨w4.heap.size, 7, none⟩ = false := HV5.out.2.1.frozen 7
         have fq7 := (HV5.out.2.1.cell 7).trans rfl
         have fz8 : w5.frozen? ⟨w4.heap.size, 8, none⟩ = false := HV5.out.2.1.frozen 8
         have fq8 := (HV5.out.2.1.cell 8).trans rfl
         go_simp
         refine hK.out _ _ ?sr_u (fun hS => ?_)
         case sr_u => (exact ⟨HE.out.1, HE.out.2.2.1⟩)
         clear hK K
         (try simp only [Act.put, layS])
         refine wpAnyH_done (by kernel_rfl) ?_ _
         refine NoPanic.normal ?_
        case' str_p =>
         rw [if_pos (by rfl)]
         have y0 := (HV'.out.2.1.cell 0).trans rfl
         have y1 := (HV'.out.2.1.cell 1).trans rfl
         have y2 := (HV'.out.2.1.cell 2).trans rfl
         have y3 := (HV'.out.2.1.cell 3).trans rfl
         have y4 := (HV'.out.2.1.cell 4).trans rfl
         have y5 := (HV'.out.2.1.cell 5).trans rfl
         have y6 := (HV'.out.2.1.cell 6).trans rfl
         have y7 := (HV'.out.2.1.cell 7).trans rfl
         have y8 := (HV'.out.2.1.cell 8).trans rfl
         go_simp
         refine hK.out _ _ ?sr_p (fun hS => ?_)
         case sr_p => (exact hS)
         clear hK K
         (try simp only [Act.put, layS])
         clear y0 y1 y2 y3 y4 y5 y6 y7 y8
         refine wpAnyH_ready (rs := [1, 5]) (by kernel_rfl) (by simp) ?_
         refine (AllReadyH.cons (o := ?or_v) ?ir_v (fun K hK => ?str_v) (AllReadyH.cons (o := ?or_w) ?ir_w (fun K hK => ?str_w) AllReadyH.nil))
         case ir_v => simp only [layG]; rfl
         case ir_w => simp only [layG]; rfl
         case' str_v =>
          rw [if_pos (by rfl)]
          have y8 := (HV'.out.2.1.cell 8).trans rfl
          go_simp
          refine hK.out _ _ ?sr_v (fun hS => ?_)
          case sr_v => (exact hS)
          clear hK K
          (try simp only [Act.put, layS])
          clear y8
          refine wpAnyH_ready (rs := [5]) (by kernel_rfl) (by simp) ?_
          refine (AllReadyH.cons (o := ?or_x) ?ir_x (fun K hK => ?str_x) AllReadyH.nil)
          case ir_x => simp only [layG]; rfl
          rw [if_pos (by rfl)]
          go_simp
          refine (HFI.out _ HD15.out.1).mono ?_
          rintro r w5 ⟨rfl, hb5⟩
          have HV5 : Hid (Below w4.heap.size w4 w5 ∧ Blk w5 w4.heap.size 41 #[.string (txt nm), .int .i64 (kd : Int), .int .i64 (ty : Int), .int .u64 (lo : Int), .int .u64 (up : Int), .slice B1 ns.length m1, .bool mu, .int .i64 (mo : Int), .slice (some ⟨gz, oz', none⟩) yf.len c1] ∧ Blk w5 (w4.heap.size + 1) 27 #[.string (txt ka.name), .string (txt ka.key), .int .i64 ka.kind, .int .u64 (ka.num : Int), .string (txt ka.text), .slice Ak kk.len ck] ∧ OwnS (w4.heap.size + 2) w5 (.slice (some ⟨g9, 0, none⟩) (l.length + 1) c9) (l ++ [stp ka])) := Lib.hid ⟨HD15.out.1.trans (hb5.mono HD15.out.1.size), (blk_drew10 HV'.out.2.1).below hb5 (blk_drew10 HV'.out.2.1).lt, HD15.out.2.below hb5 HD15.out.2.lt, OwnS.below (OwnS.keep10 (w' := w'.drew) HV'.out.2.2.2 (fun _ _ => rfl)) hb5⟩
          clear hb5
          go_wp2_with fail
          refine hK.out _ _ ?sr_x (fun hS => ?_)
          case sr_x => (exact ⟨HV5.out.1, HV5.out.2.2.1⟩)
          clear hK K
          (try simp only [Act.put, layS])
          have HE := Lib.hid (st9_10 (.string (txt nz)) (.int .i64 (kz : Int)) (.int .i64 (tz : Int)) (.int .u64 (lz : Int)) (.int .u64 (uz : Int)) (.slice Bz nsz.length mz') (.bool mz) (.int .i64 (oz : Int)) (.slice Az zf.len cz) HV5.out.1 HV5.out.2.1 HV5.out.2.2.1 HV5.out.2.2.2)
          refine wpAnyH_take (i := 6) (oi := ?o_y) (v := ?v_y) ?i_y (by kernel_rfl) (by kernel_rfl) (by kernel_rfl) (fun _ _ _ h => h) (Or.inl ⟨?g_y, ?y_y⟩) hS ?_
          case i_y => simp only [layG]; rfl
          case g_y => rfl
          case y_y => (intro w hSw; (go_simp <;> with_reducible rfl))
          (try simp only [Act.put, layS])
          refine wpAnyH_take (i := 7) (oi := ?o_z) (v := ?v_z) ?i_z (by kernel_rfl) (by kernel_rfl) (by kernel_rfl) (fun _ _ _ h => h) (Or.inl ⟨?g_z, ?y_z⟩) hS ?_
          case i_z => simp only [layG]; rfl
          case g_z => rfl
          case y_z => (intro w hSw; have x0 : w.cell? ⟨gz, oz' + iz * 9, none⟩ = some (.string (txt nz)) := HCZ.out _ hSw.1 0 _ rfl; have x1 := HCZ.out _ hSw.1 1 _ rfl; have x2 := HCZ.out _ hSw.1 2 _ rfl; have x3 := HCZ.out _ hSw.1 3 _ rfl; have x4 := HCZ.out _ hSw.1 4 _ rfl; have x5 := HCZ.out _ hSw.1 5 _ rfl; have x6 := HCZ.out _ hSw.1 6 _ rfl; have x7 := HCZ.out _ hSw.1 7 _ rfl; have x8 := HCZ.out _ hSw.1 8 _ rfl; (go_simp <;> with_reducible rfl))
          (try simp only [Act.put, layS])
          refine wpAnyH_ready (rs := [8]) (by kernel_rfl) (by simp) ?_
          refine (AllReadyH.cons (o := ?or_10) ?ir_10 (fun K hK => ?str_10) AllReadyH.nil)
          case ir_10 => simp only [layG]; rfl
          rw [if_pos (by rfl)]
          have fz0 : w5.frozen? ⟨w4.heap.size, 0, none⟩ = false := HV5.out.2.1.frozen 0
          have fq0 := (HV5.out.2.1.cell 0).trans rfl
          have fz1 : w5.frozen? ⟨w4.heap.size, 1, none⟩ = false := HV5.out.2.1.frozen 1
          have fq1 := (HV5.out.2.1.cell 1).trans rfl
          have fz2 : w5.frozen? ⟨w4.heap.size, 2, none⟩ = false := HV5.out.2.1.frozen 2
          have fq2 := (HV5.out.2.1.cell 2).trans rfl
          have fz3 : w5.frozen? ⟨w4.heap.size, 3, none⟩ = false := HV5.out.2.1.frozen 3
          have fq3 := (HV5.out.2.1.cell 3).trans rfl
          have fz4 : w5.frozen? ⟨w4.heap.size, 4, none⟩ = false := HV5.out.2.1.frozen 4
          have fq4 := (HV5.out.2.1.cell 4).trans rfl
          have fz5 : w5.frozen? ⟨w4.heap.size, 5, none⟩ = false := HV5.out.2.1.frozen 5
          have fq5 := (HV5.out.2.1.cell 5).trans rfl
          have fz6 : w5.frozen? ⟨w4.heap.size, 6, none⟩ = false := HV5.out.2.1.frozen 6
          have fq6 := (HV5.out.2.1.cell 6).trans rfl
          have fz7 : w5.frozen? ⟨w4.heap.size, 7, none⟩ = false := HV5.out.2.1.frozen 7
          have fq7 := (HV5.out.2.1.cell 7).trans rfl
          have fz8 : w5.frozen? ⟨w4.heap.size, 8, none⟩ = false := HV5.out.2.1.frozen 8
          have fq8 := (HV5.out.2.1.cell 8).trans rfl
          go_simp
          refine hK.out _ _ ?sr_10 (fun hS => ?_)
          case sr_10 => (exact ⟨HE.out.1, HE.out.2.2.1⟩)
          clear hK K
          (try simp only [Act.put, layS])
          refine wpAnyH_done (by kernel_rfl) ?_ _
          refine NoPanic.normal ?_
         case' str_w =>
          rw [if_pos (by rfl)]
          go_simp
          refine (HFI.out _ HD15.out.1).mono ?_
          rintro r w5 ⟨rfl, hb5⟩
          have HV5 : Hid (Below w4.heap.size w4 w5 ∧ Blk w5 w4.heap.size 41 #[.string (txt nm), .int .i64 (kd : Int), .int .i64 (ty : Int), .int .u64 (lo : Int), .int .u64 (up : Int), .slice B1 ns.length m1, .bool mu, .int .i64 (mo : Int), .slice (some ⟨gz, oz', none⟩) yf.len c1] ∧ Blk w5 (w4.heap.size + 1) 27 #[.string (txt ka.name), .string (txt ka.key), .int .i64 ka.kind, .int .u64 (ka.num : Int), .string (txt ka.text), .slice Ak kk.len ck] ∧ OwnS (w4.heap.size + 2) w5 (.slice (some ⟨g9, 0, none⟩) (l.length + 1) c9) (l ++ [stp ka])) := Lib.hid ⟨HD15.out.1.trans (hb5.mono HD15.out.1.size), (blk_drew10 HV'.out.2.1).below hb5 (blk_drew10 HV'.out.2.1).lt, HD15.out.2.below hb5 HD15.out.2.lt, OwnS.below (OwnS.keep10 (w' := w'.drew) HV'.out.2.2.2 (fun _ _ => rfl)) hb5⟩
          clear hb5
          go_wp2_with fail
          refine hK.out _ _ ?sr_w (fun hS => ?_)
          case sr_w => (exact ⟨HV5.out.1, HV5.out.2.2.1⟩)
          clear hK K
          (try simp only [Act.put, layS])
          refine wpAnyH_ready (rs := [1]) (by kernel_rfl) (by simp) ?_
          refine (AllReadyH.cons (o := ?or_11) ?ir_11 (fun K hK => ?str_11) AllReadyH.nil)
          case ir_11 => simp only [layG]; rfl
          rw [if_pos (by rfl)]
          have y8 := (HV5.out.2.1.cell 8).trans rfl
          go_simp
          refine hK.out _ _ ?sr_11 (fun hS => ?_)
          case sr_11 => (exact hS)
          clear hK K
          (try simp only [Act.put, layS])
          clear y8
          have HE := Lib.hid (st9_10 (.string (txt nz)) (.int .i64 (kz : Int)) (.int .i64 (tz : Int)) (.int .u64 (lz : Int)) (.int .u64 (uz : Int)) (.slice Bz nsz.length mz') (.bool mz) (.int .i64 (oz : Int)) (.slice Az zf.len cz) HV5.out.1 HV5.out.2.1 HV5.out.2.2.1 HV5.out.2.2.2)
          refine wpAnyH_take (i := 6) (oi := ?o_12) (v := ?v_12) ?i_12 (by kernel_rfl) (by kernel_rfl) (by kernel_rfl) (fun _ _ _ h => h) (Or.inl ⟨?g_12, ?y_12⟩) hS ?_
          case i_12 => simp only [layG]; rfl
          case g_12 => rfl
          case y_12 => (intro w hSw; (go_simp <;> with_reducible rfl))
          (try simp only [Act.put, layS])
          refine wpAnyH_take (i := 7) (oi := ?o_13) (v := ?v_13) ?i_13 (by kernel_rfl) (by kernel_rfl) (by kernel_rfl) (fun _ _ _ h => h) (Or.inl ⟨?g_13, ?y_13⟩) hS ?_
          case i_13 => simp only [layG]; rfl
          case g_13 => rfl
          case y_13 => (intro w hSw; have x0 : w.cell? ⟨gz, oz' + iz * 9, none⟩ = some (.string (txt nz)) := HCZ.out _ hSw.1 0 _ rfl; have x1 := HCZ.out _ hSw.1 1 _ rfl; have x2 := HCZ.out _ hSw.1 2 _ rfl; have x3 := HCZ.out _ hSw.1 3 _ rfl; have x4 := HCZ.out _ hSw.1 4 _ rfl; have x5 := HCZ.out _ hSw.1 5 _ rfl; have x6 := HCZ.out _ hSw.1 6 _ rfl; have x7 := HCZ.out _ hSw.1 7 _ rfl; have x8 := HCZ.out _ hSw.1 8 _ rfl; (go_simp <;> with_reducible rfl))
          (try simp only [Act.put, layS])
          refine wpAnyH_ready (rs := [8]) (by kernel_rfl) (by simp) ?_
          refine (AllReadyH.cons (o := ?or_14) ?ir_14 (fun K hK => ?str_14) AllReadyH.nil)
          case ir_14 => simp only [layG]; rfl
          rw [if_pos (by rfl)]
          have fz0 : w5.frozen? ⟨w4.heap.size, 0, none⟩ = false := HV5.out.2.1.frozen 0
          have fq0 := (HV5.out.2.1.cell 0).trans rfl
          have fz1 : w5.frozen? ⟨w4.heap.size, 1, none⟩ = false := HV5.out.2.1.frozen 1
          have fq1 := (HV5.out.2.1.cell 1).trans rfl
          have fz2 : w5.frozen? ⟨w4.heap.size, 2, none⟩ = false := HV5.out.2.1.frozen 2
          have fq2 := (HV5.out.2.1.cell 2).trans rfl
          have fz3 : w5.frozen? ⟨w4.heap.size, 3, none⟩ = false := HV5.out.2.1.frozen 3
          have fq3 := (HV5.out.2.1.cell 3).trans rfl
          have fz4 : w5.frozen? ⟨w4.heap.size, 4, none⟩ = false := HV5.out.2.1.frozen 4
          have fq4 := (HV5.out.2.1.cell 4).trans rfl
          have fz5 : w5.frozen? ⟨w4.heap.size, 5, none⟩ = false := HV5.out.2.1.frozen 5
          have fq5 := (HV5.out.2.1.cell 5).trans rfl
          have fz6 : w5.frozen? ⟨w4.heap.size, 6, none⟩ = false := HV5.out.2.1.frozen 6
          have fq6 := (HV5.out.2.1.cell 6).trans rfl
          have fz7 : w5.frozen? ⟨w4.heap.size, 7, none⟩ = false := HV5.out.2.1.frozen 7
          have fq7 := (HV5.out.2.1.cell 7).trans rfl
          have fz8 : w5.frozen? ⟨w4.heap.size, 8, none⟩ = false := HV5.out.2.1.frozen 8
          have fq8 := (HV5.out.2.1.cell 8).trans rfl
          go_simp
          refine hK.out _ _ ?sr_14 (fun hS => ?_)
          case sr_14 => (exact ⟨HE.out.1, HE.out.2.2.1⟩)
          clear hK K
          (try simp only [Act.put, layS])
          refine wpAnyH_done (by kernel_rfl) ?_ _
          refine NoPanic.normal ?_
        all_goals clear hS
        all_goals
         have HLR : Hid (LsR w4 (l ++ [stp ka]) (ka, kk) ((⟨nz, kz, tz, lz, uz, nsz, mz, oz⟩ : SpD), zf) (.slice (some ⟨g9, 0, none⟩) (l.length + 1) c9) #[.string (txt nz), .int .i64 (kz : Int), .int .i64 (tz : Int), .int .u64 (lz : Int), .int .u64 (uz : Int), .slice Bz nsz.length mz', .bool mz, .int .i64 (oz : Int), .slice Az zf.len cz] #[.string (txt ka.name), .string (txt ka.key), .int .i64 ka.kind, .int .u64 (ka.num : Int), .string (txt ka.text), .slice Ak kk.len ck] (set9 w5 w4.heap.size (.string (txt nz)) (.int .i64 (kz : Int)) (.int .i64 (tz : Int)) (.int .u64 (lz : Int)) (.int .u64 (uz : Int)) (.slice Bz nsz.length mz') (.bool mz) (.int .i64 (oz : Int)) (.slice Az zf.len cz))) := Lib.hid ⟨HE.out.1, HE.out.2.1, HE.out.2.2.1, LieB.make (HRK.out.keep (fun q hq => (HE.out.1.block q hq).trans (HR.out.2.bel.block q hq).symm) (Nat.le_refl _)), SpL.keep (b := w4.heap.size) HNZ.out (fun q hq => (HE.out.1.block q hq).trans (HR.out.2.bel.block q hq).symm) (Nat.le_refl _), HE.out.2.2.2⟩
         go_wp2
         go_roundw
         case rel => exact ⟨l ++ [stp ka], (ka, kk), ((⟨nz, kz, tz, lz, uz, nsz, mz, oz⟩ : SpD), zf), #[.string (txt nz), .int .i64 (kz : Int), .int .i64 (tz : Int), .int .u64 (lz : Int), .int .u64 (uz : Int), .slice Bz nsz.length mz', .bool mz, .int .i64 (oz : Int), .slice Az zf.len cz], #[.string (txt ka.name), .string (txt ka.key), .int .i64 ka.kind, .int .u64 (ka.num : Int), .string (txt ka.text), .slice Ak kk.len ck], by have := HLT.out; simpa using this, by simp, Lib.hid ⟨HLM.out, HLR.out⟩⟩
         case measure => have := HLT.out; simp [intOf]; omega
      ·have i3 : ¬ (0 : Int) < (xf.len : Int) := by omega
       have HB9 := Lib.hid HR.out.2.b9
       have HNW : Hid (Blk w0 w.heap.size 27 #[.string (txt a.name), .string (txt a.key), .int .i64 a.kind, .int .u64 (a.num : Int), .string (txt a.text), .slice A f.len c]) := Lib.hid (blk_eq10 HN4.out (HR.out.2.bel.block _ HN4.out.lt))
       have l8 : l.length ≤ 8 := by have := H8.out; omega
       by_cases hl0 : l.length = 0
       ·have k0 : ((l.length : Int) == 0) = true := beq_iff_eq.2 (by omega)
        go_wp2
        go_ret
        exact ⟨rfl, HBW.out⟩
       ·have k0 : ((l.length : Int) == 0) = false := beq_eq_false_iff_ne.2 (by omega)
        have HLN : Hid (l ≠ []) := Lib.hid (fun e => hl0 (by rw [e]; rfl))
        clear hl0
        have y0 := (HB9.out.cell 0).trans rfl
        have y1 := (HB9.out.cell 1).trans rfl
        by_cases hcls : nm = nClass ∧ kd = 3
        ·have k1 : ((txt nm).toList == [99, 108, 97, 115, 115]) = true := by rw [txt_toList, hcls.1]; rfl
         have k2 : ((kd : Int) == 3) = true := beq_iff_eq.2 (by have := hcls.2; omega)
         clear hcls
         go_wp2
         go_ret
         exact ⟨rfl, HBW.out⟩
        ·have HZ : Hid ((CheckX v (cutX (a, f) l)) = if mu = true then (25, l) else (0, [])) := Lib.hid (less_check HM.out HLN.out HR.out.1.get (by rw [← HRX.out]; exact HR.out.1.down) hcls)
         have HCX : Hid (CutX (a, f) l = (cutX (a, f) l, 0)) := Lib.hid (CutX_is HLN.out HR.out.1.get)
         have HOC : Hid (OkN (cutX (a, f) l) ∧ sizeX (cutX (a, f) l) ≤ 1000000) := Lib.hid ⟨ok_cut l (a, f) ⟨HOKA.out, HOK.out⟩, by have h := cut_size l (a, f) (xa, xf) HLN.out HR.out.1.get; have := HF9.out; simp only [sizeX] at h ⊢; omega⟩
         have HCT := Lib.hid (rCut_any w.heap.size (a, f) l _ (.slice Aw l.length cw) w0 HBW.out.size (LieB.make (HROW.out.under HBW.out (Nat.le_refl _) (Nat.le_refl _))) (HR.out.2.own.way) HF.out (by omega))
         rw [HCX.out] at HCT
         obtain ⟨mt, hmt⟩ : ∃ mt, mt = cutX (a, f) l := ⟨_, rfl⟩
         rw [← hmt] at HCT HZ HOC
         obtain ⟨ma, mf⟩ := mt
         clear hmt HCX
         unfold ndC at HCT
         have hkc : (((txt nm).toList == [99, 108, 97, 115, 115]) = true ∧ ((kd : Int) == 3) = false) ∨ ((txt nm).toList == [99, 108, 97, 115, 115]) = false := by
          by_cases hn : nm = nClass
          ·exact .inl ⟨by rw [txt_toList, hn]; rfl, beq_eq_false_iff_ne.2 (fun e => hcls ⟨hn, by omega⟩)⟩
          ·refine .inr ?_
           rw [txt_toList]
           cases hb : (nm == ([99, 108, 97, 115, 115] : List UInt8)) with
           | false => rfl
           | true => exact absurd (eq_of_beq hb) hn
         clear hcls
         have q0 := (HNW.out.cell 0).trans rfl
         have q1 := (HNW.out.cell 1).trans rfl
         have q2 := (HNW.out.cell 2).trans rfl
         have q3 := (HNW.out.cell 3).trans rfl
         have q4 := (HNW.out.cell 4).trans rfl
         have q5 := (HNW.out.cell 5).trans rfl
         go_upto_region 16 with (fail)
         go_cut [95] (fun s wx => s = .bool false ∧ wx = w0)
         case first =>
          rcases hkc with ⟨k1, k2⟩ | k1
          ·go_wp2_with fail
           go_meet
           exact ⟨rfl, rfl⟩
          ·go_wp2_with fail
           go_meet
           exact ⟨rfl, rfl⟩
         case rest =>
          obtain ⟨rfl, rfl⟩ := hcut
          clear hkc
          go_wp2_with fail
          refine HCT.out.mono ?_
          rintro r w5 ⟨cs5, rfl, hl5, hb5⟩
          obtain ⟨Am, cm, rfl, -⟩ := hl5.shape
          have HB5 := Lib.hid (HBW.out.trans (hb5.mono HBW.out.size))
          have HM5 := Lib.hid ((hl5.lies HB5.out.size))
          have HB9' := Lib.hid (HB9.out.below hb5 HB9.out.lt)
          have HOWL := Lib.hid (HR.out.2.own.below hb5)
          clear hl5 hb5 q0 q1 q2 q3 q4 q5 y0 y1
          unfold ndC at HM5 ⊢
          have hy1 : Below w5.heap.size w5 (w5.alloc (.cells #[.string (txt ma.name), .string (txt ma.key), .int .i64 ma.kind, .int .u64 (ma.num : Int), .string (txt ma.text), .slice Am mf.len cm] 27)) := (Below.refl _ _).alloc (Nat.le_refl _) _
          obtain ⟨A', c', e, hrm⟩ := LieB.shape (x := (ma, mf)) HM5.out
          simp only [List.cons.injEq, Value.slice.injEq, and_true, true_and] at e
          obtain ⟨e1, e3⟩ := e
          subst e1 e3
          have HRM := Lib.hid (hrm.under hy1 (Nat.le_refl _) hy1.size)
          have HBM := Lib.hid (Blk.new w5 27 #[.string (txt ma.name), .string (txt ma.key), .int .i64 ma.kind, .int .u64 (ma.num : Int), .string (txt ma.text), .slice Am mf.len cm])
          have HMW : Hid (Below w.heap.size w (w5.alloc (.cells #[.string (txt ma.name), .string (txt ma.key), .int .i64 ma.kind, .int .u64 (ma.num : Int), .string (txt ma.text), .slice Am mf.len cm] 27))) := Lib.hid (HB5.out.trans (hy1.mono HB5.out.size))
          have HB9N := Lib.hid (HB9'.out.below hy1 HB9'.out.lt)
          have HOWN := Lib.hid (HOWL.out.below hy1)
          have HSM : Hid (mf.size ≤ 1000000) := Lib.hid (by have := HOC.out.2; simp only [sizeX] at this; omega)
          clear hrm hy1
          have q0 := (HBM.out.cell 0).trans rfl
          have q1 := (HBM.out.cell 1).trans rfl
          have q2 := (HBM.out.cell 2).trans rfl
          have q3 := (HBM.out.cell 3).trans rfl
          have q4 := (HBM.out.cell 4).trans rfl
          have q5 := (HBM.out.cell 5).trans rfl
          go_wp2_with fail
          refine (vcheck_any v ma mf Am cm _ HRM.out HSM.out HOC.out.1.2).mono ?_
          rw [HZ.out]
          rintro r w6 ⟨v6, rfl, hv6, hb6⟩
          have HV6 := Lib.hid hv6
          have HB6 := Lib.hid (HMW.out.trans (hb6.mono HMW.out.size))
          have HB96 := Lib.hid (HB9N.out.below hb6 HB9N.out.lt)
          have HOW6 := Lib.hid (HOWN.out.below hb6)
          clear hv6 hb6 q0 q1 q2 q3 q4 q5
          have y6 := (HB96.out.cell 6).trans rfl
          cases mu with
          | true =>
           simp only [if_true] at HV6 ⊢
           go_wp2_with fail
           refine (rsteps10_any l l v6 (.slice Aw l.length cw) _ HV6.out HOW6.out.way (by omega) (by omega)).mono ?_
           rintro r w7 ⟨rfl, hb7⟩
           have HB7 := Lib.hid (HB6.out.trans (hb7.mono HB6.out.size))
           clear hb7
           simp only [decide_true]
           go_wp2
           go_ret
           exact ⟨rfl, HB7.out⟩
          | false =>
           simp only [Bool.false_eq_true, if_false] at HV6 ⊢
           go_wp2
           go_ret
           exact ⟨rfl, HB6.out⟩
     ·have i2 : ¬ (l.length : Int) < (bl.length : Int) := by omega
      have HB9 := Lib.hid HR.out.2.b9
      have HNW : Hid (Blk w0 w.heap.size 27 #[.string (txt a.name), .string (txt a.key), .int .i64 a.kind, .int .u64 (a.num : Int), .string (txt a.text), .slice A f.len c]) := Lib.hid (blk_eq10 HN4.out (HR.out.2.bel.block _ HN4.out.lt))
      have l8 : l.length ≤ 8 := by have := H8.out; omega
      by_cases hl0 : l.length = 0
      ·have k0 : ((l.length : Int) == 0) = true := beq_iff_eq.2 (by omega)
       go_wp2
       go_ret
       exact ⟨rfl, HBW.out⟩
      ·have k0 : ((l.length : Int) == 0) = false := beq_eq_false_iff_ne.2 (by omega)
       have HLN : Hid (l ≠ []) := Lib.hid (fun e => hl0 (by rw [e]; rfl))
       clear hl0
       have y0 := (HB9.out.cell 0).trans rfl
       have y1 := (HB9.out.cell 1).trans rfl
       by_cases hcls : nm = nClass ∧ kd = 3
       ·have k1 : ((txt nm).toList == [99, 108, 97, 115, 115]) = true := by rw [txt_toList, hcls.1]; rfl
        have k2 : ((kd : Int) == 3) = true := beq_iff_eq.2 (by have := hcls.2; omega)
        clear hcls
        go_wp2
        go_ret
        exact ⟨rfl, HBW.out⟩
       ·have HZ : Hid ((CheckX v (cutX (a, f) l)) = if mu = true then (25, l) else (0, [])) := Lib.hid (less_check HM.out HLN.out HR.out.1.get (by rw [← HRX.out]; exact HR.out.1.down) hcls)
        have HCX : Hid (CutX (a, f) l = (cutX (a, f) l, 0)) := Lib.hid (CutX_is HLN.out HR.out.1.get)
        have HOC : Hid (OkN (cutX (a, f) l) ∧ sizeX (cutX (a, f) l) ≤ 1000000) := Lib.hid ⟨ok_cut l (a, f) ⟨HOKA.out, HOK.out⟩, by have h := cut_size l (a, f) (xa, xf) HLN.out HR.out.1.get; have := HF9.out; simp only [sizeX] at h ⊢; omega⟩
        have HCT := Lib.hid (rCut_any w.heap.size (a, f) l _ (.slice Aw l.length cw) w0 HBW.out.size (LieB.make (HROW.out.under HBW.out (Nat.le_refl _) (Nat.le_refl _))) (HR.out.2.own.way) HF.out (by omega))
        rw [HCX.out] at HCT
        obtain ⟨mt, hmt⟩ : ∃ mt, mt = cutX (a, f) l := ⟨_, rfl⟩
        rw [← hmt] at HCT HZ HOC
        obtain ⟨ma, mf⟩ := mt
        clear hmt HCX
        unfold ndC at HCT
        have hkc : (((txt nm).toList == [99, 108, 97, 115, 115]) = true ∧ ((kd : Int) == 3) = false) ∨ ((txt nm).toList == [99, 108, 97, 115, 115]) = false := by
         by_cases hn : nm = nClass
         ·exact .inl ⟨by rw [txt_toList, hn]; rfl, beq_eq_false_iff_ne.2 (fun e => hcls ⟨hn, by omega⟩)⟩
         ·refine .inr ?_
          rw [txt_toList]
          cases hb : (nm == ([99, 108, 97, 115, 115] : List UInt8)) with
          | false => rfl
          | true => exact absurd (eq_of_beq hb) hn
        clear hcls
        have q0 := (HNW.out.cell 0).trans rfl
        have q1 := (HNW.out.cell 1).trans rfl
        have q2 := (HNW.out.cell 2).trans rfl
        have q3 := (HNW.out.cell 3).trans rfl
        have q4 := (HNW.out.cell 4).trans rfl
        have q5 := (HNW.out.cell 5).trans rfl
        go_upto_region 16 with (fail)
        go_cut [95] (fun s wx => s = .bool false ∧ wx = w0)
        case first =>
         rcases hkc with ⟨k1, k2⟩ | k1
         ·go_wp2_with fail
          go_meet
          exact ⟨rfl, rfl⟩
         ·go_wp2_with fail
          go_meet
          exact ⟨rfl, rfl⟩
        case rest =>
         obtain ⟨rfl, rfl⟩ := hcut
         clear hkc
         go_wp2_with fail
         refine HCT.out.mono ?_
         rintro r w5 ⟨cs5, rfl, hl5, hb5⟩
         obtain ⟨Am, cm, rfl, -⟩ := hl5.shape
         have HB5 := Lib.hid (HBW.out.trans (hb5.mono HBW.out.size))
         have HM5 := Lib.hid ((hl5.lies HB5.out.size))
         have HB9' := Lib.hid (HB9.out.below hb5 HB9.out.lt)
         have HOWL := Lib.hid (HR.out.2.own.below hb5)
         clear hl5 hb5 q0 q1 q2 q3 q4 q5 y0 y1
         unfold ndC at HM5 ⊢
         have hy1 : Below w5.heap.size w5 (w5.alloc (.cells #[.string (txt ma.name), .string (txt ma.key), .int .i64 ma.kind, .int .u64 (ma.num : Int), .string (txt ma.text), .slice Am mf.len cm] 27)) := (Below.refl _ _).alloc (Nat.le_refl _) _
         obtain ⟨A', c', e, hrm⟩ := LieB.shape (x := (ma, mf)) HM5.out
         simp only [List.cons.injEq, Value.slice.injEq, and_true, true_and] at e
         obtain ⟨e1, e3⟩ := e
         subst e1 e3
         have HRM := Lib.hid (hrm.under hy1 (Nat.le_refl _) hy1.size)
         have HBM := Lib.hid (Blk.new w5 27 #[.string (txt ma.name), .string (txt ma.key), .int .i64 ma.kind, .int .u64 (ma.num : Int), .string (txt ma.text), .slice Am mf.len cm])
         have HMW : Hid (Below w.heap.size w (w5.alloc (.cells #[.string (txt ma.name), .string (txt ma.key), .int .i64 ma.kind, .int .u64 (ma.num : Int), .string (txt ma.text), .slice Am mf.len cm] 27))) := Lib.hid (HB5.out.trans (hy1.mono HB5.out.size))
         have HB9N := Lib.hid (HB9'.out.below hy1 HB9'.out.lt)
         have HOWN := Lib.hid (HOWL.out.below hy1)
         have HSM : Hid (mf.size ≤ 1000000) := Lib.hid (by have := HOC.out.2; simp only [sizeX] at this; omega)
         clear hrm hy1
         have q0 := (HBM.out.cell 0).trans rfl
         have q1 := (HBM.out.cell 1).trans rfl
         have q2 := (HBM.out.cell 2).trans rfl
         have q3 := (HBM.out.cell 3).trans rfl
         have q4 := (HBM.out.cell 4).trans rfl
         have q5 := (HBM.out.cell 5).trans rfl
         go_wp2_with fail
         refine (vcheck_any v ma mf Am cm _ HRM.out HSM.out HOC.out.1.2).mono ?_
         rw [HZ.out]
         rintro r w6 ⟨v6, rfl, hv6, hb6⟩
         have HV6 := Lib.hid hv6
         have HB6 := Lib.hid (HMW.out.trans (hb6.mono HMW.out.size))
         have HB96 := Lib.hid (HB9N.out.below hb6 HB9N.out.lt)
         have HOW6 := Lib.hid (HOWN.out.below hb6)
         clear hv6 hb6 q0 q1 q2 q3 q4 q5
         have y6 := (HB96.out.cell 6).trans rfl
         cases mu with
         | true =>
          simp only [if_true] at HV6 ⊢
          go_wp2_with fail
          refine (rsteps10_any l l v6 (.slice Aw l.length cw) _ HV6.out HOW6.out.way (by omega) (by omega)).mono ?_
          rintro r w7 ⟨rfl, hb7⟩
          have HB7 := Lib.hid (HB6.out.trans (hb7.mono HB6.out.size))
          clear hb7
          simp only [decide_true]
          go_wp2
          go_ret
          exact ⟨rfl, HB7.out⟩
         | false =>
          simp only [Bool.false_eq_true, if_false] at HV6 ⊢
          go_wp2
          go_ret
          exact ⟨rfl, HB6.out⟩
  ·have g8 : (8 : Int) < (bl.length : Int) := by omega
   clear h8
   go_wp2
   go_ret
   exact ⟨rfl, HB2.out⟩
set_option maxRecDepth 100000 in
set_option maxHeartbeats 2000000 in
theorem validLess_long (v : Int) (a : NdD) (f : NdF) (A : Option Addr) (c : Nat) (n : Nat) (Aq : Option Addr) (cq : Nat) (w : World) (hrow : RowT w.heap.size w (.slice A f.len c) f) (hf : f.size ≤ 999990) (HAW : Awake10 w) (hn : 8 < n) :
  Calls Tryz.prog 4 #[.int .i64 v, .agg #[.string (txt a.name), .string (txt a.key), .int .i64 a.kind, .int .u64 (a.num : Int), .string (txt a.text), .slice A f.len c], .slice Aq n cq] w (Ans9 (.bool true) w) := by
 have hx1 : Below w.heap.size w (w.alloc (.cells #[.string (txt a.name), .string (txt a.key), .int .i64 a.kind, .int .u64 (a.num : Int), .string (txt a.text), .slice A f.len c] 27)) := (Below.refl _ _).alloc (Nat.le_refl _) _
 have HAU := Lib.hid (HAW (w.alloc (.cells #[.string (txt a.name), .string (txt a.key), .int .i64 a.kind, .int .u64 (a.num : Int), .string (txt a.text), .slice A f.len c] 27)) hx1)
 have HX1 := Lib.hid hx1
 have HBK := Lib.hid (Blk.new w 27 #[.string (txt a.name), .string (txt a.key), .int .i64 a.kind, .int .u64 (a.num : Int), .string (txt a.text), .slice A f.len c])
 have HROW := Lib.hid hrow
 have HF : Hid (f.size ≤ 1000000) := Lib.hid (by omega)
 have g8 : (8 : Int) < (n : Int) := by omega
 clear hx1 hrow hf HAW hn
 go_enter Tryz.func4, Tryz.ntmps4
 go_wp2_with fail
 refine HAU.out.mono ?_
 rintro r w1 ⟨rfl, hb1⟩
 have HB1 := Lib.hid (HX1.out.trans (hb1.mono HX1.out.size))
 have HN1 := Lib.hid (HBK.out.below hb1 HBK.out.lt)
 clear hb1
 have q0 := (HN1.out.cell 0).trans rfl
 have q1 := (HN1.out.cell 1).trans rfl
 have q2 := (HN1.out.cell 2).trans rfl
 have q3 := (HN1.out.cell 3).trans rfl
 have q4 := (HN1.out.cell 4).trans rfl
 have q5 := (HN1.out.cell 5).trans rfl
 go_wp2_with fail
 refine (rsmall10_any a f A c _ (HROW.out.under HB1.out (Nat.le_refl _) HB1.out.size) HF.out).mono ?_
 rintro r w2 ⟨rfl, hb2⟩
 have HB2 := Lib.hid (HB1.out.trans (hb2.mono HB1.out.size))
 clear hb2 q0 q1 q2 q3 q4 q5
 cases hsm : decide (f.size + 1 ≤ 300) with
 | false =>
  clear hsm
  go_wp2
  go_ret
  exact ⟨rfl, HB2.out⟩
 | true =>
  clear hsm
  go_wp2
  go_ret
  exact ⟨rfl, HB2.out⟩
theorem validLess_any (v : Int) (a : NdD) (f : NdF) (A : Option Addr) (c : Nat) (n : Nat) (Aq : Option Addr) (cq : Nat) (zs : List Int) (w : World) (hrow : RowT w.heap.size w (.slice A f.len c) f) (hf : f.size ≤ 999990) (hoka : OkD a) (hok : OkF f) (HAW : Awake10 w) (hr : IsRow .u8 w Aq n cq zs) :
  Calls Tryz.prog 4 #[.int .i64 v, .agg #[.string (txt a.name), .string (txt a.key), .int .i64 a.kind, .int .u64 (a.num : Int), .string (txt a.text), .slice A f.len c], .slice Aq n cq] w (Ans9 (.bool true) w) := by
 by_cases h : n ≤ 8
 ·obtain ⟨d, l, rfl, -, hrd⟩ := hr.rd (by omega)
  exact validLess_walk v a f A c l d Aq cq w hrow hf hoka hok HAW hrd
 ·exact validLess_long v a f A c n Aq cq w hrow hf HAW (by omega)
end Go.Proofs.YtljjaikejfoanaaGreat
