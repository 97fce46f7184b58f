/- TlvFnF PakItm -/
import Derived.Test.YtodlhgflfcadmaaGreatUM34
set_option linter.unusedSimpArgs false
set_option linter.unusedVariables false
set_option maxRecDepth 100000
set_option maxHeartbeats 8000000
namespace Go.Proofs.YtodlhgflfcadmaaGreat
open Go.RowKit
theorem putC : PutC := by
 intro f w v hv hsz
 have hmf : ∀ (fn : Fn) (first cap : Array Value) (w : World), (Instr.makeFunc fn first cap).run Tryz.prog w = .ok (.func fn first cap) w := fun _ _ _ _ => rfl
 have HC := hHd (checkC f w v hv hsz)
 obtain ⟨A, c, rfl⟩ := hv.shape
 cases hok : f.ok with
 | false =>
  rw [hok] at HC
  have HP : Hid (∀ w', Below w.heap.size w w' → PutP f w (.returned (.tuple #[.slice none 0 0, .int .i64 1])) w') := hHd (fun w' hb => by
   refine ⟨.slice none 0 0, by rw [hok]; rfl, ?_, hb⟩
   rw [hok]; exact Own.nil _ _)
  clear hok
  go_enter Tryz.func32, Tryz.ntmps32
  go_wp2_with fail
  refine HC.out.mono ?_
  rintro r w1 ⟨rfl, hb1⟩
  go_wp2
  go_ret2
  exact HP.out _ hb1
 | true =>
  rw [hok] at HC
  have HP : Hid (∀ w' v, Own w' w.heap.size v f.all → Below w.heap.size w w' → PutP f w (.returned (.tuple #[v, .int .i64 0])) w') := hHd (fun w' v ho hb => by
   refine ⟨v, by rw [hok]; rfl, ?_, hb⟩
   rw [hok]; exact ho)
  clear hok
  have hal : f.all.length ≤ 22000000000000 := by have := f.all_le; omega
  go_enter Tryz.func32, Tryz.ntmps32
  go_wp2_with fail
  refine HC.out.mono ?_
  rintro r w1 ⟨rfl, hb1⟩
  have b2 : SelfE (w1.alloc (.cells #[.func (.func 58) #[] #[.pointer (some ⟨w1.heap.size, 0, none⟩)]] 99)) w1.heap.size := Blk.new w1 _ _
  have hB := hb1.alloc hb1.size (.cells #[.func (.func 58) #[] #[.pointer (some ⟨w1.heap.size, 0, none⟩)]] 99)
  have hv1 : FV DataI (w1.alloc (.cells #[.func (.func 58) #[] #[.pointer (some ⟨w1.heap.size, 0, none⟩)]] 99)) (Lo (w1.alloc (.cells #[.func (.func 58) #[] #[.pointer (some ⟨w1.heap.size, 0, none⟩)]] 99))) (.slice A f.len c) f := hv.kept stays_I (fun g hg => hB.block g hg) (fun _ hg => Nat.lt_of_lt_of_le hg hB.size)
  have HI := hHd (enc_any f _ _ _ hv1 hsz b2)
  have HB := hHd hB
  clear b2 hB hv1 hb1
  go_wp2_with fail
  refine HI.out.mono ?_
  rintro r w2 ⟨v2, rfl, ho, hb2⟩
  have hB2 := HB.out.trans (hb2.mono HB.out.size)
  obtain ⟨d9, -, -, hr9⟩ := ho.rd (by omega)
  obtain ⟨A9, c9, rfl⟩ : ∃ A c, v2 = .slice A f.all.length c := by obtain ⟨A, c, h, _⟩ := hr9; exact ⟨A, c, h⟩
  have ho2 : Own w2 w.heap.size (.slice A9 f.all.length c9) f.all := by
   refine ⟨ho.1, ?_⟩
   rcases ho.2 with h | ⟨g, cap, cur, h1, h2, h3⟩
   ·exact .inl h
   ·exact .inr ⟨g, cap, cur, h1, Nat.le_trans HB.out.size h2, h3⟩
  have HO := hHd ho2
  clear ho ho2 hb2 hr9
  go_wp2
  go_ret2
  exact HP.out _ _ HO.out hB2
theorem Tryz.infoT : (Tryz.prog.info? 48).map (fun i => (i.zero, i.size, i.bytes)) = some (some (.agg #[.int .u64 0, .slice none 0 0, .slice none 0 0]), 3, 56) := by kernel_rfl
theorem zeroI3 : (Value.agg #[.int .u64 0, .slice none 0 0, .slice none 0 0]).cells.size = 3 := by kernel_rfl
def ItsP (F : Fo) (w : World) (r : Ending) (w' : World) : Prop := ∃ v, r = .returned v ∧ OwnF DataI 48 w' w.heap.size v F ∧ Below w.heap.size w w'
def ItmP (t : Nat) (d : List UInt8) (F : Fo) (w : World) (r : Ending) (w' : World) : Prop := ∃ dv kv, r = .returned (.agg #[.int .u64 (t : Int), dv, kv]) ∧ DataI w' (MineI w.heap.size w') dv d ∧ FV DataI w' (MineI w.heap.size w') kv F ∧ Below w.heap.size w w'
def ItemsAt (q : SpF) : Prop := ∀ (sd : SpD) (cs : List Value) (a : NdD) (k : NdF) (Ak : Option Addr) (ck : Nat) (w : World), SpL w.heap.size w cs (sd, q) → SpOk q → q.len ≤ 1000000 → RowT w.heap.size w (.slice Ak k.len ck) k → k.size ≤ 1000000 → OkF k →
 Calls Tryz.prog 26 #[.agg cs.toArray, .agg (cN a (.slice Ak k.len ck))] w (ItsP (itF q 0 k) w)
theorem Blk.set3 {w : World} {b : Nat} {t : TypeId} {y0 y1 y2 : Value} (h : Blk w b t #[y0, y1, y2]) (x0 x1 x2 : Value) : Blk (set3o w b 0 x0 x1 x2) b t #[x0, x1, x2] := by
 have h2 := ((h.set_ 0 x0).set_ 1 x1).set_ 2 x2
 simp only [layS] at h2
 exact h2
theorem set3o_below {w : World} {b o B : Nat} {x0 x1 x2 : Value} (h : B ≤ b) : Below B w (set3o w b o x0 x1 x2) :=
 (((Below.refl B w).setCell (p := ⟨b, o, none⟩) h x0).setCell (p := ⟨b, o + 1, none⟩) h x1).setCell (p := ⟨b, o + 2, none⟩) h x2
theorem dataI_nil (w : World) (S : Nat → Prop) : DataI w S (.slice none 0 0) [] := ⟨0, Rd.nil _ _, fun h => absurd h (by simp)⟩
theorem dataI_set3 {w : World} {B b o : Nat} {x0 x1 x2 dv : Value} {d : List UInt8} (h : DataI w (MineI B w) dv d) (hb : b < B) : DataI (set3o w b o x0 x1 x2) (MineI B (set3o w b o x0 x1 x2)) dv d :=
 stays_I _ _ _ _ _ _ (fun g hg => set3o_far (by have := hg.1; omega)) (fun g hg => ⟨hg.1, by rw [set3o_size]; exact hg.2⟩) h
theorem fv_set3 {w : World} {B b o : Nat} {x0 x1 x2 v : Value} {f : Fo} (h : FV DataI w (MineI B w) v f) (hb : b < B) : FV DataI (set3o w b o x0 x1 x2) (MineI B (set3o w b o x0 x1 x2)) v f :=
 h.kept stays_I (fun g hg => set3o_far (by have := hg.1; omega)) (fun g hg => ⟨hg.1, by rw [set3o_size]; exact hg.2⟩)
theorem dataI_up {w : World} {B B' : Nat} {dv : Value} {d : List UInt8} (h : DataI w (MineI B w) dv d) (hb : B' ≤ B) : DataI w (MineI B' w) dv d :=
 stays_I _ _ _ _ _ _ (fun g hg => rfl) (fun g hg => ⟨Nat.le_trans hb hg.1, hg.2⟩) h
theorem fv_up {w : World} {B B' : Nat} {v : Value} {f : Fo} (h : FV DataI w (MineI B w) v f) (hb : B' ≤ B) : FV DataI w (MineI B' w) v f :=
 h.kept stays_I (fun g hg => rfl) (fun g hg => ⟨Nat.le_trans hb hg.1, hg.2⟩)
theorem itemOf_leaf (t : Nat) (nm : List UInt8) (kd ty lo hi : Nat) (ns : List (List UInt8)) (mu : Bool) (mo : Nat) (B : Option Addr) (m d : Nat) (A : Option Addr) (q : SpF) (c : Nat) (a : NdD) (k : NdF) (Ak : Option Addr) (ck : Nat) (w : World)
  (hv : Vals w d (.slice B ns.length m) (txts ns)) (hl : ns.length ≤ 1000000) (hok : OkD a) (h1 : kd = 1) :
  Calls Tryz.prog 45 #[.agg (cT nm kd ty lo hi ns mu mo B m A q.len c), .int .u64 (t : Int), .agg (cN a (.slice Ak k.len ck))] w (ItmP t (dataX ⟨nm, kd, ty, lo, hi, ns, mu, mo⟩ (vlOf a)) .nil w) := by
 have n1 : ((kd : Int) == 1) = true := by rw [h1]; rfl
 have hb : Below w.heap.size w (((w.alloc (.cells (cT nm kd ty lo hi ns mu mo B m A q.len c) 61)).alloc (.cells (cN a (.slice Ak k.len ck)) 27)).alloc (.cells #[.int .u64 0, .slice none 0 0, .slice none 0 0] 48)) := (bAl.alloc (by simp) _).alloc (by simp; omega) _
 have HB := hHd hb
 have HD := hHd (vdata_any nm kd ty lo hi ns mu mo B m d A q.len c a.kind a.num a.text (((w.alloc (.cells (cT nm kd ty lo hi ns mu mo B m A q.len c) 61)).alloc (.cells (cN a (.slice Ak k.len ck)) 27)).alloc (.cells #[.int .u64 0, .slice none 0 0, .slice none 0 0] 48)) (hv.heap (fun h0 => hb.block d (by obtain ⟨A', c', _, _, h2⟩ := hv; exact (h2 h0).1))) hl hok.num hok.text)
 have HS : Hid (Blk (((w.alloc (.cells (cT nm kd ty lo hi ns mu mo B m A q.len c) 61)).alloc (.cells (cN a (.slice Ak k.len ck)) 27)).alloc (.cells #[.int .u64 0, .slice none 0 0, .slice none 0 0] 48)) w.heap.size 61 (cT nm kd ty lo hi ns mu mo B m A q.len c)) := hHd (((Blk.new w 61 (cT nm kd ty lo hi ns mu mo B m A q.len c)).alloc _).alloc _)
 have HN : Hid (Blk (((w.alloc (.cells (cT nm kd ty lo hi ns mu mo B m A q.len c) 61)).alloc (.cells (cN a (.slice Ak k.len ck)) 27)).alloc (.cells #[.int .u64 0, .slice none 0 0, .slice none 0 0] 48)) (w.heap.size + 1) 27 (cN a (.slice Ak k.len ck))) := hHd ((Blk.newA (w := w.alloc (.cells (cT nm kd ty lo hi ns mu mo B m A q.len c) 61)) (by simp) _ _).alloc _)
 have HZ3 : Hid (Blk (((w.alloc (.cells (cT nm kd ty lo hi ns mu mo B m A q.len c) 61)).alloc (.cells (cN a (.slice Ak k.len ck)) 27)).alloc (.cells #[.int .u64 0, .slice none 0 0, .slice none 0 0] 48)) (w.heap.size + 1 + 1) 48 #[.int .u64 0, .slice none 0 0, .slice none 0 0]) := hHd (Blk.newA (w := (w.alloc (.cells (cT nm kd ty lo hi ns mu mo B m A q.len c) 61)).alloc (.cells (cN a (.slice Ak k.len ck)) 27)) (by simp) _ _)
 obtain ⟨D, hD⟩ : ∃ D, D = dataX ⟨nm, kd, ty, lo, hi, ns, mu, mo⟩ ⟨a.kind, a.num, a.text⟩ := ⟨_, rfl⟩
 rw [← hD] at HD
 rw [show dataX ⟨nm, kd, ty, lo, hi, ns, mu, mo⟩ (vlOf a) = D from hD.symm]
 have HSZ : Hid ((((w.alloc (.cells (cT nm kd ty lo hi ns mu mo B m A q.len c) 61)).alloc (.cells (cN a (.slice Ak k.len ck)) 27)).alloc (.cells #[.int .u64 0, .slice none 0 0, .slice none 0 0] 48)).heap.size = w.heap.size + 3) := hHd (by simp)
 clear hb hv hok hD h1
 obtain ⟨q0, q1, q2, q3, q4, q5, q6, q7, q8⟩ := cl9 HS.out
 obtain ⟨p0, p1, p2, p3, p4, p5⟩ := cl6 HN.out
 go_enter Tryz.func45, Tryz.ntmps45
 go_wp2_with fail
 refine HD.out.mono ?_
 rintro r w4 ⟨dv, rfl, hdv, hb4⟩
 have HB4 := hHd (HB.out.trans (hb4.mono HB.out.size))
 have HZ : Hid (Blk w4 (w.heap.size + 1 + 1) 48 #[.int .u64 0, .slice none 0 0, .slice none 0 0]) := hHd (HZ3.out.below hb4 HZ3.out.lt)
 obtain ⟨A9, c9, rfl⟩ : ∃ A9 c9, dv = .slice A9 D.length c9 := by obtain ⟨_, ⟨A9, c9, e, _⟩, _⟩ := hdv; exact ⟨A9, c9, e⟩
 have HDV := hHd hdv
 clear hb4 hdv
 clear q0 q1 q2 q3 q4 q5 q6 q7 q8 p0 p1 p2 p3 p4 p5
 obtain ⟨z0, z1, z2⟩ := cl3 HZ.out
 have f0 := HZ.out.frozen 0
 have f1 := HZ.out.frozen 1
 have f2 := HZ.out.frozen 2
 go_wp2
 refine bodyPost_ret (results_cell_row rfl _ _ (w.heap.size + 1 + 1) 48 _ (0, 0) _ rfl (HZ.out.set3 _ _ _) Tryz.underlying48 rfl (by kernel_rfl)) rfl ?_
 exact ⟨_, _, rfl, dataI_up (dataI_set3 HDV.out (by simp)) (by simp; omega), (FV.nil _ _), HB4.out.trans (set3o_below (by omega))⟩
theorem itemOf_box (t : Nat) (nm : List UInt8) (kd ty lo hi : Nat) (ns : List (List UInt8)) (mu : Bool) (mo : Nat) (B : Option Addr) (m : Nat) (A : Option Addr) (q : SpF) (c : Nat) (a : NdD) (k : NdF) (Ak : Option Addr) (ck : Nat) (w : World)
  (IH : ItemsAt q) (hsp : SpL w.heap.size w (cT nm kd ty lo hi ns mu mo B m A q.len c).toList (⟨nm, kd, ty, lo, hi, ns, mu, mo⟩, q)) (hq : SpOk q) (hql : q.len ≤ 1000000) (hrow : RowT w.heap.size w (.slice Ak k.len ck) k) (hks : k.size ≤ 1000000) (hok : OkF k) (h1 : kd ≠ 1) (h3 : kd ≠ 3) :
  Calls Tryz.prog 45 #[.agg (cT nm kd ty lo hi ns mu mo B m A q.len c), .int .u64 (t : Int), .agg (cN a (.slice Ak k.len ck))] w (ItmP t [] (itF q 0 k) w) := by
 have n1 : ((kd : Int) == 1) = false := beq_eq_false_iff_ne.2 (by omega)
 have hb : Below w.heap.size w (((w.alloc (.cells (cT nm kd ty lo hi ns mu mo B m A q.len c) 61)).alloc (.cells (cN a (.slice Ak k.len ck)) 27)).alloc (.cells #[.int .u64 0, .slice none 0 0, .slice none 0 0] 48)) := (bAl.alloc (by simp) _).alloc (by simp; omega) _
 have HB := hHd hb
 have HS3 : Hid (Blk (((w.alloc (.cells (cT nm kd ty lo hi ns mu mo B m A q.len c) 61)).alloc (.cells (cN a (.slice Ak k.len ck)) 27)).alloc (.cells #[.int .u64 0, .slice none 0 0, .slice none 0 0] 48)) w.heap.size 61 (cT nm kd ty lo hi ns mu mo B m A q.len c)) := hHd (((Blk.new w 61 (cT nm kd ty lo hi ns mu mo B m A q.len c)).alloc _).alloc _)
 have HN3 : Hid (Blk (((w.alloc (.cells (cT nm kd ty lo hi ns mu mo B m A q.len c) 61)).alloc (.cells (cN a (.slice Ak k.len ck)) 27)).alloc (.cells #[.int .u64 0, .slice none 0 0, .slice none 0 0] 48)) (w.heap.size + 1) 27 (cN a (.slice Ak k.len ck))) := hHd ((Blk.newA (w := w.alloc (.cells (cT nm kd ty lo hi ns mu mo B m A q.len c) 61)) (by simp) _ _).alloc _)
 have HZ3 : Hid (Blk (((w.alloc (.cells (cT nm kd ty lo hi ns mu mo B m A q.len c) 61)).alloc (.cells (cN a (.slice Ak k.len ck)) 27)).alloc (.cells #[.int .u64 0, .slice none 0 0, .slice none 0 0] 48)) (w.heap.size + 1 + 1) 48 #[.int .u64 0, .slice none 0 0, .slice none 0 0]) := hHd (Blk.newA (w := (w.alloc (.cells (cT nm kd ty lo hi ns mu mo B m A q.len c) 61)).alloc (.cells (cN a (.slice Ak k.len ck)) 27)) (by simp) _ _)
 have HSZ : Hid ((((w.alloc (.cells (cT nm kd ty lo hi ns mu mo B m A q.len c) 61)).alloc (.cells (cN a (.slice Ak k.len ck)) 27)).alloc (.cells #[.int .u64 0, .slice none 0 0, .slice none 0 0] 48)).heap.size = (w.heap.size + 1 + 1 + 1)) := hHd (by simp)
 have HSP := hHd hsp
 have HRW := hHd hrow
 have HIH := hHd IH
 have HBD := hHd (And.intro (And.intro hq hql) (And.intro hks hok))
 have hlen : (itF q 0 k).len ≤ 1000000000000 := by
  have h1 := it_len q k 0
  have h2 := k.len_size
  have h3 : q.len * k.len ≤ 1000000 * 1000000 := Nat.mul_le_mul hql (by omega)
  omega
 have HLN := hHd hlen
 clear hb hsp hrow IH hq hql hks hlen
 have n3 : ((kd : Int) == 3) = false := beq_eq_false_iff_ne.2 (by omega)
 clear h1 h3
 have HO6 : Hid (OwnF DataI 48 (((w.alloc (.cells (cT nm kd ty lo hi ns mu mo B m A q.len c) 61)).alloc (.cells (cN a (.slice Ak k.len ck)) 27)).alloc (.cells #[.int .u64 0, .slice none 0 0, .slice none 0 0] 48)) (w.heap.size + 1 + 1 + 1) (Value.slice none 0 0) Fo.nil) := hHd (OwnF.nil _ _)
 have HB36 : Hid (Below (w.heap.size + 1 + 1 + 1) (((w.alloc (.cells (cT nm kd ty lo hi ns mu mo B m A q.len c) 61)).alloc (.cells (cN a (.slice Ak k.len ck)) 27)).alloc (.cells #[.int .u64 0, .slice none 0 0, .slice none 0 0] 48)) (((w.alloc (.cells (cT nm kd ty lo hi ns mu mo B m A q.len c) 61)).alloc (.cells (cN a (.slice Ak k.len ck)) 27)).alloc (.cells #[.int .u64 0, .slice none 0 0, .slice none 0 0] 48))) := hHd (Below.refl _ _)
 have HL6 : Hid ((w.heap.size + 1 + 1 + 1) ≤ (((w.alloc (.cells (cT nm kd ty lo hi ns mu mo B m A q.len c) 61)).alloc (.cells (cN a (.slice Ak k.len ck)) 27)).alloc (.cells #[.int .u64 0, .slice none 0 0, .slice none 0 0] 48)).heap.size) := hHd (by have := HSZ.out; have := HB36.out.size; omega)
 have HFo.nil : Hid (Fo.nil.len ≤ 1) := hHd (by decide)
 go_enter Tryz.func45, Tryz.ntmps45
 have HS : Hid (Blk (((w.alloc (.cells (cT nm kd ty lo hi ns mu mo B m A q.len c) 61)).alloc (.cells (cN a (.slice Ak k.len ck)) 27)).alloc (.cells #[.int .u64 0, .slice none 0 0, .slice none 0 0] 48)) w.heap.size 61 (cT nm kd ty lo hi ns mu mo B m A q.len c)) := hHd (HS3.out.below HB36.out (by omega))
 have HN : Hid (Blk (((w.alloc (.cells (cT nm kd ty lo hi ns mu mo B m A q.len c) 61)).alloc (.cells (cN a (.slice Ak k.len ck)) 27)).alloc (.cells #[.int .u64 0, .slice none 0 0, .slice none 0 0] 48)) (w.heap.size + 1) 27 (cN a (.slice Ak k.len ck))) := hHd (HN3.out.below HB36.out (by omega))
 have hB6 : Below w.heap.size w (((w.alloc (.cells (cT nm kd ty lo hi ns mu mo B m A q.len c) 61)).alloc (.cells (cN a (.slice Ak k.len ck)) 27)).alloc (.cells #[.int .u64 0, .slice none 0 0, .slice none 0 0] 48)) := HB.out.trans (HB36.out.mono (by omega))
 have HB6 := hHd hB6
 have HI := hHd (HIH.out ⟨nm, kd, ty, lo, hi, ns, mu, mo⟩ (cT nm kd ty lo hi ns mu mo B m A q.len c).toList a k Ak ck (((w.alloc (.cells (cT nm kd ty lo hi ns mu mo B m A q.len c) 61)).alloc (.cells (cN a (.slice Ak k.len ck)) 27)).alloc (.cells #[.int .u64 0, .slice none 0 0, .slice none 0 0] 48)) (HSP.out.keep (fun g hg => hB6.block g hg) hB6.size) HBD.out.1.1 HBD.out.1.2 (HRW.out.below hB6) HBD.out.2.1 HBD.out.2.2)
 clear hB6
 obtain ⟨q0, q1, q2, q3, q4, q5, q6, q7, q8⟩ := cl9 HS.out
 obtain ⟨p0, p1, p2, p3, p4, p5⟩ := cl6 HN.out
 go_wp2_with fail
 refine HI.out.mono ?_
 rintro r w7 ⟨v7, rfl, hv7, hb7⟩
 have HV7 := hHd hv7
 have HB37 : Hid (Below (w.heap.size + 1 + 1 + 1) (((w.alloc (.cells (cT nm kd ty lo hi ns mu mo B m A q.len c) 61)).alloc (.cells (cN a (.slice Ak k.len ck)) 27)).alloc (.cells #[.int .u64 0, .slice none 0 0, .slice none 0 0] 48)) w7) := hHd (HB36.out.trans (hb7.mono HL6.out))
 have HB7S : Hid ((((w.alloc (.cells (cT nm kd ty lo hi ns mu mo B m A q.len c) 61)).alloc (.cells (cN a (.slice Ak k.len ck)) 27)).alloc (.cells #[.int .u64 0, .slice none 0 0, .slice none 0 0] 48)).heap.size ≤ w7.heap.size) := hHd hb7.size
 have HO7 : Hid (OwnF DataI 48 w7 (w.heap.size + 1 + 1 + 1) (Value.slice none 0 0) Fo.nil) := hHd (HO6.out.below stays_I hb7)
 have HLT : Hid (∀ b, (Value.slice none 0 0).ownBlock = some b → b < (((w.alloc (.cells (cT nm kd ty lo hi ns mu mo B m A q.len c) 61)).alloc (.cells (cN a (.slice Ak k.len ck)) 27)).alloc (.cells #[.int .u64 0, .slice none 0 0, .slice none 0 0] 48)).heap.size) := hHd (fun b hb => (HO6.out.lt b hb).2)
 clear hv7 hb7 HI HS HN
 clear q0 q1 q2 q3 q4 q5 q6 q7 q8 p0 p1 p2 p3 p4 p5
 go_wp2_with (at_builtin; refine wpList_append_many stays_I one_I Tryz.underlying39 Tryz.infoT zeroI3 rfl (.tmp 28) (.tmp 31) rfl rfl (w.heap.size + 1 + 1 + 1) (((w.alloc (.cells (cT nm kd ty lo hi ns mu mo B m A q.len c) 61)).alloc (.cells (cN a (.slice Ak k.len ck)) 27)).alloc (.cells #[.int .u64 0, .slice none 0 0, .slice none 0 0] 48)).heap.size (Value.slice none 0 0) v7 Fo.nil (itF q 0 k) rfl HO7.out rfl HV7.out HLT.out HL6.out ?h1 ?h2 ?h3 ?_)
 case h1 => have := HLN.out; have := HFo.nil.out; omega
 case h2 => have := HLN.out; have := HFo.nil.out; omega
 case h3 => exact Nat.le_trans HL6.out HB7S.out
 intro v8 w8 hap
 have HB38 : Hid (Below (w.heap.size + 1 + 1 + 1) (((w.alloc (.cells (cT nm kd ty lo hi ns mu mo B m A q.len c) 61)).alloc (.cells (cN a (.slice Ak k.len ck)) 27)).alloc (.cells #[.int .u64 0, .slice none 0 0, .slice none 0 0] 48)) w8) := hHd (HB37.out.trans (hap.below HO7.out (Nat.le_trans HL6.out HB7S.out)))
 have HO8 : Hid (FV DataI w8 (MineI (w.heap.size + 1 + 1 + 1) w8) v8 (Fo.nil.app (itF q 0 k))) := hHd (hap.1.fv stays_I)
 obtain ⟨A8, c8, h8⟩ := hap.1.shape
 obtain ⟨n8, hn8⟩ : ∃ n, n = (Fo.nil.app (itF q 0 k)).len := ⟨_, rfl⟩
 rw [← hn8] at h8
 subst h8
 have HZ : Hid (Blk w8 (w.heap.size + 1 + 1) 48 #[.int .u64 0, .slice none 0 0, .slice none 0 0]) := hHd (HZ3.out.below HB38.out (by omega))
 clear hap hn8
 obtain ⟨z0, z1, z2⟩ := cl3 HZ.out
 have f0 := HZ.out.frozen 0
 have f1 := HZ.out.frozen 1
 have f2 := HZ.out.frozen 2
 go_wp2
 refine bodyPost_ret (results_cell_row rfl _ _ (w.heap.size + 1 + 1) 48 _ (0, 0) _ rfl (HZ.out.set3 _ _ _) Tryz.underlying48 rfl (by kernel_rfl)) rfl ?_
 exact ⟨_, _, rfl, dataI_nil _ _, fv_up (B := (w.heap.size + 1 + 1 + 1)) (fv_set3 (b := w.heap.size + 1 + 1) (o := 0) HO8.out (by omega)) (by omega), (HB.out.trans (HB38.out.mono (by omega))).trans (set3o_below (by omega))⟩
theorem itemOf_list (t : Nat) (nm : List UInt8) (kd ty lo hi : Nat) (ns : List (List UInt8)) (mu : Bool) (mo : Nat) (B : Option Addr) (m : Nat) (A : Option Addr) (q : SpF) (c : Nat) (a : NdD) (k : NdF) (Ak : Option Addr) (ck : Nat) (w : World)
  (IH : ItemsAt q) (hsp : SpL w.heap.size w (cT nm kd ty lo hi ns mu mo B m A q.len c).toList (⟨nm, kd, ty, lo, hi, ns, mu, mo⟩, q)) (hq : SpOk q) (hql : q.len ≤ 1000000) (hrow : RowT w.heap.size w (.slice Ak k.len ck) k) (hks : k.size ≤ 1000000) (hok : OkF k) (ha : a.key.length ≤ 1048576) (h3 : kd = 3) :
  Calls Tryz.prog 45 #[.agg (cT nm kd ty lo hi ns mu mo B m A q.len c), .int .u64 (t : Int), .agg (cN a (.slice Ak k.len ck))] w (ItmP t [] (.cons 0 a.key .nil (itF q 0 k)) w) := by
 obtain ⟨F6, hF6⟩ : ∃ F, F = Fo.cons 0 a.key .nil .nil := ⟨_, rfl⟩
 rw [show Fo.cons 0 a.key .nil (itF q 0 k) = F6.app (itF q 0 k) by rw [hF6]; rfl]
 have HE6 := hHd hF6
 clear hF6
 have n1 : ((kd : Int) == 1) = false := beq_eq_false_iff_ne.2 (by omega)
 have hb : Below w.heap.size w (((w.alloc (.cells (cT nm kd ty lo hi ns mu mo B m A q.len c) 61)).alloc (.cells (cN a (.slice Ak k.len ck)) 27)).alloc (.cells #[.int .u64 0, .slice none 0 0, .slice none 0 0] 48)) := (bAl.alloc (by simp) _).alloc (by simp; omega) _
 have HB := hHd hb
 have HS3 : Hid (Blk (((w.alloc (.cells (cT nm kd ty lo hi ns mu mo B m A q.len c) 61)).alloc (.cells (cN a (.slice Ak k.len ck)) 27)).alloc (.cells #[.int .u64 0, .slice none 0 0, .slice none 0 0] 48)) w.heap.size 61 (cT nm kd ty lo hi ns mu mo B m A q.len c)) := hHd (((Blk.new w 61 (cT nm kd ty lo hi ns mu mo B m A q.len c)).alloc _).alloc _)
 have HN3 : Hid (Blk (((w.alloc (.cells (cT nm kd ty lo hi ns mu mo B m A q.len c) 61)).alloc (.cells (cN a (.slice Ak k.len ck)) 27)).alloc (.cells #[.int .u64 0, .slice none 0 0, .slice none 0 0] 48)) (w.heap.size + 1) 27 (cN a (.slice Ak k.len ck))) := hHd ((Blk.newA (w := w.alloc (.cells (cT nm kd ty lo hi ns mu mo B m A q.len c) 61)) (by simp) _ _).alloc _)
 have HZ3 : Hid (Blk (((w.alloc (.cells (cT nm kd ty lo hi ns mu mo B m A q.len c) 61)).alloc (.cells (cN a (.slice Ak k.len ck)) 27)).alloc (.cells #[.int .u64 0, .slice none 0 0, .slice none 0 0] 48)) (w.heap.size + 1 + 1) 48 #[.int .u64 0, .slice none 0 0, .slice none 0 0]) := hHd (Blk.newA (w := (w.alloc (.cells (cT nm kd ty lo hi ns mu mo B m A q.len c) 61)).alloc (.cells (cN a (.slice Ak k.len ck)) 27)) (by simp) _ _)
 have HSZ : Hid ((((w.alloc (.cells (cT nm kd ty lo hi ns mu mo B m A q.len c) 61)).alloc (.cells (cN a (.slice Ak k.len ck)) 27)).alloc (.cells #[.int .u64 0, .slice none 0 0, .slice none 0 0] 48)).heap.size = (w.heap.size + 1 + 1 + 1)) := hHd (by simp)
 have HSP := hHd hsp
 have HRW := hHd hrow
 have HIH := hHd IH
 have HBD := hHd (And.intro (And.intro hq hql) (And.intro hks hok))
 have hlen : (itF q 0 k).len ≤ 1000000000000 := by
  have h1 := it_len q k 0
  have h2 := k.len_size
  have h3 : q.len * k.len ≤ 1000000 * 1000000 := Nat.mul_le_mul hql (by omega)
  omega
 have HLN := hHd hlen
 clear hb hsp hrow IH hq hql hks hlen
 have n3 : ((kd : Int) == 3) = true := by rw [h3]; rfl
 clear h3
 have kc := fun (W : World) => run_bytes_of_string (P := Tryz.prog) W 9 30 5 (txt a.key) Tryz.underlying9 Tryz.underlying30 Tryz.underlying5
 obtain ⟨cc, hcc⟩ : ∃ cc, cc = grownCap (((w.alloc (.cells (cT nm kd ty lo hi ns mu mo B m A q.len c) 61)).alloc (.cells (cN a (.slice Ak k.len ck)) 27)).alloc (.cells #[.int .u64 0, .slice none 0 0, .slice none 0 0] 48)) (txt a.key).size 0 5 := ⟨_, rfl⟩
 have HCC : Hid (a.key.length ≤ cc) := hHd (by rw [hcc]; exact grownCap_ge _ _ _ _)
 have kc3 := kc (((w.alloc (.cells (cT nm kd ty lo hi ns mu mo B m A q.len c) 61)).alloc (.cells (cN a (.slice Ak k.len ck)) 27)).alloc (.cells #[.int .u64 0, .slice none 0 0, .slice none 0 0] 48))
 rw [← hcc] at kc3
 have HK : Hid (a.key.length ≤ 1048576) := hHd ha
 have HS : Hid (Blk (((w.alloc (.cells (cT nm kd ty lo hi ns mu mo B m A q.len c) 61)).alloc (.cells (cN a (.slice Ak k.len ck)) 27)).alloc (.cells #[.int .u64 0, .slice none 0 0, .slice none 0 0] 48)) w.heap.size 61 (cT nm kd ty lo hi ns mu mo B m A q.len c)) := HS3
 have HN : Hid (Blk (((w.alloc (.cells (cT nm kd ty lo hi ns mu mo B m A q.len c) 61)).alloc (.cells (cN a (.slice Ak k.len ck)) 27)).alloc (.cells #[.int .u64 0, .slice none 0 0, .slice none 0 0] 48)) (w.heap.size + 1) 27 (cN a (.slice Ak k.len ck))) := HN3
 have hk1 := datP_bytes (w := (((w.alloc (.cells (cT nm kd ty lo hi ns mu mo B m A q.len c) 61)).alloc (.cells (cN a (.slice Ak k.len ck)) 27)).alloc (.cells #[.int .u64 0, .slice none 0 0, .slice none 0 0] 48))) (W := (((w.alloc (.cells (cT nm kd ty lo hi ns mu mo B m A q.len c) 61)).alloc (.cells (cN a (.slice Ak k.len ck)) 27)).alloc (.cells #[.int .u64 0, .slice none 0 0, .slice none 0 0] 48))) (s := a.key) (e := 5) (n := ((bytesRow (txt a.key) cc).size, (bytesRow (txt a.key) cc).size + 1)) (c := cc) (g := (w.heap.size + 1 + 1 + 1)) (by simp) ha HCC.out (Below.refl _ _)
 have hbk : Below (w.heap.size + 1 + 1 + 1) (((w.alloc (.cells (cT nm kd ty lo hi ns mu mo B m A q.len c) 61)).alloc (.cells (cN a (.slice Ak k.len ck)) 27)).alloc (.cells #[.int .u64 0, .slice none 0 0, .slice none 0 0] 48)) (((((w.alloc (.cells (cT nm kd ty lo hi ns mu mo B m A q.len c) 61)).alloc (.cells (cN a (.slice Ak k.len ck)) 27)).alloc (.cells #[.int .u64 0, .slice none 0 0, .slice none 0 0] 48)).drew.alloc (.cells (bytesRow (txt a.key) cc) 5 ((bytesRow (txt a.key) cc).size, (bytesRow (txt a.key) cc).size + 1))).alloc (.cells #[.int .u64 0, (.slice (some ⟨(w.heap.size + 1 + 1 + 1), 0, none⟩) a.key.length cc), .slice none 0 0] 48)) := (hk1.2.mono (by simp)).alloc (by simp) _
 have HBK := hHd hbk
 have HDK : Hid (DataI (((((w.alloc (.cells (cT nm kd ty lo hi ns mu mo B m A q.len c) 61)).alloc (.cells (cN a (.slice Ak k.len ck)) 27)).alloc (.cells #[.int .u64 0, .slice none 0 0, .slice none 0 0] 48)).drew.alloc (.cells (bytesRow (txt a.key) cc) 5 ((bytesRow (txt a.key) cc).size, (bytesRow (txt a.key) cc).size + 1))).alloc (.cells #[.int .u64 0, (.slice (some ⟨(w.heap.size + 1 + 1 + 1), 0, none⟩) a.key.length cc), .slice none 0 0] 48)) (ItsI (w.heap.size + 1 + 1 + 1) (((((w.alloc (.cells (cT nm kd ty lo hi ns mu mo B m A q.len c) 61)).alloc (.cells (cN a (.slice Ak k.len ck)) 27)).alloc (.cells #[.int .u64 0, .slice none 0 0, .slice none 0 0] 48)).drew.alloc (.cells (bytesRow (txt a.key) cc) 5 ((bytesRow (txt a.key) cc).size, (bytesRow (txt a.key) cc).size + 1))).alloc (.cells #[.int .u64 0, (.slice (some ⟨(w.heap.size + 1 + 1 + 1), 0, none⟩) a.key.length cc), .slice none 0 0] 48)) (.slice none 0 0)) (.slice (some ⟨(w.heap.size + 1 + 1 + 1), 0, none⟩) a.key.length cc) a.key) := hHd (stays_I _ _ _ _ _ _ (fun g hg => Below.heap_alloc _ _ _ hg.2) (fun g hg => ⟨by have h := hg.1; simp only [World.size_alloc] at h; exact h, Nat.lt_of_lt_of_le hg.2 (by simp), by intro h; cases h⟩) hk1.1)
 have HBL : Hid (Blk (((((w.alloc (.cells (cT nm kd ty lo hi ns mu mo B m A q.len c) 61)).alloc (.cells (cN a (.slice Ak k.len ck)) 27)).alloc (.cells #[.int .u64 0, .slice none 0 0, .slice none 0 0] 48)).drew.alloc (.cells (bytesRow (txt a.key) cc) 5 ((bytesRow (txt a.key) cc).size, (bytesRow (txt a.key) cc).size + 1))).alloc (.cells #[.int .u64 0, (.slice (some ⟨(w.heap.size + 1 + 1 + 1), 0, none⟩) a.key.length cc), .slice none 0 0] 48)) ((w.heap.size + 1 + 1 + 1) + 1) 48 #[.int .u64 ((0 : Nat) : Int), (.slice (some ⟨(w.heap.size + 1 + 1 + 1), 0, none⟩) a.key.length cc), .slice none 0 0]) := hHd (Blk.newA (w := (((w.alloc (.cells (cT nm kd ty lo hi ns mu mo B m A q.len c) 61)).alloc (.cells (cN a (.slice Ak k.len ck)) 27)).alloc (.cells #[.int .u64 0, .slice none 0 0, .slice none 0 0] 48)).drew.alloc (.cells (bytesRow (txt a.key) cc) 5 ((bytesRow (txt a.key) cc).size, (bytesRow (txt a.key) cc).size + 1))) (by simp [World.drew]) _ _)
 clear kc hcc ha hk1 hbk
 obtain ⟨q0, q1, q2, q3, q4, q5, q6, q7, q8⟩ := cl9 HS.out
 obtain ⟨p0, p1, p2, p3, p4, p5⟩ := cl6 HN.out
 go_enter Tryz.func45, Tryz.ntmps45
 go_wp2_with (at_builtin; refine wpList_append_it stays_I one_I Tryz.underlying39 Tryz.infoT zeroI3 rfl (.tmp 20) (.tmp 25) rfl rfl (w.heap.size + 1 + 1 + 1) (.slice none 0 0) .nil rfl (OwnF.nil _ _) ((w.heap.size + 1 + 1 + 1) + 1) rfl 0 a.key .nil (.slice (some ⟨(w.heap.size + 1 + 1 + 1), 0, none⟩) a.key.length cc) (.slice none 0 0) HBL.out (by decide) HDK.out (FV.nil _ _) (by decide) (by decide) ?h0 ?_)
 intro v6 w6 hap
 have hl6 : (w.heap.size + 1 + 1 + 1) ≤ (((((w.alloc (.cells (cT nm kd ty lo hi ns mu mo B m A q.len c) 61)).alloc (.cells (cN a (.slice Ak k.len ck)) 27)).alloc (.cells #[.int .u64 0, .slice none 0 0, .slice none 0 0] 48)).drew.alloc (.cells (bytesRow (txt a.key) cc) 5 ((bytesRow (txt a.key) cc).size, (bytesRow (txt a.key) cc).size + 1))).alloc (.cells #[.int .u64 0, (.slice (some ⟨(w.heap.size + 1 + 1 + 1), 0, none⟩) a.key.length cc), .slice none 0 0] 48)).heap.size := Nat.le_trans (by simp) HBK.out.size
 have HO6 : Hid (OwnF DataI 48 w6 (w.heap.size + 1 + 1 + 1) v6 F6) := hHd (by rw [HE6.out]; exact hap.1)
 have hb6 := hap.below (f0 := .nil) (OwnF.nil _ _) hl6
 have HB36 : Hid (Below (w.heap.size + 1 + 1 + 1) (((w.alloc (.cells (cT nm kd ty lo hi ns mu mo B m A q.len c) 61)).alloc (.cells (cN a (.slice Ak k.len ck)) 27)).alloc (.cells #[.int .u64 0, .slice none 0 0, .slice none 0 0] 48)) w6) := hHd (HBK.out.trans hb6)
 have HL6 : Hid ((w.heap.size + 1 + 1 + 1) ≤ w6.heap.size) := hHd (Nat.le_trans hl6 hb6.size)
 have HF6 : Hid (F6.len ≤ 1) := hHd (by rw [HE6.out]; exact Nat.le_refl 1)
 clear hap hb6 hl6 HBK HDK HBL kc3
 clear q0 q1 q2 q3 q4 q5 q6 q7 q8 p0 p1 p2 p3 p4 p5
 have HS : Hid (Blk w6 w.heap.size 61 (cT nm kd ty lo hi ns mu mo B m A q.len c)) := hHd (HS3.out.below HB36.out (by omega))
 have HN : Hid (Blk w6 (w.heap.size + 1) 27 (cN a (.slice Ak k.len ck))) := hHd (HN3.out.below HB36.out (by omega))
 have hB6 : Below w.heap.size w w6 := HB.out.trans (HB36.out.mono (by omega))
 have HB6 := hHd hB6
 have HI := hHd (HIH.out ⟨nm, kd, ty, lo, hi, ns, mu, mo⟩ (cT nm kd ty lo hi ns mu mo B m A q.len c).toList a k Ak ck w6 (HSP.out.keep (fun g hg => hB6.block g hg) hB6.size) HBD.out.1.1 HBD.out.1.2 (HRW.out.below hB6) HBD.out.2.1 HBD.out.2.2)
 clear hB6
 obtain ⟨q0, q1, q2, q3, q4, q5, q6, q7, q8⟩ := cl9 HS.out
 obtain ⟨p0, p1, p2, p3, p4, p5⟩ := cl6 HN.out
 go_wp2_with fail
 refine HI.out.mono ?_
 rintro r w7 ⟨v7, rfl, hv7, hb7⟩
 have HV7 := hHd hv7
 have HB37 : Hid (Below (w.heap.size + 1 + 1 + 1) (((w.alloc (.cells (cT nm kd ty lo hi ns mu mo B m A q.len c) 61)).alloc (.cells (cN a (.slice Ak k.len ck)) 27)).alloc (.cells #[.int .u64 0, .slice none 0 0, .slice none 0 0] 48)) w7) := hHd (HB36.out.trans (hb7.mono HL6.out))
 have HB7S : Hid (w6.heap.size ≤ w7.heap.size) := hHd hb7.size
 have HO7 : Hid (OwnF DataI 48 w7 (w.heap.size + 1 + 1 + 1) v6 F6) := hHd (HO6.out.below stays_I hb7)
 have HLT : Hid (∀ b, v6.ownBlock = some b → b < w6.heap.size) := hHd (fun b hb => (HO6.out.lt b hb).2)
 clear hv7 hb7 HI HS HN
 clear q0 q1 q2 q3 q4 q5 q6 q7 q8 p0 p1 p2 p3 p4 p5
 go_wp2_with (at_builtin; refine wpList_append_many stays_I one_I Tryz.underlying39 Tryz.infoT zeroI3 rfl (.tmp 28) (.tmp 31) rfl rfl (w.heap.size + 1 + 1 + 1) w6.heap.size v6 v7 F6 (itF q 0 k) rfl HO7.out rfl HV7.out HLT.out HL6.out ?h1 ?h2 ?h3 ?_)
 case h1 => have := HLN.out; have := HF6.out; omega
 case h2 => have := HLN.out; have := HF6.out; omega
 case h3 => exact Nat.le_trans HL6.out HB7S.out
 intro v8 w8 hap
 have HB38 : Hid (Below (w.heap.size + 1 + 1 + 1) (((w.alloc (.cells (cT nm kd ty lo hi ns mu mo B m A q.len c) 61)).alloc (.cells (cN a (.slice Ak k.len ck)) 27)).alloc (.cells #[.int .u64 0, .slice none 0 0, .slice none 0 0] 48)) w8) := hHd (HB37.out.trans (hap.below HO7.out (Nat.le_trans HL6.out HB7S.out)))
 have HO8 : Hid (FV DataI w8 (MineI (w.heap.size + 1 + 1 + 1) w8) v8 (F6.app (itF q 0 k))) := hHd (hap.1.fv stays_I)
 obtain ⟨A8, c8, h8⟩ := hap.1.shape
 obtain ⟨n8, hn8⟩ : ∃ n, n = (F6.app (itF q 0 k)).len := ⟨_, rfl⟩
 rw [← hn8] at h8
 subst h8
 have HZ : Hid (Blk w8 (w.heap.size + 1 + 1) 48 #[.int .u64 0, .slice none 0 0, .slice none 0 0]) := hHd (HZ3.out.below HB38.out (by omega))
 clear hap hn8
 obtain ⟨z0, z1, z2⟩ := cl3 HZ.out
 have f0 := HZ.out.frozen 0
 have f1 := HZ.out.frozen 1
 have f2 := HZ.out.frozen 2
 go_wp2
 refine bodyPost_ret (results_cell_row rfl _ _ (w.heap.size + 1 + 1) 48 _ (0, 0) _ rfl (HZ.out.set3 _ _ _) Tryz.underlying48 rfl (by kernel_rfl)) rfl ?_
 exact ⟨_, _, rfl, dataI_nil _ _, fv_up (B := (w.heap.size + 1 + 1 + 1)) (fv_set3 (b := w.heap.size + 1 + 1) (o := 0) HO8.out (by omega)) (by omega), (HB.out.trans (HB38.out.mono (by omega))).trans (set3o_below (by omega))⟩
theorem itemOf_any (t : Nat) (sd : SpD) (cs : List Value) (a : NdD) (q : SpF) (k : NdF) (Ak : Option Addr) (ck : Nat) (w : World) (IH : ItemsAt q) (hsp : SpL w.heap.size w cs (sd, q)) (hn : sd.names.length ≤ 1000000) (hq : SpOk q) (hql : q.len ≤ 1000000) (hrow : RowT w.heap.size w (.slice Ak k.len ck) k) (hks : k.size ≤ 1000000) (hok : OkD a ∧ OkF k) :
  Calls Tryz.prog 45 #[.agg cs.toArray, .int .u64 (t : Int), .agg (cN a (.slice Ak k.len ck))] w (ItmP t (dtW sd a) (kdW (fun f => itF q 0 f) sd a k) w) := by
 have hsp0 := hsp
 obtain ⟨B, m, A, c, d, rfl, hv, -, -⟩ := SpN.shape hsp
 obtain ⟨nm, kd, ty, lo, hi, ns, mu, mo⟩ := sd
 unfold dtW kdW
 by_cases h1 : kd = 1
 ·rw [if_pos h1, if_pos h1]
  exact itemOf_leaf t nm kd ty lo hi ns mu mo B m d A q c a k Ak ck w hv hn hok.1 h1
 ·rw [if_neg h1, if_neg h1]
  by_cases h3 : kd = 3
  ·rw [if_pos h3]
   exact itemOf_list t nm kd ty lo hi ns mu mo B m A q c a k Ak ck w IH hsp0 hq hql hrow hks hok.2 hok.1.key h3
  ·rw [if_neg h3]
   exact itemOf_box t nm kd ty lo hi ns mu mo B m A q c a k Ak ck w IH hsp0 hq hql hrow hks hok.2 h1 h3
end Go.Proofs.YtodlhgflfcadmaaGreat
