/- TlvFnG -/
import Derived.Test.YtleidkpdpabkpaaGreatDoorAM34
set_option linter.unusedSimpArgs false
set_option linter.unusedVariables false
set_option maxRecDepth 100000
set_option maxHeartbeats 8000000
namespace Go.Proofs.YtleidkpdpabkpaaGreatDoor
open Go.RowKit
theorem grown_set' {a b : World} {g : Nat} (h : a.grownBy b (some g)) {p : Addr} (hp : a.heap.size ≤ p.block) (u : Value) : a.grownBy (b.setCell p u) (some g) :=
 ⟨h.os, h.tape, h.output, by simpa [World.setCell] using h.size, fun k hk hne => (Below.heap_setCell b p u k (by omega)).trans (h.block k hk hne)⟩
theorem Blk.set3 {w : World} {b : Nat} {T : TypeId} {x0 x1 x2 : Value} (h : Blk w b T #[x0, x1, x2]) (x y z : Value) : Blk (((w.setCell ⟨b, 0, none⟩ x).setCell ⟨b, 1, none⟩ y).setCell ⟨b, 2, none⟩ z) b T #[x, y, z] := ((h.set_ 0 x).set_ 1 y).set_ 2 z
def HeadErr (e : Int) (o : Nat) (g : Nat) (w : World) (r : Ending) (w' : World) : Prop :=
 r = .returned (.tuple #[.agg #[.int .u64 0, .slice none 0 0, .slice none 0 0], .pointer none, .int .i64 e, .int .i64 (o : Int)]) ∧ w.grownBy w' (some g)
def HeadOk (t g d : Nat) (c s3 : List UInt8) (w : World) (r : Ending) (w' : World) : Prop :=
 ∃ n, r = .returned (.tuple #[.agg #[.int .u64 (t : Int), .slice none 0 0, .slice none 0 0], .pointer (some ⟨n + 1, 0, none⟩), .int .i64 0, .int .i64 0]) ∧ w.heap.size ≤ n ∧ Win w' (n + 1) n c 0 ∧ Win w' g d s3 0 ∧ w.grownBy w' (some g)
theorem Win.set_far {w : World} {g d : Nat} {l : List UInt8} {e : Int} {p : Addr} (h : Win w g d l e) (hg : g ≠ p.block) (hd : d ≠ p.block) (u : Value) : Win (w.setCell p u) g d l e := by
 obtain ⟨v, h1, h2⟩ := h
 exact ⟨v, h1.far hg u, h2.setCell hd u⟩
def TakeV (t : Nat) (e : Int) (g d : Nat) (s1 : List UInt8) (w : World) (r : Ending) (w' : World) : Prop :=
 r = .returned (.tuple #[.int .u64 (t : Int), .int .i64 e]) ∧ Win w' g d s1 0 ∧ w.grownBy w' (some g)
theorem take_at (g d : Nat) (s s1 : List UInt8) (t a : Nat) (e : Int) (w : World) (h : Win w g d s 0) (hd : d ≠ g) (hdw : d < w.heap.size) (hv : getV s = (t, a, e)) (hs1 : s1 = s.drop a) :
  Calls Tryz.prog 84 #[.pointer (some ⟨g, 0, none⟩)] w (TakeV t e g d s1 w) :=
 (take_any g d s 0 w h hd hdw).mono fun r w' ⟨h1, h2, h3⟩ => by
  rw [if_pos rfl, if_pos rfl, hv] at h1
  rw [if_pos rfl, hv] at h2
  exact ⟨h1, hs1 ▸ h2, h3⟩
theorem head_tag (g d : Nat) (s : List UInt8) (at_ t a : Nat) (e en : Int) (w : World) (h : Win w g d s 0) (hd : d ≠ g) (hdw : d < w.heap.size) (hs : at_ + s.length ≤ 100000) (hen : en = ((at_ + s.length : Nat) : Int))
  (h1 : getV s = (t, a, e)) (he : e ≠ 0) : Calls Tryz.prog 57 #[.pointer (some ⟨g, 0, none⟩), .int .i64 en] w (HeadErr e at_ g w) := by
 have ha : a = 0 := by have := (getV_err s (by rw [h1]; exact he)).2; rwa [h1] at this
 subst ha
 have hb : (e == 0) = false := by simpa using he
 have hb2 : (e != 0) = true := by simpa using he
 have HW1 : Hid (Win (w.alloc (.cells #[.int .u64 0, .slice none 0 0, .slice none 0 0] 58)) g d s 0) := hHd (h.alloc _)
 have HC := hHd (take_at g d s s t 0 e _ HW1.out hd (by simp; omega) h1 rfl)
 have HE : Hid (en - (s.length : Int) = (at_ : Int)) := hHd (by omega)
 have i1 : 0 ≤ en := by omega
 have i2 : en ≤ 100000 := by omega
 have i3 : s.length ≤ 100000 := by omega
 have HLT : Hid (g < w.heap.size) := hHd h.lt
 clear h h1 he hen hs
 go_enter Tryz.func57, Tryz.ntmps57
 go_wp2_with fail
 refine HC.out.mono ?_
 rintro r w1 ⟨rfl, hw1, hg1⟩
 have HG := hHd hg1
 have hR : Blk w1 w.heap.size 58 #[.int .u64 0, .slice none 0 0, .slice none 0 0] := (Blk.new w _ _).grown hg1 (by have := HLT.out; intro h; injection h with h; omega)
 have c0 : w1.cell? ⟨w.heap.size, 0, none⟩ = some (.int .u64 0) := by rw [hR.cell]; rfl
 have c1 : w1.cell? ⟨w.heap.size, 1, none⟩ = some (.slice none 0 0) := by rw [hR.cell]; rfl
 have c2 : w1.cell? ⟨w.heap.size, 2, none⟩ = some (.slice none 0 0) := by rw [hR.cell]; rfl
 have f0 : w1.frozen? ⟨w.heap.size, 0, none⟩ = false := hR.frozen 0
 have f1 : w1.frozen? ⟨w.heap.size, 1, none⟩ = false := hR.frozen 1
 have f2 : w1.frozen? ⟨w.heap.size, 2, none⟩ = false := hR.frozen 2
 have hE := hR.set3 (.int .u64 0) (.slice none 0 0) (.slice none 0 0)
 have HGE : Hid (w.grownBy (((w1.setCell ⟨w.heap.size, 0, none⟩ (.int .u64 0)).setCell ⟨w.heap.size, 1, none⟩ (.slice none 0 0)).setCell ⟨w.heap.size, 2, none⟩ (.slice none 0 0)) (some g)) := hHd (grown_set' (grown_set' (grown_set' ((World.grownBy_alloc w _ _).trans HG.out) (Nat.le_refl _) _) (Nat.le_refl _) _) (Nat.le_refl _) _)
 have e0 : (((w1.setCell ⟨w.heap.size, 0, none⟩ (.int .u64 0)).setCell ⟨w.heap.size, 1, none⟩ (.slice none 0 0)).setCell ⟨w.heap.size, 2, none⟩ (.slice none 0 0)).cell? ⟨w.heap.size, 0, none⟩ = some (.int .u64 0) := by rw [hE.cell]; rfl
 have e1 : (((w1.setCell ⟨w.heap.size, 0, none⟩ (.int .u64 0)).setCell ⟨w.heap.size, 1, none⟩ (.slice none 0 0)).setCell ⟨w.heap.size, 2, none⟩ (.slice none 0 0)).cell? ⟨w.heap.size, 1, none⟩ = some (.slice none 0 0) := by rw [hE.cell]; rfl
 have e2 : (((w1.setCell ⟨w.heap.size, 0, none⟩ (.int .u64 0)).setCell ⟨w.heap.size, 1, none⟩ (.slice none 0 0)).setCell ⟨w.heap.size, 2, none⟩ (.slice none 0 0)).cell? ⟨w.heap.size, 2, none⟩ = some (.slice none 0 0) := by rw [hE.cell]; rfl
 clear hR hE
 clear hg1
 go_wp2_with fail
 refine (left_any g d s 0 _ hw1).mono ?_
 rintro r w2 ⟨rfl, rfl⟩
 go_wp2
 rw [HE.out]
 refine bodyPost_ret (v := .tuple #[.agg #[.int .u64 0, .slice none 0 0, .slice none 0 0], .pointer none, .int .i64 e, .int .i64 (at_ : Int)]) (by simp [results, Tryz.results57, go_sem, e0, e1, e2]) rfl ⟨rfl, HGE.out⟩
theorem head_len (g d : Nat) (s s1 s2 : List UInt8) (at_ t a L b : Nat) (f en : Int) (w : World) (h : Win w g d s 0) (hd : d ≠ g) (hdw : d < w.heap.size) (hs : at_ + s.length ≤ 100000) (hen : en = ((at_ + s.length : Nat) : Int))
  (h1 : getV s = (t, a, 0)) (hs1 : s1 = s.drop a) (h2 : getV s1 = (L, b, f)) (hs2 : s2 = s1.drop b) (hf : f ≠ 0) : Calls Tryz.prog 57 #[.pointer (some ⟨g, 0, none⟩), .int .i64 en] w (HeadErr f (at_ + a) g w) := by
 have o1 := getV_own s (by rw [h1])
 rw [h1] at o1
 obtain ⟨a1, a2, -, t64, -⟩ := o1
 dsimp only at a1 a2 t64
 have HLT : Hid (g < w.heap.size) := hHd h.lt
 have HW0 : Hid (Win (w.alloc (.cells #[.int .u64 0, .slice none 0 0, .slice none 0 0] 58)) g d s 0) := hHd (h.alloc _)
 have HC := hHd (take_at g d s s1 t a 0 _ HW0.out hd (by simp; omega) h1 hs1)
 have HC2 := hHd (fun W hW hdW => take_at g d s1 s2 L b f W hW hd hdW h2 hs2)
 have hl1 : s1.length = s.length - a := by rw [hs1]; exact List.length_drop
 have hl2 : s2.length = s1.length - b := by rw [hs2]; exact List.length_drop
 have hb0 : b = 0 := by have := (getV_err s1 (by rw [h2]; exact hf)).2; rwa [h2] at this
 subst hb0
 have hb : (f == 0) = false := by simpa using hf
 have hb2 : (f != 0) = true := by simpa using hf
 have HE : Hid (en - (s2.length : Int) = ((at_ + a : Nat) : Int)) := hHd (by omega)
 have i1 : 0 ≤ en := by omega
 have i2 : en ≤ 100000 := by omega
 have i3 : s2.length ≤ 100000 := by omega
 clear hf hen hs
 clear h h1 h2 hl1 hl2 hs1 hs2
 go_enter Tryz.func57, Tryz.ntmps57
 go_wp2_with fail
 refine HC.out.mono ?_
 rintro r w1 ⟨rfl, hw1, hg1⟩
 have HD1 : Hid (d < w1.heap.size) := hHd (by have := hg1.size; simp at this; omega)
 have hR1 : Blk w1 w.heap.size 58 #[.int .u64 0, .slice none 0 0, .slice none 0 0] := (Blk.new w _ _).grown hg1 (by have := HLT.out; intro h; injection h with h; omega)
 go_wp2_with fail
 refine (HC2.out _ hw1 HD1.out).mono ?_
 rintro r w2 ⟨rfl, hw2, hg2⟩
 have hR : Blk w2 w.heap.size 58 #[.int .u64 0, .slice none 0 0, .slice none 0 0] := hR1.grown hg2 (by have := HLT.out; intro h; injection h with h; omega)
 have HG : Hid (w.grownBy w2 (some g)) := hHd (((World.grownBy_alloc w _ _).trans hg1).trans hg2)
 clear hw1 hg1 hR1 hg2
 have c0 : w2.cell? ⟨w.heap.size, 0, none⟩ = some (.int .u64 0) := by rw [hR.cell]; rfl
 have f0 : w2.frozen? ⟨w.heap.size, 0, none⟩ = false := hR.frozen 0
 have c1 : w2.cell? ⟨w.heap.size, 1, none⟩ = some (.slice none 0 0) := by rw [hR.cell]; rfl
 have f1 : w2.frozen? ⟨w.heap.size, 1, none⟩ = false := hR.frozen 1
 have c2 : w2.cell? ⟨w.heap.size, 2, none⟩ = some (.slice none 0 0) := by rw [hR.cell]; rfl
 have f2 : w2.frozen? ⟨w.heap.size, 2, none⟩ = false := hR.frozen 2
 have hE := hR.set3 (.int .u64 0) (.slice none 0 0) (.slice none 0 0)
 have HGE : Hid (w.grownBy (((w2.setCell ⟨w.heap.size, 0, none⟩ (.int .u64 0)).setCell ⟨w.heap.size, 1, none⟩ (.slice none 0 0)).setCell ⟨w.heap.size, 2, none⟩ (.slice none 0 0)) (some g)) := hHd (grown_set' (grown_set' (grown_set' HG.out (Nat.le_refl _) _) (Nat.le_refl _) _) (Nat.le_refl _) _)
 have e0 : (((w2.setCell ⟨w.heap.size, 0, none⟩ (.int .u64 0)).setCell ⟨w.heap.size, 1, none⟩ (.slice none 0 0)).setCell ⟨w.heap.size, 2, none⟩ (.slice none 0 0)).cell? ⟨w.heap.size, 0, none⟩ = some (.int .u64 0) := by rw [hE.cell]; rfl
 have e1 : (((w2.setCell ⟨w.heap.size, 0, none⟩ (.int .u64 0)).setCell ⟨w.heap.size, 1, none⟩ (.slice none 0 0)).setCell ⟨w.heap.size, 2, none⟩ (.slice none 0 0)).cell? ⟨w.heap.size, 1, none⟩ = some (.slice none 0 0) := by rw [hE.cell]; rfl
 have e2 : (((w2.setCell ⟨w.heap.size, 0, none⟩ (.int .u64 0)).setCell ⟨w.heap.size, 1, none⟩ (.slice none 0 0)).setCell ⟨w.heap.size, 2, none⟩ (.slice none 0 0)).cell? ⟨w.heap.size, 2, none⟩ = some (.slice none 0 0) := by rw [hE.cell]; rfl
 clear hR hE
 go_wp2_with fail
 refine (left_any g d _ 0 _ hw2).mono ?_
 rintro r w3 ⟨rfl, rfl⟩
 go_wp2
 rw [HE.out]
 refine bodyPost_ret (v := .tuple #[.agg #[.int .u64 0, .slice none 0 0, .slice none 0 0], .pointer none, .int .i64 f, .int .i64 (((at_ + a : Nat)) : Int)]) (by simp [results, Tryz.results57, go_sem, e0, e1, e2]) rfl ⟨rfl, HGE.out⟩
theorem head_short (g d : Nat) (s s1 s2 : List UInt8) (at_ t a L b : Nat) (f en : Int) (w : World) (h : Win w g d s 0) (hd : d ≠ g) (hdw : d < w.heap.size) (hs : at_ + s.length ≤ 100000) (hen : en = ((at_ + s.length : Nat) : Int))
  (h1 : getV s = (t, a, 0)) (hs1 : s1 = s.drop a) (h2 : getV s1 = (L, b, f)) (hs2 : s2 = s1.drop b) (hf : f = 0) (hsh : s.length - a - b < L) : Calls Tryz.prog 57 #[.pointer (some ⟨g, 0, none⟩), .int .i64 en] w (HeadErr 10 (at_ + a + b) g w) := by
 have o1 := getV_own s (by rw [h1])
 rw [h1] at o1
 obtain ⟨a1, a2, -, t64, -⟩ := o1
 dsimp only at a1 a2 t64
 have HLT : Hid (g < w.heap.size) := hHd h.lt
 have HW0 : Hid (Win (w.alloc (.cells #[.int .u64 0, .slice none 0 0, .slice none 0 0] 58)) g d s 0) := hHd (h.alloc _)
 have HC := hHd (take_at g d s s1 t a 0 _ HW0.out hd (by simp; omega) h1 hs1)
 have HC2 := hHd (fun W hW hdW => take_at g d s1 s2 L b f W hW hd hdW h2 hs2)
 have hl1 : s1.length = s.length - a := by rw [hs1]; exact List.length_drop
 have hl2 : s2.length = s1.length - b := by rw [hs2]; exact List.length_drop
 subst hf
 have o2 := getV_own s1 (by rw [h2])
 rw [h2] at o2
 obtain ⟨b1, b2, -, L64, -⟩ := o2
 dsimp only at b1 b2 L64
 have HE : Hid (en - (s2.length : Int) = ((at_ + a + b : Nat) : Int)) := hHd (by omega)
 have hd1 : s2.length < L := by omega
 have i1 : 0 ≤ en := by omega
 have i2 : en ≤ 100000 := by omega
 have i3 : s2.length ≤ 100000 := by omega
 clear hsh hen hs L64 t64
 clear h h1 h2 hl1 hl2 hs1 hs2
 go_enter Tryz.func57, Tryz.ntmps57
 go_wp2_with fail
 refine HC.out.mono ?_
 rintro r w1 ⟨rfl, hw1, hg1⟩
 have HD1 : Hid (d < w1.heap.size) := hHd (by have := hg1.size; simp at this; omega)
 have hR1 : Blk w1 w.heap.size 58 #[.int .u64 0, .slice none 0 0, .slice none 0 0] := (Blk.new w _ _).grown hg1 (by have := HLT.out; intro h; injection h with h; omega)
 go_wp2_with fail
 refine (HC2.out _ hw1 HD1.out).mono ?_
 rintro r w2 ⟨rfl, hw2, hg2⟩
 have hR : Blk w2 w.heap.size 58 #[.int .u64 0, .slice none 0 0, .slice none 0 0] := hR1.grown hg2 (by have := HLT.out; intro h; injection h with h; omega)
 have HG : Hid (w.grownBy w2 (some g)) := hHd (((World.grownBy_alloc w _ _).trans hg1).trans hg2)
 clear hw1 hg1 hR1 hg2
 have c0 : w2.cell? ⟨w.heap.size, 0, none⟩ = some (.int .u64 0) := by rw [hR.cell]; rfl
 have f0 : w2.frozen? ⟨w.heap.size, 0, none⟩ = false := hR.frozen 0
 have c1 : w2.cell? ⟨w.heap.size, 1, none⟩ = some (.slice none 0 0) := by rw [hR.cell]; rfl
 have f1 : w2.frozen? ⟨w.heap.size, 1, none⟩ = false := hR.frozen 1
 have c2 : w2.cell? ⟨w.heap.size, 2, none⟩ = some (.slice none 0 0) := by rw [hR.cell]; rfl
 have f2 : w2.frozen? ⟨w.heap.size, 2, none⟩ = false := hR.frozen 2
 have hE := hR.set3 (.int .u64 0) (.slice none 0 0) (.slice none 0 0)
 have HGE : Hid (w.grownBy (((w2.setCell ⟨w.heap.size, 0, none⟩ (.int .u64 0)).setCell ⟨w.heap.size, 1, none⟩ (.slice none 0 0)).setCell ⟨w.heap.size, 2, none⟩ (.slice none 0 0)) (some g)) := hHd (grown_set' (grown_set' (grown_set' HG.out (Nat.le_refl _) _) (Nat.le_refl _) _) (Nat.le_refl _) _)
 have e0 : (((w2.setCell ⟨w.heap.size, 0, none⟩ (.int .u64 0)).setCell ⟨w.heap.size, 1, none⟩ (.slice none 0 0)).setCell ⟨w.heap.size, 2, none⟩ (.slice none 0 0)).cell? ⟨w.heap.size, 0, none⟩ = some (.int .u64 0) := by rw [hE.cell]; rfl
 have e1 : (((w2.setCell ⟨w.heap.size, 0, none⟩ (.int .u64 0)).setCell ⟨w.heap.size, 1, none⟩ (.slice none 0 0)).setCell ⟨w.heap.size, 2, none⟩ (.slice none 0 0)).cell? ⟨w.heap.size, 1, none⟩ = some (.slice none 0 0) := by rw [hE.cell]; rfl
 have e2 : (((w2.setCell ⟨w.heap.size, 0, none⟩ (.int .u64 0)).setCell ⟨w.heap.size, 1, none⟩ (.slice none 0 0)).setCell ⟨w.heap.size, 2, none⟩ (.slice none 0 0)).cell? ⟨w.heap.size, 2, none⟩ = some (.slice none 0 0) := by rw [hE.cell]; rfl
 clear hR hE
 go_wp2_with fail
 refine (left_any g d _ 0 _ hw2).mono ?_
 rintro r w3 ⟨rfl, rfl⟩
 go_wp2_with fail
 refine (left_any g d _ 0 _ hw2).mono ?_
 rintro r w3 ⟨rfl, rfl⟩
 go_wp2
 rw [HE.out]
 refine bodyPost_ret (v := .tuple #[.agg #[.int .u64 0, .slice none 0 0, .slice none 0 0], .pointer none, .int .i64 10, .int .i64 (((at_ + a + b : Nat)) : Int)]) (by simp [results, Tryz.results57, go_sem, e0, e1, e2]) rfl ⟨rfl, HGE.out⟩
theorem head_ok (g d : Nat) (s s1 s2 : List UInt8) (at_ t a L b : Nat) (f en : Int) (w : World) (h : Win w g d s 0) (hd : d ≠ g) (hdw : d < w.heap.size) (hs : at_ + s.length ≤ 100000) (hen : en = ((at_ + s.length : Nat) : Int))
  (h1 : getV s = (t, a, 0)) (hs1 : s1 = s.drop a) (h2 : getV s1 = (L, b, f)) (hs2 : s2 = s1.drop b) (hf : f = 0) (hsh : L ≤ s.length - a - b) (c s3 : List UInt8) (hc : c = s2.take L) (hs3 : s3 = s2.drop L) : Calls Tryz.prog 57 #[.pointer (some ⟨g, 0, none⟩), .int .i64 en] w (HeadOk t g d c s3 w) := by
 have o1 := getV_own s (by rw [h1])
 rw [h1] at o1
 obtain ⟨a1, a2, -, t64, -⟩ := o1
 dsimp only at a1 a2 t64
 have HLT : Hid (g < w.heap.size) := hHd h.lt
 have HW0 : Hid (Win (w.alloc (.cells #[.int .u64 0, .slice none 0 0, .slice none 0 0] 58)) g d s 0) := hHd (h.alloc _)
 have HC := hHd (take_at g d s s1 t a 0 _ HW0.out hd (by simp; omega) h1 hs1)
 have HC2 := hHd (fun W hW hdW => take_at g d s1 s2 L b f W hW hd hdW h2 hs2)
 have hl1 : s1.length = s.length - a := by rw [hs1]; exact List.length_drop
 have hl2 : s2.length = s1.length - b := by rw [hs2]; exact List.length_drop
 subst hf
 have o2 := getV_own s1 (by rw [h2])
 rw [h2] at o2
 obtain ⟨b1, b2, -, L64, -⟩ := o2
 dsimp only at b1 b2 L64
 have hnx : nx s2 0 (L : Int) = (c, s3, 0) := by rw [nx_ok (by omega) (by omega), hc, hs3]; rfl
 have HNX := hHd hnx
 have hd1 : ¬ s2.length < L := by omega
 have i1 : 0 ≤ en := by omega
 have i2 : en ≤ 100000 := by omega
 have i3 : s2.length ≤ 100000 := by omega
 have i4 : (L : Int) ≤ 100000 := by omega
 clear hsh hen hs L64 t64 hnx hc hs3
 clear h h1 h2 hl1 hl2 hs1 hs2
 go_enter Tryz.func57, Tryz.ntmps57
 go_wp2_with fail
 refine HC.out.mono ?_
 rintro r w1 ⟨rfl, hw1, hg1⟩
 have HD1 : Hid (d < w1.heap.size) := hHd (by have := hg1.size; simp at this; omega)
 have hR1 : Blk w1 w.heap.size 58 #[.int .u64 0, .slice none 0 0, .slice none 0 0] := (Blk.new w _ _).grown hg1 (by have := HLT.out; intro h; injection h with h; omega)
 go_wp2_with fail
 refine (HC2.out _ hw1 HD1.out).mono ?_
 rintro r w2 ⟨rfl, hw2, hg2⟩
 have hR : Blk w2 w.heap.size 58 #[.int .u64 0, .slice none 0 0, .slice none 0 0] := hR1.grown hg2 (by have := HLT.out; intro h; injection h with h; omega)
 have HG : Hid (w.grownBy w2 (some g)) := hHd (((World.grownBy_alloc w _ _).trans hg1).trans hg2)
 clear hw1 hg1 hR1 hg2
 go_wp2_with fail
 refine (left_any g d _ 0 _ hw2).mono ?_
 rintro r w3 ⟨rfl, rfl⟩
 go_wp2_with fail
 refine (left_any g d _ 0 _ hw2).mono ?_
 rintro r w3 ⟨rfl, rfl⟩
 have HD2 : Hid (d < w2.heap.size) := hHd (by have := HG.out.size; omega)
 go_wp2_with fail
 refine (sub_any g d s2 0 (L : Int) _ hw2 hd).mono ?_
 rintro r w4 ⟨rfl, hsub, hw4, hg4, hz4⟩
 rw [HNX.out] at hsub hw4
 have hz4' : w4.heap.size = w2.heap.size + 2 := hz4
 have hR4 : Blk w4 w.heap.size 58 #[.int .u64 0, .slice none 0 0, .slice none 0 0] := hR.grown hg4 (by have := HLT.out; intro h; injection h with h; omega)
 have HG4 : Hid (w.grownBy w4 (some g)) := hHd (HG.out.trans hg4)
 have HZ := hHd hz4'
 have HSW : Hid (w.heap.size < w2.heap.size) := hHd hR.lt
 have HSUB := hHd hsub
 have HW4 := hHd hw4
 clear hz4 hz4' hg4 hw2 hsub hw4
 have c0 : w4.cell? ⟨w.heap.size, 0, none⟩ = some (.int .u64 0) := by rw [hR4.cell]; rfl
 have f0 : w4.frozen? ⟨w.heap.size, 0, none⟩ = false := hR4.frozen 0
 have c1 : w4.cell? ⟨w.heap.size, 1, none⟩ = some (.slice none 0 0) := by rw [hR4.cell]; rfl
 have f1 : w4.frozen? ⟨w.heap.size, 1, none⟩ = false := hR4.frozen 1
 have c2 : w4.cell? ⟨w.heap.size, 2, none⟩ = some (.slice none 0 0) := by rw [hR4.cell]; rfl
 have f2 : w4.frozen? ⟨w.heap.size, 2, none⟩ = false := hR4.frozen 2
 have hE := hR4.set3 (.int .u64 (t : Int)) (.slice none 0 0) (.slice none 0 0)
 have HGE : Hid (w.grownBy (((w4.setCell ⟨w.heap.size, 0, none⟩ (.int .u64 (t : Int))).setCell ⟨w.heap.size, 1, none⟩ (.slice none 0 0)).setCell ⟨w.heap.size, 2, none⟩ (.slice none 0 0)) (some g)) := hHd (grown_set' (grown_set' (grown_set' HG4.out (Nat.le_refl _) _) (Nat.le_refl _) _) (Nat.le_refl _) _)
 have e0 : (((w4.setCell ⟨w.heap.size, 0, none⟩ (.int .u64 (t : Int))).setCell ⟨w.heap.size, 1, none⟩ (.slice none 0 0)).setCell ⟨w.heap.size, 2, none⟩ (.slice none 0 0)).cell? ⟨w.heap.size, 0, none⟩ = some (.int .u64 (t : Int)) := by rw [hE.cell]; rfl
 have e1 : (((w4.setCell ⟨w.heap.size, 0, none⟩ (.int .u64 (t : Int))).setCell ⟨w.heap.size, 1, none⟩ (.slice none 0 0)).setCell ⟨w.heap.size, 2, none⟩ (.slice none 0 0)).cell? ⟨w.heap.size, 1, none⟩ = some (.slice none 0 0) := by rw [hE.cell]; rfl
 have e2 : (((w4.setCell ⟨w.heap.size, 0, none⟩ (.int .u64 (t : Int))).setCell ⟨w.heap.size, 1, none⟩ (.slice none 0 0)).setCell ⟨w.heap.size, 2, none⟩ (.slice none 0 0)).cell? ⟨w.heap.size, 2, none⟩ = some (.slice none 0 0) := by rw [hE.cell]; rfl
 have HSE : Hid (Win (((w4.setCell ⟨w.heap.size, 0, none⟩ (.int .u64 (t : Int))).setCell ⟨w.heap.size, 1, none⟩ (.slice none 0 0)).setCell ⟨w.heap.size, 2, none⟩ (.slice none 0 0)) (w2.heap.size + 1) w2.heap.size c 0) := hHd (by have := HSW.out; exact ((HSUB.out.set_far (by show w2.heap.size + 1 ≠ w.heap.size; omega) (by show w2.heap.size ≠ w.heap.size; omega) _).set_far (by show w2.heap.size + 1 ≠ w.heap.size; omega) (by show w2.heap.size ≠ w.heap.size; omega) _).set_far (by show w2.heap.size + 1 ≠ w.heap.size; omega) (by show w2.heap.size ≠ w.heap.size; omega) _)
 have HWE : Hid (Win (((w4.setCell ⟨w.heap.size, 0, none⟩ (.int .u64 (t : Int))).setCell ⟨w.heap.size, 1, none⟩ (.slice none 0 0)).setCell ⟨w.heap.size, 2, none⟩ (.slice none 0 0)) g d s3 0) := hHd (by have h0 := HLT.out; exact ((HW4.out.set_far (by show g ≠ w.heap.size; omega) (by show d ≠ w.heap.size; omega) _).set_far (by show g ≠ w.heap.size; omega) (by show d ≠ w.heap.size; omega) _).set_far (by show g ≠ w.heap.size; omega) (by show d ≠ w.heap.size; omega) _)
 have HSI : Hid (w.heap.size ≤ w2.heap.size) := hHd (Nat.le_of_lt HSW.out)
 clear hR hR4 hE
 go_wp2
 refine bodyPost_ret (v := .tuple #[.agg #[.int .u64 (t : Int), .slice none 0 0, .slice none 0 0], .pointer (some ⟨w2.heap.size + 1, 0, none⟩), .int .i64 0, .int .i64 0]) (by simp [results, Tryz.results57, go_sem, e0, e1, e2]) rfl ⟨w2.heap.size, rfl, HSI.out, HSE.out, HWE.out, HGE.out⟩
end Go.Proofs.YtleidkpdpabkpaaGreatDoor
