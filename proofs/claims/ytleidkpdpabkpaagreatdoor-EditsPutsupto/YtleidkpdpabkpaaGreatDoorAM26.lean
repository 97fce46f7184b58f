/- EdvF -/
import Derived.Test.YtleidkpdpabkpaaGreatDoorAM25
set_option linter.unusedSimpArgs false
set_option linter.unusedVariables false
set_option maxRecDepth 100000
set_option maxHeartbeats 8000000
namespace Go.Proofs.YtleidkpdpabkpaaGreatDoor
open Go.RowKit
section
attribute [local go_sem] Oper.semAt_some
theorem gr_bel18 {a b c : World} {g : Nat} {B : Nat} (h : a.grownBy b (some g)) (k : Below B b c) (hB : a.heap.size ≤ B) : a.grownBy c (some g) :=
 ⟨k.os.trans h.os, k.tape.trans h.tape, k.output.trans h.output, Nat.le_trans h.size k.size, fun i hi hne => (k.block i (Nat.lt_of_lt_of_le hi hB)).trans (h.block i hi hne)⟩
def RdI18 (S : Nat → Prop) (w : World) (g : Nat) (f : Fo) : Prop := (∀ b, S b → b < w.heap.size ∧ b ≠ g) ∧ ∃ A c, Blk w g 138 #[.slice A f.len c] ∧ FV DataI w S (.slice A f.len c) f
theorem RdI18.other {S : Nat → Prop} {w w' : World} {g : Nat} {f : Fo} (h : RdI18 S w g f) (hs : w.heap.size ≤ w'.heap.size) (hk : ∀ b, b < w.heap.size → b = g ∨ S b → w'.heap[b]? = w.heap[b]?) : RdI18 S w' g f := by
 obtain ⟨h1, A, c, h2, h3⟩ := h
 exact ⟨fun b hb => ⟨Nat.lt_of_lt_of_le (h1 b hb).1 hs, (h1 b hb).2⟩, A, c, (hk g h2.lt (.inl rfl)).trans h2, h3.kept stays_I (fun b hb => hk b (h1 b hb).1 (.inr hb)) (fun _ hb => hb)⟩
theorem RdI18.go {S : Nat → Prop} {w w' : World} {g : Nat} {f : Fo} (h : RdI18 S w g f) (hb : Below w.heap.size w w') : RdI18 S w' g f := h.other hb.size (fun b hl _ => hb.block b hl)
theorem RdI18.lt {S : Nat → Prop} {w : World} {g : Nat} {f : Fo} (h : RdI18 S w g f) : g < w.heap.size := by obtain ⟨_, A, c, h2, _⟩ := h; exact h2.lt
theorem FV.cons18 {S : Nat → Prop} {w : World} {A : Option Addr} {c t : Nat} {d : List UInt8} {k r : Fo} (h : FV DataI w S (.slice A (r.len + 1) c) (.cons t d k r)) :
  ∃ b o dA dc kA kc, A = some ⟨b, o, none⟩ ∧ S b ∧ r.len + 1 ≤ c ∧ t < 18446744073709551616 ∧ w.cell? ⟨b, o, none⟩ = some (.int .u64 (t : Int)) ∧ w.cell? ⟨b, o + 1, none⟩ = some (.slice dA d.length dc) ∧ w.cell? ⟨b, o + 2, none⟩ = some (.slice kA k.len kc) ∧
   DataI w S (.slice dA d.length dc) d ∧ FV DataI w S (.slice kA k.len kc) k ∧ FV DataI w S (.slice (if c = 1 then some ⟨b, o, none⟩ else some ⟨b, o + 3, none⟩) r.len (c - 1)) r := by
 obtain ⟨A', c', e, h1, h2⟩ := h
 injection e with e1 e2 e3
 subst e1 e3
 obtain ⟨b, o, rfl, hS, g1, gt, ⟨dv, g2, g3⟩, ⟨kA, kc, g4, g5, g6⟩, g7⟩ := h2 (by simp [Fo.len])
 obtain ⟨dA, dc, rfl⟩ : ∃ A c, dv = .slice A d.length c := by obtain ⟨_, ⟨A, c, e, _⟩, _⟩ := g3; exact ⟨A, c, e⟩
 refine ⟨b, o, dA, dc, kA, kc, rfl, hS, h1, gt, g1, g2, g4, g3, ⟨kA, kc, rfl, g5, g6⟩, ⟨_, _, rfl, by have : r.len + 1 ≤ c := h1; omega, fun h0 => ?_⟩⟩
 rw [if_neg (by have : r.len + 1 ≤ c := h1; omega)]
 exact ⟨b, o + 3, rfl, hS, g7⟩
def hasX18 (t : Nat) : Fo → Bool
 | .nil => false
 | .cons u _ _ _ => decide (u = t)
theorem has_any18 (S : Nat → Prop) (g t : Nat) (f : Fo) (w : World) (h : RdI18 S w g f) (hf : f.len ≤ 1000000) : Calls Tryz.prog 110 #[.pointer (some ⟨g, 0, none⟩), .int .u64 (t : Int)] w (fun r w' => r = .returned (.bool (hasX18 t f)) ∧ w = w') := by
 obtain ⟨-, A, c, h2, h3⟩ := h
 have q0 : w.cell? ⟨g, 0, none⟩ = some (.slice A f.len c) := (h2.cell 0).trans rfl
 cases f with
 | nil =>
  have l0 : ((Fo.nil : Fo).len : Int) = 0 := rfl
  clear h2 h3
  simp only [Fo.len] at q0
  go_enter Tryz.func110, Tryz.ntmps110
  go_wp2
  go_ret
  exact ⟨rfl, rfl⟩
 | cons u d k r =>
  obtain ⟨b, o, dA, dc, kA, kc, rfl, hS, hc, ht, c0, c1, c2, hd, hk, hr⟩ := h3.cons18
  simp only [Fo.len] at q0 hf
  have l0 : (0 : Int) < ((r.len + 1 : Nat) : Int) := by omega
  have l1 : 0 < r.len + 1 := by omega
  obtain ⟨n, hn⟩ : ∃ n, n = r.len + 1 := ⟨_, rfl⟩
  rw [← hn] at q0 l0 l1 hc
  by_cases hu : u = t
  ·have HE : Hid (hasX18 t (.cons u d k r) = true) := hHd (by simp [hasX18, hu])
   have e1 : ((u : Int) == (t : Int)) = true := by rw [hu]; exact beq_self_eq_true _
   have e2 : (u == t) = true := by rw [hu]; exact beq_self_eq_true _
   clear h2 h3 hd hk hr hu hf hS ht c1 c2 hn
   go_enter Tryz.func110, Tryz.ntmps110
   go_wp2
   go_ret
   exact ⟨by rw [HE.out]; rfl, rfl⟩
  ·have HE : Hid (hasX18 t (.cons u d k r) = false) := hHd (by simp [hasX18, hu])
   have e1 : ((u : Int) == (t : Int)) = false := by rw [beq_eq_false_iff_ne]; omega
   have e2 : (u == t) = false := beq_eq_false_iff_ne.2 hu
   clear h2 h3 hd hk hr hu hf hS ht c1 c2 hn
   go_enter Tryz.func110, Tryz.ntmps110
   go_wp2
   go_ret
   exact ⟨by rw [HE.out]; rfl, rfl⟩
theorem end_any18 (S : Nat → Prop) (g : Nat) (f : Fo) (w : World) (h : RdI18 S w g f) (hf : f.len ≤ 1000000) : Calls Tryz.prog 91 #[.pointer (some ⟨g, 0, none⟩)] w (ReqP (decide (f = .nil)) w) := by
 obtain ⟨-, A, c, h2, h3⟩ := h
 have q0 : w.cell? ⟨g, 0, none⟩ = some (.slice A f.len c) := (h2.cell 0).trans rfl
 have HR : ∀ b W, Hid (Calls Tryz.prog 61 #[.bool b] W (ReqP b W)) := fun b W => hHd (require_any b W)
 cases f with
 | nil =>
  clear h2 h3
  simp only [Fo.len] at q0
  go_enter Tryz.func91, Tryz.ntmps91
  go_wp2_with fail
  refine (HR true _).out.mono ?_
  rintro r w1 ⟨h1, rfl⟩
  obtain rfl : r = .returned (.tuple #[]) := by simpa using h1
  go_wp2
  go_end0
  exact ⟨rfl, rfl⟩
 | cons u d k r =>
  simp only [Fo.len] at q0 hf
  have l0 : (((r.len + 1 : Nat) : Int) == 0) = false := by rw [beq_eq_false_iff_ne]; omega
  have l1 : ((r.len + 1) == 0) = false := by rw [beq_eq_false_iff_ne]; omega
  obtain ⟨n, hn⟩ : ∃ n, n = r.len + 1 := ⟨_, rfl⟩
  rw [← hn] at q0 l0 l1
  clear h2 h3 hf hn
  go_enter Tryz.func91, Tryz.ntmps91
  go_wp2_with fail
  refine (HR false _).out.mono ?_
  rintro r w1 ⟨h1, rfl⟩
  obtain rfl : r = .panicked inv18 := by simpa using h1
  go_wp2
  exact ⟨rfl, rfl, rfl⟩
def TakP18 (S : Nat → Prop) (g t : Nat) (d : List UInt8) (k r : Fo) (w : World) (e : Ending) (w' : World) : Prop := ∃ dA dc kA kc, e = .returned (.agg #[.int .u64 (t : Int), .slice dA d.length dc, .slice kA k.len kc]) ∧ DataI w' S (.slice dA d.length dc) d ∧ FV DataI w' S (.slice kA k.len kc) k ∧ RdI18 S w' g r ∧ w.grownBy w' (some g)
theorem take_no18 (S : Nat → Prop) (g t : Nat) (f : Fo) (w : World) (h : RdI18 S w g f) (hf : f.len ≤ 1000000) (hx : hasX18 t f = false) : Calls Tryz.prog 89 #[.pointer (some ⟨g, 0, none⟩), .int .u64 (t : Int)] w (fun r w' => r = .panicked inv18 ∧ Below w.heap.size w w') := by
 have hb : Below w.heap.size w (w.alloc (.cells #[.int .u64 0, .slice none 0 0, .slice none 0 0] 58)) := bAl
 have HH := hHd (has_any18 S g t f _ (h.go hb) hf)
 rw [hx] at HH
 have HR : ∀ W, Hid (Calls Tryz.prog 61 #[.bool false] W (fun r w' => r = .panicked inv18 ∧ W = w')) := fun W => hHd (require_no W)
 have HB := hHd hb
 clear h hf hx hb
 go_enter Tryz.func89, Tryz.ntmps89
 go_wp2_with fail
 refine HH.out.mono ?_
 rintro r w1 ⟨rfl, rfl⟩
 go_wp2_with fail
 refine (HR _).out.mono ?_
 rintro r w1 ⟨rfl, rfl⟩
 go_wp2
 exact ⟨rfl, rfl, HB.out⟩
theorem take_one18 (S : Nat → Prop) (g t : Nat) (d : List UInt8) (k r : Fo) (b o c : Nat) (dA : Option Addr) (dc : Nat) (kA : Option Addr) (kc : Nat) (w : World) (h : RdI18 S w g (.cons t d k r)) (hf : r.len + 1 ≤ 1000000) (hbk : Blk w g 138 #[.slice (some ⟨b, o, none⟩) (r.len + 1) c]) (hS : S b) (hc : r.len + 1 ≤ c)
  (c0 : w.cell? ⟨b, o, none⟩ = some (.int .u64 (t : Int))) (c1 : w.cell? ⟨b, o + 1, none⟩ = some (.slice dA d.length dc)) (c2 : w.cell? ⟨b, o + 2, none⟩ = some (.slice kA k.len kc)) (hd : DataI w S (.slice dA d.length dc) d) (hk : FV DataI w S (.slice kA k.len kc) k) (hr : FV DataI w S (.slice (some ⟨b, o, none⟩) r.len 0) r) (h1 : c = 1) :
  Calls Tryz.prog 89 #[.pointer (some ⟨g, 0, none⟩), .int .u64 (t : Int)] w (TakP18 S g t d k r w) := by
 have hbS : b < w.heap.size := (h.1 b hS).1
 have hg := h.lt
 have hb1 : Below w.heap.size w (w.alloc (.cells #[.int .u64 0, .slice none 0 0, .slice none 0 0] 58)) := bAl
 have hh := has_any18 S g t _ _ (h.go hb1) (by simpa [Fo.len] using hf)
 rw [show hasX18 t (.cons t d k r) = true by simp [hasX18]] at hh
 have HH := hHd hh
 have HR : ∀ W, Hid (Calls Tryz.prog 61 #[.bool true] W (fun r w' => r = .returned (.tuple #[]) ∧ W = w')) := fun W => hHd (require_yes W)
 have hb2 : Below w.heap.size w ((w.alloc (.cells #[.int .u64 0, .slice none 0 0, .slice none 0 0] 58)).alloc (.cells #[.int .u64 (t : Int), .slice dA d.length dc, .slice kA k.len kc] 58)) := hb1.alloc hb1.size _
 have hk2 : Blk ((w.alloc (.cells #[.int .u64 0, .slice none 0 0, .slice none 0 0] 58)).alloc (.cells #[.int .u64 (t : Int), .slice dA d.length dc, .slice kA k.len kc] 58)) g 138 #[.slice (some ⟨b, o, none⟩) (r.len + 1) c] := hbk.below hb2 hg
 have p0 : (w.alloc (.cells #[.int .u64 0, .slice none 0 0, .slice none 0 0] 58)).cell? ⟨b, o, none⟩ = some (.int .u64 (t : Int)) := (hb1.cell (p := ⟨b, o, none⟩) hbS).trans c0
 have p1 : (w.alloc (.cells #[.int .u64 0, .slice none 0 0, .slice none 0 0] 58)).cell? ⟨b, o + 1, none⟩ = some (.slice dA d.length dc) := (hb1.cell (p := ⟨b, o + 1, none⟩) hbS).trans c1
 have p2 : (w.alloc (.cells #[.int .u64 0, .slice none 0 0, .slice none 0 0] 58)).cell? ⟨b, o + 2, none⟩ = some (.slice kA k.len kc) := (hb1.cell (p := ⟨b, o + 2, none⟩) hbS).trans c2
 have r1 : (w.alloc (.cells #[.int .u64 0, .slice none 0 0, .slice none 0 0] 58)).cell? ⟨g, 0, none⟩ = some (.slice (some ⟨b, o, none⟩) (r.len + 1) c) := ((hbk.below hb1 hg).cell 0).trans rfl
 have r2 : ((w.alloc (.cells #[.int .u64 0, .slice none 0 0, .slice none 0 0] 58)).alloc (.cells #[.int .u64 (t : Int), .slice dA d.length dc, .slice kA k.len kc] 58)).cell? ⟨g, 0, none⟩ = some (.slice (some ⟨b, o, none⟩) (r.len + 1) c) := (hk2.cell 0).trans rfl
 have rz : ((w.alloc (.cells #[.int .u64 0, .slice none 0 0, .slice none 0 0] 58)).alloc (.cells #[.int .u64 (t : Int), .slice dA d.length dc, .slice kA k.len kc] 58)).frozen? ⟨g, 0, none⟩ = false := hk2.frozen 0
 have k3 : Blk (((w.alloc (.cells #[.int .u64 0, .slice none 0 0, .slice none 0 0] 58)).alloc (.cells #[.int .u64 (t : Int), .slice dA d.length dc, .slice kA k.len kc] 58)).setCell ⟨g, 0, none⟩ (.slice (some ⟨b, o, none⟩) r.len 0)) g 138 #[.slice (some ⟨b, o, none⟩) r.len 0] := hk2.set_ 0 _
 have gg : w.grownBy (((w.alloc (.cells #[.int .u64 0, .slice none 0 0, .slice none 0 0] 58)).alloc (.cells #[.int .u64 (t : Int), .slice dA d.length dc, .slice kA k.len kc] 58)).setCell ⟨g, 0, none⟩ (.slice (some ⟨b, o, none⟩) r.len 0)) (some g) := by
  have h1 : w.grownBy ((w.alloc (.cells #[.int .u64 0, .slice none 0 0, .slice none 0 0] 58)).alloc (.cells #[.int .u64 (t : Int), .slice dA d.length dc, .slice kA k.len kc] 58)) (some g) := ⟨hb2.os, hb2.tape, hb2.output, hb2.size, fun i hi _ => hb2.block i hi⟩
  exact ⟨h1.os, h1.tape, h1.output, by simpa [World.setCell] using h1.size, fun i hi hne => (Below.heap_setCell ((w.alloc (.cells #[.int .u64 0, .slice none 0 0, .slice none 0 0] 58)).alloc (.cells #[.int .u64 (t : Int), .slice dA d.length dc, .slice kA k.len kc] 58)) ⟨g, 0, none⟩ _ i (fun e => hne (by rw [e]))).trans (h1.block i hi hne)⟩
 have HX4 : Hid (Blk (((w.alloc (.cells #[.int .u64 0, .slice none 0 0, .slice none 0 0] 58)).alloc (.cells #[.int .u64 (t : Int), .slice dA d.length dc, .slice kA k.len kc] 58)).setCell ⟨g, 0, none⟩ (.slice (some ⟨b, o, none⟩) r.len 0)) w.heap.size 58 #[.int .u64 0, .slice none 0 0, .slice none 0 0]) := hHd (((Blk.new w 58 #[.int .u64 0, .slice none 0 0, .slice none 0 0]).alloc _).far (p := ⟨g, 0, none⟩) (by show w.heap.size ≠ g; omega) _)
 have HX5 : Hid (Blk (((w.alloc (.cells #[.int .u64 0, .slice none 0 0, .slice none 0 0] 58)).alloc (.cells #[.int .u64 (t : Int), .slice dA d.length dc, .slice kA k.len kc] 58)).setCell ⟨g, 0, none⟩ (.slice (some ⟨b, o, none⟩) r.len 0)) (w.heap.size + 1) 58 #[.int .u64 (t : Int), .slice dA d.length dc, .slice kA k.len kc]) := hHd (Blk.far (blk_at18 (by simp) _ _) (p := ⟨g, 0, none⟩) (by show w.heap.size + 1 ≠ g; omega) _)
 have HK3 := hHd k3
 have HGG := hHd gg
 have HSb : Hid (∀ x, S x → x < w.heap.size ∧ x ≠ g) := hHd h.1
 have HDD := hHd hd
 have HKK := hHd hk
 have HRR := hHd hr
 have HGL := hHd hg
 have i1 : (0 : Int) < ((r.len + 1 : Nat) : Int) := by omega
 have i2 : 0 < r.len + 1 := by omega
 have i3 : 1 ≤ r.len + 1 := by omega
 clear h hbk hS c0 c1 c2 hd hk hr hbS hg hb1 hb2 hh k3 gg hk2
 go_enter Tryz.func89, Tryz.ntmps89
 go_wp2_with fail
 refine HH.out.mono ?_
 rintro e w1 ⟨rfl, rfl⟩
 go_wp2_with fail
 refine (HR _).out.mono ?_
 rintro e w1 ⟨rfl, rfl⟩
 go_upto_region 4 with (fail)
 clear p0 p1 p2 r1 r2 rz
 revert HX4 HX5 HK3 HGG
 generalize (((w.alloc (.cells #[.int .u64 0, .slice none 0 0, .slice none 0 0] 58)).alloc (.cells #[.int .u64 (t : Int), .slice dA d.length dc, .slice kA k.len kc] 58)).setCell ⟨g, 0, none⟩ (.slice (some ⟨b, o, none⟩) r.len 0)) = w3
 intro HX4 HX5 HK3 HGG
 have HB9 : Hid (Below w.heap.size w3 (set3o w3 w.heap.size 0 (.int .u64 (t : Int)) (.slice dA d.length dc) (.slice kA k.len kc))) := hHd (set3o_below18 (Nat.le_refl _))
 have V9 : Veil18 (Blk (set3o w3 w.heap.size 0 (.int .u64 (t : Int)) (.slice dA d.length dc) (.slice kA k.len kc)) w.heap.size 58 #[.int .u64 (t : Int), .slice dA d.length dc, .slice kA k.len kc] ∧ DataI (set3o w3 w.heap.size 0 (.int .u64 (t : Int)) (.slice dA d.length dc) (.slice kA k.len kc)) S (.slice dA d.length dc) d ∧ FV DataI (set3o w3 w.heap.size 0 (.int .u64 (t : Int)) (.slice dA d.length dc) (.slice kA k.len kc)) S (.slice kA k.len kc) k ∧ RdI18 S (set3o w3 w.heap.size 0 (.int .u64 (t : Int)) (.slice dA d.length dc) (.slice kA k.len kc)) g r ∧ w.grownBy (set3o w3 w.heap.size 0 (.int .u64 (t : Int)) (.slice dA d.length dc) (.slice kA k.len kc)) (some g)) := .mk (by
  have hg9 := gr_bel18 HGG.out HB9.out (Nat.le_refl _)
  have hkS : ∀ x, S x → (set3o w3 w.heap.size 0 (.int .u64 (t : Int)) (.slice dA d.length dc) (.slice kA k.len kc)).heap[x]? = w.heap[x]? := fun x hx => hg9.block x (HSb.out x hx).1 (fun e => (HSb.out x hx).2 (Option.some.inj e))
  exact ⟨blk_set3_18 HX4.out _ _ _, stays_I _ _ _ _ _ _ hkS (fun _ h => h) HDD.out, HKK.out.kept stays_I hkS (fun _ h => h), ⟨fun x hx => ⟨Nat.lt_of_lt_of_le (HSb.out x hx).1 hg9.size, (HSb.out x hx).2⟩, _, _, HK3.out.below HB9.out HGL.out, HRR.out.kept stays_I hkS (fun _ h => h)⟩, hg9⟩)
 obtain ⟨y0, y1, y2⟩ := cl3 HX5.out
 have fz0 : w3.frozen? ⟨w.heap.size, 0, none⟩ = false := HX4.out.frozen 0
 have fz1 : w3.frozen? ⟨w.heap.size, 1, none⟩ = false := HX4.out.frozen 1
 have fz2 : w3.frozen? ⟨w.heap.size, 2, none⟩ = false := HX4.out.frozen 2
 obtain ⟨fq0, fq1, fq2⟩ := cl3 HX4.out
 clear HX4 HX5 HK3 HGG HB9 HDD HKK HRR
 go_wp2_with fail
 refine bodyPost_ret (results_cell_row rfl _ _ w.heap.size 58 _ (0, 0) _ rfl V9.out.1 Tryz.underlying58 rfl (by kernel_rfl)) rfl ?_
 exact ⟨_, _, _, _, rfl, V9.out.2⟩
theorem take_more18 (S : Nat → Prop) (g t : Nat) (d : List UInt8) (k r : Fo) (b o c : Nat) (dA : Option Addr) (dc : Nat) (kA : Option Addr) (kc : Nat) (w : World) (h : RdI18 S w g (.cons t d k r)) (hf : r.len + 1 ≤ 1000000) (hbk : Blk w g 138 #[.slice (some ⟨b, o, none⟩) (r.len + 1) c]) (hS : S b) (hc : r.len + 1 ≤ c)
  (c0 : w.cell? ⟨b, o, none⟩ = some (.int .u64 (t : Int))) (c1 : w.cell? ⟨b, o + 1, none⟩ = some (.slice dA d.length dc)) (c2 : w.cell? ⟨b, o + 2, none⟩ = some (.slice kA k.len kc)) (hd : DataI w S (.slice dA d.length dc) d) (hk : FV DataI w S (.slice kA k.len kc) k) (hr : FV DataI w S (.slice (some ⟨b, o + 3, none⟩) r.len (c - 1)) r) (h1 : ¬ c = 1) :
  Calls Tryz.prog 89 #[.pointer (some ⟨g, 0, none⟩), .int .u64 (t : Int)] w (TakP18 S g t d k r w) := by
 have hbS : b < w.heap.size := (h.1 b hS).1
 have hg := h.lt
 have hb1 : Below w.heap.size w (w.alloc (.cells #[.int .u64 0, .slice none 0 0, .slice none 0 0] 58)) := bAl
 have hh := has_any18 S g t _ _ (h.go hb1) (by simpa [Fo.len] using hf)
 rw [show hasX18 t (.cons t d k r) = true by simp [hasX18]] at hh
 have HH := hHd hh
 have HR : ∀ W, Hid (Calls Tryz.prog 61 #[.bool true] W (fun r w' => r = .returned (.tuple #[]) ∧ W = w')) := fun W => hHd (require_yes W)
 have hb2 : Below w.heap.size w ((w.alloc (.cells #[.int .u64 0, .slice none 0 0, .slice none 0 0] 58)).alloc (.cells #[.int .u64 (t : Int), .slice dA d.length dc, .slice kA k.len kc] 58)) := hb1.alloc hb1.size _
 have hk2 : Blk ((w.alloc (.cells #[.int .u64 0, .slice none 0 0, .slice none 0 0] 58)).alloc (.cells #[.int .u64 (t : Int), .slice dA d.length dc, .slice kA k.len kc] 58)) g 138 #[.slice (some ⟨b, o, none⟩) (r.len + 1) c] := hbk.below hb2 hg
 have p0 : (w.alloc (.cells #[.int .u64 0, .slice none 0 0, .slice none 0 0] 58)).cell? ⟨b, o, none⟩ = some (.int .u64 (t : Int)) := (hb1.cell (p := ⟨b, o, none⟩) hbS).trans c0
 have p1 : (w.alloc (.cells #[.int .u64 0, .slice none 0 0, .slice none 0 0] 58)).cell? ⟨b, o + 1, none⟩ = some (.slice dA d.length dc) := (hb1.cell (p := ⟨b, o + 1, none⟩) hbS).trans c1
 have p2 : (w.alloc (.cells #[.int .u64 0, .slice none 0 0, .slice none 0 0] 58)).cell? ⟨b, o + 2, none⟩ = some (.slice kA k.len kc) := (hb1.cell (p := ⟨b, o + 2, none⟩) hbS).trans c2
 have r1 : (w.alloc (.cells #[.int .u64 0, .slice none 0 0, .slice none 0 0] 58)).cell? ⟨g, 0, none⟩ = some (.slice (some ⟨b, o, none⟩) (r.len + 1) c) := ((hbk.below hb1 hg).cell 0).trans rfl
 have r2 : ((w.alloc (.cells #[.int .u64 0, .slice none 0 0, .slice none 0 0] 58)).alloc (.cells #[.int .u64 (t : Int), .slice dA d.length dc, .slice kA k.len kc] 58)).cell? ⟨g, 0, none⟩ = some (.slice (some ⟨b, o, none⟩) (r.len + 1) c) := (hk2.cell 0).trans rfl
 have rz : ((w.alloc (.cells #[.int .u64 0, .slice none 0 0, .slice none 0 0] 58)).alloc (.cells #[.int .u64 (t : Int), .slice dA d.length dc, .slice kA k.len kc] 58)).frozen? ⟨g, 0, none⟩ = false := hk2.frozen 0
 have k3 : Blk (((w.alloc (.cells #[.int .u64 0, .slice none 0 0, .slice none 0 0] 58)).alloc (.cells #[.int .u64 (t : Int), .slice dA d.length dc, .slice kA k.len kc] 58)).setCell ⟨g, 0, none⟩ (.slice (some ⟨b, o + 3, none⟩) r.len (c - 1))) g 138 #[.slice (some ⟨b, o + 3, none⟩) r.len (c - 1)] := hk2.set_ 0 _
 have gg : w.grownBy (((w.alloc (.cells #[.int .u64 0, .slice none 0 0, .slice none 0 0] 58)).alloc (.cells #[.int .u64 (t : Int), .slice dA d.length dc, .slice kA k.len kc] 58)).setCell ⟨g, 0, none⟩ (.slice (some ⟨b, o + 3, none⟩) r.len (c - 1))) (some g) := by
  have h1 : w.grownBy ((w.alloc (.cells #[.int .u64 0, .slice none 0 0, .slice none 0 0] 58)).alloc (.cells #[.int .u64 (t : Int), .slice dA d.length dc, .slice kA k.len kc] 58)) (some g) := ⟨hb2.os, hb2.tape, hb2.output, hb2.size, fun i hi _ => hb2.block i hi⟩
  exact ⟨h1.os, h1.tape, h1.output, by simpa [World.setCell] using h1.size, fun i hi hne => (Below.heap_setCell ((w.alloc (.cells #[.int .u64 0, .slice none 0 0, .slice none 0 0] 58)).alloc (.cells #[.int .u64 (t : Int), .slice dA d.length dc, .slice kA k.len kc] 58)) ⟨g, 0, none⟩ _ i (fun e => hne (by rw [e]))).trans (h1.block i hi hne)⟩
 have HX4 : Hid (Blk (((w.alloc (.cells #[.int .u64 0, .slice none 0 0, .slice none 0 0] 58)).alloc (.cells #[.int .u64 (t : Int), .slice dA d.length dc, .slice kA k.len kc] 58)).setCell ⟨g, 0, none⟩ (.slice (some ⟨b, o + 3, none⟩) r.len (c - 1))) w.heap.size 58 #[.int .u64 0, .slice none 0 0, .slice none 0 0]) := hHd (((Blk.new w 58 #[.int .u64 0, .slice none 0 0, .slice none 0 0]).alloc _).far (p := ⟨g, 0, none⟩) (by show w.heap.size ≠ g; omega) _)
 have HX5 : Hid (Blk (((w.alloc (.cells #[.int .u64 0, .slice none 0 0, .slice none 0 0] 58)).alloc (.cells #[.int .u64 (t : Int), .slice dA d.length dc, .slice kA k.len kc] 58)).setCell ⟨g, 0, none⟩ (.slice (some ⟨b, o + 3, none⟩) r.len (c - 1))) (w.heap.size + 1) 58 #[.int .u64 (t : Int), .slice dA d.length dc, .slice kA k.len kc]) := hHd (Blk.far (blk_at18 (by simp) _ _) (p := ⟨g, 0, none⟩) (by show w.heap.size + 1 ≠ g; omega) _)
 have HK3 := hHd k3
 have HGG := hHd gg
 have HSb : Hid (∀ x, S x → x < w.heap.size ∧ x ≠ g) := hHd h.1
 have HDD := hHd hd
 have HKK := hHd hk
 have HRR := hHd hr
 have HGL := hHd hg
 have i1 : (0 : Int) < ((r.len + 1 : Nat) : Int) := by omega
 have i2 : 0 < r.len + 1 := by omega
 have i3 : 1 ≤ r.len + 1 := by omega
 clear h hbk hS c0 c1 c2 hd hk hr hbS hg hb1 hb2 hh k3 gg hk2
 go_enter Tryz.func89, Tryz.ntmps89
 go_wp2_with fail
 refine HH.out.mono ?_
 rintro e w1 ⟨rfl, rfl⟩
 go_wp2_with fail
 refine (HR _).out.mono ?_
 rintro e w1 ⟨rfl, rfl⟩
 go_upto_region 4 with (fail)
 clear p0 p1 p2 r1 r2 rz
 revert HX4 HX5 HK3 HGG
 generalize (((w.alloc (.cells #[.int .u64 0, .slice none 0 0, .slice none 0 0] 58)).alloc (.cells #[.int .u64 (t : Int), .slice dA d.length dc, .slice kA k.len kc] 58)).setCell ⟨g, 0, none⟩ (.slice (some ⟨b, o + 3, none⟩) r.len (c - 1))) = w3
 intro HX4 HX5 HK3 HGG
 have HB9 : Hid (Below w.heap.size w3 (set3o w3 w.heap.size 0 (.int .u64 (t : Int)) (.slice dA d.length dc) (.slice kA k.len kc))) := hHd (set3o_below18 (Nat.le_refl _))
 have V9 : Veil18 (Blk (set3o w3 w.heap.size 0 (.int .u64 (t : Int)) (.slice dA d.length dc) (.slice kA k.len kc)) w.heap.size 58 #[.int .u64 (t : Int), .slice dA d.length dc, .slice kA k.len kc] ∧ DataI (set3o w3 w.heap.size 0 (.int .u64 (t : Int)) (.slice dA d.length dc) (.slice kA k.len kc)) S (.slice dA d.length dc) d ∧ FV DataI (set3o w3 w.heap.size 0 (.int .u64 (t : Int)) (.slice dA d.length dc) (.slice kA k.len kc)) S (.slice kA k.len kc) k ∧ RdI18 S (set3o w3 w.heap.size 0 (.int .u64 (t : Int)) (.slice dA d.length dc) (.slice kA k.len kc)) g r ∧ w.grownBy (set3o w3 w.heap.size 0 (.int .u64 (t : Int)) (.slice dA d.length dc) (.slice kA k.len kc)) (some g)) := .mk (by
  have hg9 := gr_bel18 HGG.out HB9.out (Nat.le_refl _)
  have hkS : ∀ x, S x → (set3o w3 w.heap.size 0 (.int .u64 (t : Int)) (.slice dA d.length dc) (.slice kA k.len kc)).heap[x]? = w.heap[x]? := fun x hx => hg9.block x (HSb.out x hx).1 (fun e => (HSb.out x hx).2 (Option.some.inj e))
  exact ⟨blk_set3_18 HX4.out _ _ _, stays_I _ _ _ _ _ _ hkS (fun _ h => h) HDD.out, HKK.out.kept stays_I hkS (fun _ h => h), ⟨fun x hx => ⟨Nat.lt_of_lt_of_le (HSb.out x hx).1 hg9.size, (HSb.out x hx).2⟩, _, _, HK3.out.below HB9.out HGL.out, HRR.out.kept stays_I hkS (fun _ h => h)⟩, hg9⟩)
 obtain ⟨y0, y1, y2⟩ := cl3 HX5.out
 have fz0 : w3.frozen? ⟨w.heap.size, 0, none⟩ = false := HX4.out.frozen 0
 have fz1 : w3.frozen? ⟨w.heap.size, 1, none⟩ = false := HX4.out.frozen 1
 have fz2 : w3.frozen? ⟨w.heap.size, 2, none⟩ = false := HX4.out.frozen 2
 obtain ⟨fq0, fq1, fq2⟩ := cl3 HX4.out
 clear HX4 HX5 HK3 HGG HB9 HDD HKK HRR
 go_wp2_with fail
 refine bodyPost_ret (results_cell_row rfl _ _ w.heap.size 58 _ (0, 0) _ rfl V9.out.1 Tryz.underlying58 rfl (by kernel_rfl)) rfl ?_
 exact ⟨_, _, _, _, rfl, V9.out.2⟩
theorem take_yes18 (S : Nat → Prop) (g t : Nat) (d : List UInt8) (k r : Fo) (w : World) (h : RdI18 S w g (.cons t d k r)) (hf : r.len + 1 ≤ 1000000) : Calls Tryz.prog 89 #[.pointer (some ⟨g, 0, none⟩), .int .u64 (t : Int)] w (TakP18 S g t d k r w) := by
 obtain ⟨-, A, c, hbk, hv⟩ := id h
 obtain ⟨b, o, dA, dc, kA, kc, rfl, hS, hc, ht, c0, c1, c2, hd, hk, hr⟩ := hv.cons18
 by_cases h1 : c = 1
 ·rw [if_pos h1] at hr
  exact take_one18 S g t d k r b o c dA dc kA kc w h hf hbk hS hc c0 c1 c2 hd hk (by rw [h1] at hr; exact hr) h1
 ·rw [if_neg h1] at hr
  exact take_more18 S g t d k r b o c dA dc kA kc w h hf hbk hS hc c0 c1 c2 hd hk hr h1
end
end Go.Proofs.YtleidkpdpabkpaaGreatDoor
