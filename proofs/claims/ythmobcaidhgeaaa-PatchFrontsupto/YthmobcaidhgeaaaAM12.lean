/- Law17C -/
import Derived.Test.YthmobcaidhgeaaaAM11
set_option linter.unusedSimpArgs false
set_option linter.unusedVariables false
set_option maxRecDepth 100000
set_option maxHeartbeats 8000000
namespace Go.Proofs.Ythmobcaidhgeaaa
open Go.RowKit
section
attribute [local go_sem] Oper.semAt_some
theorem patchFronts_not (a b : NdD) (f g : NdF) (A B : Option Addr) (c d : Nat) (x : Nat) (hx8 : x < 256) (w : World) (hx : LieN w (ndC a (.slice A f.len c)) (a, f)) (hy : LieN w (ndC b (.slice B g.len d)) (b, g)) (hf : f.size ≤ 1000000) (hg : g.size ≤ 1000000) (C : PatC w) (HA : Awake17 w) (hs : smallX a b f g = false) : Calls Try.prog 5 #[.agg (cN a (.slice A f.len c)), .agg (cN b (.slice B g.len d)), .int .u8 (x : Int)] w (Ans9 (.bool true) w) := by
 have hb2 : Blk ((w.alloc (.cells (cN a (.slice A f.len c)) 27)).alloc (.cells (cN b (.slice B g.len d)) 27)) (w.heap.size + 1) 27 (cN b (.slice B g.len d)) := by
  have h := Blk.new (w.alloc (.cells (cN a (.slice A f.len c)) 27)) 27 (cN b (.slice B g.len d))
  rwa [show (w.alloc (.cells (cN a (.slice A f.len c)) 27)).heap.size = w.heap.size + 1 by simp] at h
 have hb1 : Blk ((w.alloc (.cells (cN a (.slice A f.len c)) 27)).alloc (.cells (cN b (.slice B g.len d)) 27)) w.heap.size 27 (cN a (.slice A f.len c)) := (Blk.new w 27 (cN a (.slice A f.len c))).alloc (.cells (cN b (.slice B g.len d)) 27)
 have hbw : Below w.heap.size w ((w.alloc (.cells (cN a (.slice A f.len c)) 27)).alloc (.cells (cN b (.slice B g.len d)) 27)) := bAl.alloc (by simp) _
 have hc1 : ∀ W, Below w.heap.size w W → Hid (Calls Try.prog 8 #[.agg (cN a (.slice A f.len c)), .agg (cN b (.slice B g.len d))] W (Ans9 (.bool (smallX a b f g)) W)) := fun W h => hHd (small17_any a b f g A B c d W (hx.below h) (hy.below h) (by omega) (by omega))
 have HX := hHd hb1
 have HY := hHd hb2
 have HB := hHd hbw
 have HAW := hHd (HA _ hbw)
 rw [hs] at hc1
 have C1 := hHd hc1
 clear hx hy hf hg hc1 hb1 hb2 hbw HA C hs
 go_enter Try.func5, Try.ntmps5
 go_wp2_with fail
 refine HAW.out.mono ?_
 rintro r w1 ⟨rfl, hb⟩
 have HX1 := hHd (HX.out.below hb HX.out.lt)
 have HY1 := hHd (HY.out.below hb HY.out.lt)
 have HB1 := hHd (HB.out.trans (hb.mono HB.out.size))
 clear hb
 obtain ⟨q0, q1, q2, q3, q4, q5⟩ := cl6 HX1.out
 obtain ⟨x0, x1, x2, x3, x4, x5⟩ := cl6 HY1.out
 go_wp2_with fail
 refine (C1.out _ HB1.out).out.mono ?_
 rintro r w2 ⟨rfl, hb⟩
 have HX2 := hHd (HX1.out.below hb HX1.out.lt)
 have HY2 := hHd (HY1.out.below hb HY1.out.lt)
 have HB2 := hHd (HB1.out.trans (hb.mono HB1.out.size))
 clear hb
 obtain ⟨q0, q1, q2, q3, q4, q5⟩ := cl6 HX2.out
 obtain ⟨x0, x1, x2, x3, x4, x5⟩ := cl6 HY2.out
 go_wp2
 go_ret
 exact ⟨rfl, HB2.out⟩
def ESub (D : Nat) (W : World) (v : Value) (l : List EdD) : Prop := EdsV (fun g => g < D) W v l
theorem ESub.below {D : Nat} {W W' : World} {v : Value} {l : List EdD} (h : ESub D W v l) (hb : Below W.heap.size W W') (hD : D ≤ W.heap.size) : ESub D W' v l := EdsV.keep h (fun g hg => hb.block g (Nat.lt_of_lt_of_le hg hD)) (fun _ h => h)
theorem ESub.bel {D : Nat} {W : World} {v : Value} {l : List EdD} (h : ESub D W v l) (hD : D ≤ W.heap.size) : EdsV (Bel W) W v l := EdsV.keep h (fun _ _ => rfl) (fun g hg => Nat.lt_of_lt_of_le hg hD)
theorem ESub.set6 {D bz : Nat} {W : World} {v : Value} {l : List EdD} (h : ESub D W v l) (hD : D ≤ bz) (x0 x1 x2 x3 x4 x5 : Value) : ESub D (set6 W bz x0 x1 x2 x3 x4 x5) v l := EdsV.keep h (fun g hg => set6_other (Nat.ne_of_lt (Nat.lt_of_lt_of_le hg hD))) (fun _ h => h)
theorem rowE.take {S : Nat → Prop} {w : World} : ∀ {l : List EdD} {xs : List Value} (k : Nat), rowE S w xs l → rowE S w (xs.take (k * 14)) (l.take k) := by
 intro l
 induction l with
 | nil => intro xs k h; rw [show xs = [] from h]; simp [rowE]
 | cons e l ih =>
  intro xs k ⟨cs, ys, h1, h2, h3⟩
  subst h1
  cases k with
  | zero => simp [rowE]
  | succ k =>
   refine ⟨cs, ys.take (k * 14), ?_, h2, ih k h3⟩
   rw [List.take_append, h2.len, List.take_of_length_le (by rw [h2.len]; omega)]
   congr 2
   omega
theorem rowE.drop {S : Nat → Prop} {w : World} : ∀ {l : List EdD} {xs : List Value} (k : Nat), rowE S w xs l → rowE S w (xs.drop (k * 14)) (l.drop k) := by
 intro l
 induction l with
 | nil => intro xs k h; rw [show xs = [] from h]; simp [rowE]
 | cons e l ih =>
  intro xs k ⟨cs, ys, h1, h2, h3⟩
  subst h1
  cases k with
  | zero => exact ⟨cs, ys, by simp, h2, h3⟩
  | succ k =>
   rw [List.drop_append, h2.len, List.drop_of_length_le (by rw [h2.len]; omega), List.nil_append, show (k + 1) * 14 - 14 = k * 14 by omega]
   exact ih k h3
theorem EdsV.take {S : Nat → Prop} {w : World} {A : Option Addr} {n c : Nat} {l : List EdD} (h : EdsV S w (.slice A n c) l) (k : Nat) (hk : k ≤ n) : EdsV S w (.slice A k c) (l.take k) := by
 obtain ⟨A', c', e, h1, h2⟩ := h
 injection e with e1 e2 e3
 subst e1 e2 e3
 refine ⟨A, c, by rw [List.length_take, Nat.min_eq_left hk], by rw [List.length_take]; omega, fun h0 => ?_⟩
 rw [List.length_take] at h0
 obtain ⟨g, o, xs, rfl, h3, h4, h5⟩ := h2 (by omega)
 refine ⟨g, o, _, rfl, h3, h4.take k, fun j u hu => h5 j u ?_⟩
 rw [List.getElem?_take] at hu
 split at hu
 ·exact hu
 ·cases hu
theorem EdsV.drop {S : Nat → Prop} {w : World} {g o n c : Nat} {l : List EdD} (h : EdsV S w (.slice (some ⟨g, o, none⟩) n c) l) (k : Nat) (hk : k ≤ n) : EdsV S w (.slice (some ⟨g, o + k * 14, none⟩) (n - k) (c - k)) (l.drop k) := by
 obtain ⟨A', c', e, h1, h2⟩ := h
 injection e with e1 e2 e3
 subst e2 e3
 refine ⟨_, _, by rw [List.length_drop], by rw [List.length_drop]; omega, fun h0 => ?_⟩
 rw [List.length_drop] at h0
 obtain ⟨g', o', xs, e, h3, h4, h5⟩ := h2 (by omega)
 rw [← e1] at e
 injection e with e
 injection e with e2 e3
 subst e2 e3
 refine ⟨g, _, _, rfl, h3, h4.drop k, fun j u hu => ?_⟩
 rw [List.getElem?_drop] at hu
 have := h5 _ u hu
 rwa [← Nat.add_assoc] at this
theorem EdsV.none_ {S : Nat → Prop} {w : World} {A : Option Addr} {c : Nat} : EdsV S w (.slice A 0 c) [] := ⟨A, c, rfl, Nat.zero_le _, fun h => absurd h (by simp)⟩
theorem EdsV.tail_ {S : Nat → Prop} {w : World} {A : Option Addr} {n c : Nat} {l : List EdD} (h : EdsV S w (.slice A n c) l) (k : Nat) (hk : k ≤ n) : EdsV S w (.slice (if c = k then A else Option.map (fun x => x.add (k * 14)) A) (n - k) (c - k)) (l.drop k) := by
 have hn : n = l.length := by obtain ⟨_, _, e, _⟩ := h; injection e
 have hc : n ≤ c := by obtain ⟨_, _, e, h1, _⟩ := h; injection e with _ _ e; rw [e, hn]; exact h1
 by_cases hz : n - k = 0
 ·have : l.drop k = [] := List.drop_eq_nil_iff.2 (by omega)
  rw [this, hz]
  exact ⟨_, _, rfl, Nat.zero_le _, fun h => absurd h (by simp)⟩
 ·rw [if_neg (by omega)]
  obtain ⟨A', c', e, h1, h2⟩ := id h
  injection e with e1 e2 e3
  obtain ⟨g, o, _, e4, _⟩ := h2 (by omega)
  rw [← e1] at e4
  subst e4
  have e5 : Option.map (fun x : Addr => x.add (k * 14)) (some ⟨g, o, none⟩) = some ⟨g, o + k * 14, none⟩ := by
   simp only [Option.map_some]
   congr 1
   unfold Addr.add; split <;> simp_all
  rw [e5]
  exact h.drop k hk
theorem EdsV.some_ {S : Nat → Prop} {w : World} {A : Option Addr} {n c : Nat} {l : List EdD} (h : EdsV S w (.slice A n c) l) (h0 : 0 < n) : ∃ g o, A = some ⟨g, o, none⟩ := by
 obtain ⟨A', c', e, h1, h2⟩ := h
 injection e with e1 e2 e3
 subst e1 e2 e3
 obtain ⟨g, o, _, rfl, _⟩ := h2 h0
 exact ⟨g, o, rfl⟩
def MkF (w : World) (D bz : Nat) (a : NdD) (f g h : NdF) (A B A4 : Option Addr) (c d c4 : Nat) (v : Value) (l : List EdD) (W : World) : Prop :=
 Below w.heap.size w W ∧ Blk W w.heap.size 27 (cN a (.slice A f.len c)) ∧ Blk W (w.heap.size + 1) 27 (cN a (.slice B g.len d)) ∧ ESub D W v l ∧ D ≤ bz ∧ Blk W bz 27 (cN a (.slice A4 h.len c4)) ∧ LieN W (ndC a (.slice A4 h.len c4)) (a, h)
theorem mkF_of {w W : World} {D bz : Nat} {a : NdD} {f g h : NdF} {A B A4 : Option Addr} {c d c4 : Nat} {v : Value} {l : List EdD} (h1 : Below w.heap.size w W) (h2 : Blk W w.heap.size 27 (cN a (.slice A f.len c))) (h3 : Blk W (w.heap.size + 1) 27 (cN a (.slice B g.len d))) (h4 : ESub D W v l) (h6 : Blk W bz 27 #[.string ⟨#[]⟩, .string ⟨#[]⟩, .int .i64 0, .int .u64 0, .string ⟨#[]⟩, .slice none 0 0]) (h7 : LieX W bz (ndC a (.slice A4 h.len c4)) (a, h)) (hm : D ≤ bz) (hw : w.heap.size + 1 < D) :
  MkF w D bz a f g h A B A4 c d c4 v l (set6 W bz (.string (txt a.name)) (.string (txt a.key)) (.int .i64 a.kind) (.int .u64 (a.num : Int)) (.string (txt a.text)) (.slice A4 h.len c4)) :=
 ⟨h1.trans (set6_below (by omega)), (set6_other (by omega)).trans h2, (set6_other (by omega)).trans h3, h4.set6 hm _ _ _ _ _ _, hm, h6.set6 _ _ _ _ _ _, h7.set6 _ _ _ _ _ _⟩
theorem mkF_al {w W : World} {D : Nat} {a : NdD} {f g h : NdF} {A B A4 : Option Addr} {c d c4 : Nat} {v : Value} {l : List EdD} (h1 : Below w.heap.size w W) (h2 : Blk W w.heap.size 27 (cN a (.slice A f.len c))) (h3 : Blk W (w.heap.size + 1) 27 (cN a (.slice B g.len d))) (h4 : ESub D W v l) (h7 : LieN W (ndC a (.slice A4 h.len c4)) (a, h)) (hm : D ≤ W.heap.size) :
  MkF w D W.heap.size a f g h A B A4 c d c4 v l (W.alloc (.cells (cN a (.slice A4 h.len c4)) 27)) :=
 have hb : Below W.heap.size W (W.alloc (.cells (cN a (.slice A4 h.len c4)) 27)) := bAl
 ⟨h1.trans (hb.mono h1.size), h2.alloc _, h3.alloc _, h4.below hb hm, hm, Blk.new _ _ _, h7.below hb⟩
def MkG (w : World) (D bz b9 : Nat) (a : NdD) (f g h : NdF) (A B A4 A9 : Option Addr) (c d c4 c9 : Nat) (W : World) : Prop :=
 Below w.heap.size w W ∧ Blk W w.heap.size 27 (cN a (.slice A f.len c)) ∧ Blk W (w.heap.size + 1) 27 (cN a (.slice B g.len d)) ∧ Blk W bz 27 (cN a (.slice A4 h.len c4)) ∧ LieN W (ndC a (.slice A4 h.len c4)) (a, h) ∧ Blk W b9 27 (cN a (.slice A9 g.len c9)) ∧ LieN W (ndC a (.slice A9 g.len c9)) (a, g)
theorem mkG_of {w W : World} {D bz b9 : Nat} {a : NdD} {f g h : NdF} {A B A4 A9 : Option Addr} {c d c4 c9 : Nat} (h1 : Below w.heap.size w W) (h2 : Blk W w.heap.size 27 (cN a (.slice A f.len c))) (h3 : Blk W (w.heap.size + 1) 27 (cN a (.slice B g.len d))) (h4 : Blk W bz 27 (cN a (.slice A4 h.len c4))) (h5 : LieB D W (ndC a (.slice A4 h.len c4)) (a, h)) (h6 : Blk W b9 27 #[.string ⟨#[]⟩, .string ⟨#[]⟩, .int .i64 0, .int .u64 0, .string ⟨#[]⟩, .slice none 0 0]) (h7 : LieX W b9 (ndC a (.slice A9 g.len c9)) (a, g)) (hm : D ≤ b9) (hw : w.heap.size + 1 < D) (hz : bz < D) :
  MkG w D bz b9 a f g h A B A4 A9 c d c4 c9 (set6 W b9 (.string (txt a.name)) (.string (txt a.key)) (.int .i64 a.kind) (.int .u64 (a.num : Int)) (.string (txt a.text)) (.slice A9 g.len c9)) :=
 ⟨h1.trans (set6_below (by omega)), (set6_other (by omega)).trans h2, (set6_other (by omega)).trans h3, (set6_other (by omega)).trans h4, h5.keep (fun k hk => set6_other (by omega)) (by rw [set6_size]; exact Nat.le_trans hm (Nat.le_of_lt h6.lt)), h6.set6 _ _ _ _ _ _, h7.set6 _ _ _ _ _ _⟩
theorem mkG_al {w W : World} {D bz : Nat} {a : NdD} {f g h : NdF} {A B A4 A9 : Option Addr} {c d c4 c9 : Nat} (h1 : Below w.heap.size w W) (h2 : Blk W w.heap.size 27 (cN a (.slice A f.len c))) (h3 : Blk W (w.heap.size + 1) 27 (cN a (.slice B g.len d))) (h4 : Blk W bz 27 (cN a (.slice A4 h.len c4))) (h5 : LieB D W (ndC a (.slice A4 h.len c4)) (a, h)) (hD : D ≤ W.heap.size) (h7 : LieN W (ndC a (.slice A9 g.len c9)) (a, g)) :
  MkG w D bz W.heap.size a f g h A B A4 A9 c d c4 c9 (W.alloc (.cells (cN a (.slice A9 g.len c9)) 27)) :=
 have hb : Below W.heap.size W (W.alloc (.cells (cN a (.slice A9 g.len c9)) 27)) := bAl
 ⟨h1.trans (hb.mono h1.size), h2.alloc _, h3.alloc _, h4.alloc _, h5.under hb hD (Nat.le_trans hD hb.size), Blk.new _ _ _, h7.below hb⟩
theorem patchFronts_yes (a b : NdD) (f g : NdF) (A B : Option Addr) (c d : Nat) (x : Nat) (hx8 : x < 256) (w : World) (hx : LieN w (ndC a (.slice A f.len c)) (a, f)) (hy : LieN w (ndC b (.slice B g.len d)) (b, g)) (hf : f.size ≤ 1000000) (hg : g.size ≤ 1000000) (C : PatC w) (HA : Awake17 w) (hs : smallX a b f g = true) : Calls Try.prog 5 #[.agg (cN a (.slice A f.len c)), .agg (cN b (.slice B g.len d)), .int .u8 (x : Int)] w (Ans9 (.bool true) w) := by
 have hb2 : Blk ((w.alloc (.cells (cN a (.slice A f.len c)) 27)).alloc (.cells (cN b (.slice B g.len d)) 27)) (w.heap.size + 1) 27 (cN b (.slice B g.len d)) := by
  have h := Blk.new (w.alloc (.cells (cN a (.slice A f.len c)) 27)) 27 (cN b (.slice B g.len d))
  rwa [show (w.alloc (.cells (cN a (.slice A f.len c)) 27)).heap.size = w.heap.size + 1 by simp] at h
 have hb1 : Blk ((w.alloc (.cells (cN a (.slice A f.len c)) 27)).alloc (.cells (cN b (.slice B g.len d)) 27)) w.heap.size 27 (cN a (.slice A f.len c)) := (Blk.new w 27 (cN a (.slice A f.len c))).alloc (.cells (cN b (.slice B g.len d)) 27)
 have hbw : Below w.heap.size w ((w.alloc (.cells (cN a (.slice A f.len c)) 27)).alloc (.cells (cN b (.slice B g.len d)) 27)) := bAl.alloc (by simp) _
 have hc1 : ∀ W, Below w.heap.size w W → Hid (Calls Try.prog 8 #[.agg (cN a (.slice A f.len c)), .agg (cN b (.slice B g.len d))] W (Ans9 (.bool (smallX a b f g)) W)) := fun W h => hHd (small17_any a b f g A B c d W (hx.below h) (hy.below h) (by omega) (by omega))
 have HX := hHd hb1
 have HY := hHd hb2
 have HB := hHd hbw
 have HAW := hHd (HA _ hbw)
 rw [hs] at hc1
 obtain ⟨⟨⟨⟨⟨s1, s2⟩, s3⟩, s4⟩, s5⟩, s6⟩ : ((((f.size + 1 ≤ 300 ∧ g.size + 1 ≤ 300) ∧ a.kind = 0) ∧ b.kind = 0) ∧ rgtX (a, f) = true) ∧ rgtX (b, g) = true := by simpa [smallX] using hs
 obtain ⟨r1, r2, r3⟩ := rgt_kind0 s5 s6 s3 s4
 obtain ⟨t1, t2⟩ := ed_there s3 s5 r2
 have hrn := ed_rgt f g [] r3 r2
 obtain ⟨n1, n2⟩ := few_ed s1 s2
 obtain ⟨l, hl⟩ : ∃ l, l = edF f g [] := ⟨_, rfl⟩
 rw [← hl] at t1 t2 hrn n1 n2
 obtain ⟨k, hk⟩ : ∃ k, k = x % (l.length + 1) := ⟨_, rfl⟩
 have hkl : k ≤ l.length := by rw [hk]; have := Nat.mod_lt x (show 0 < l.length + 1 by omega); omega
 obtain ⟨h, u1, u2, u3⟩ := ed_front f g [] (a, f) a .nil (l.take k) (l.drop k) rfl s3 r3 r2 (by rw [← hl, List.take_append_drop])
 have u1 : Goes (a, f) (l.take k) (a, h) := u1
 have u3 : edF h g [] = l.drop k := u3
 have hm1 : ∀ e ∈ l.take k, e ∈ l := fun e he => List.mem_of_mem_take he
 have hm2 : ∀ e ∈ l.drop k, e ∈ l := fun e he => List.mem_of_mem_drop he
 have rh : rgtX (a, h) = true := rgt_goes s5 (fun e he => (hrn e (hm1 e he)).1) u1
 have uh := goes_size u1 (fun e he => (n2 e (hm1 e he)).2.1)
 have ul1 : (l.take k).length ≤ 598 := by rw [List.length_take]; omega
 have ul2 : (l.drop k).length = l.length - k := List.length_drop
 have uh2 : h.size ≤ 400000 := by simp only at uh; omega
 obtain ⟨v1, _⟩ := ed_there s3 rh r2
 rw [u3] at v1
 have RU1 : Hid (runXE (a, f) (l.take k) 0 = ((a, h), 0, 0)) := hHd (u1 0)
 have RU2 : Hid (runXE (a, h) (l.drop k) 0 = ((a, g), 0, 0)) := hHd (v1 0)
 have FW1 : Hid (FewR (a, f) (l.take k)) := hHd ⟨by simp only; omega, by omega, fun e he => n2 e (hm1 e he)⟩
 have FW2 : Hid (FewR (a, h) (l.drop k)) := hHd ⟨uh2, by omega, fun e he => n2 e (hm2 e he)⟩
 have RG1 : Hid (rgtX (a, f) = true ∧ ∀ e ∈ l.take k, rgtX e.node = true) := hHd ⟨s5, fun e he => (hrn e (hm1 e he)).1⟩
 have RG2 : Hid (rgtX (a, h) = true ∧ ∀ e ∈ l.drop k, rgtX e.node = true) := hHd ⟨rh, fun e he => (hrn e (hm2 e he)).1⟩
 have CE2 : ∀ W A4 c4, LieN W (ndC a (.slice A4 h.len c4)) (a, h) → Below w.heap.size w W → Hid (Calls Try.prog 15 #[.agg (cN a (.slice A4 h.len c4)), .agg (cN a (.slice B g.len d))] W (InvP (l.drop k) W)) := fun W A4 c4 h1 h2 => hHd (by rw [← u3]; exact rEdits16_any a a h g A4 B c4 d W h1 (LieB.below (LieB.make (RowS.bel hy)) h2) (by omega))
 have CR : ∀ W A4 c4, LieN W (ndC a (.slice A4 h.len c4)) (a, h) → Hid (Calls Try.prog 17 #[.agg (cN a (.slice A4 h.len c4))] W (Ans9 (.bool true) W)) := fun W A4 c4 h1 => hHd (by
  have h := rright_any (a, h) _ W h1 (show h.size ≤ 1000000 by omega)
  rw [rh] at h
  exact h)
 have CE : ∀ W, Below w.heap.size w W → Hid (Calls Try.prog 15 #[.agg (cN a (.slice A f.len c)), .agg (cN a (.slice B g.len d))] W (InvP l W)) := fun W h => hHd (by rw [hl]; exact rEdits16_any a a f g A B c d W (hx.below h) (LieB.below (LieB.make (RowS.bel hy)) h) (by omega))
 have S1 : ∀ W cs, LieN W cs (a, g) → Below w.heap.size w W → Hid (Calls Try.prog 12 #[.agg cs.toArray, .agg (cN a (.slice B g.len d))] W (Ans9 (.bool true) W)) := fun W cs hc hW => hHd (by
  have h := rsamet_any (a, g) (a, g) cs _ W hc (LieB.below (LieB.make (a := a) (RowS.bel hy)) hW) hg hg
  rw [decide_eq_true rfl] at h
  exact h)
 have HC := hHd C
 have HXL := hHd hx
 have C1 := hHd hc1
 obtain ⟨l1, hl1⟩ : ∃ l1, l1 = l.take k := ⟨_, rfl⟩
 obtain ⟨l2, hl2⟩ : ∃ l2, l2 = l.drop k := ⟨_, rfl⟩
 have HT1 := hHd hl1
 have HT2 := hHd hl2
 rw [← hl1] at RU1 FW1 RG1
 rw [← hl2] at RU2 FW2 RG2 CE2 ul2
 have e1 : ((x : Int) % ((l.length : Int) + 1)) = (k : Int) := by rw [hk, Int.natCast_emod]; simp
 have e2 : Int.tmod (x : Int) ((l.length : Int) + 1) = (k : Int) := by rw [Int.tmod_eq_emod_of_nonneg (by omega)]; exact e1
 have ll : l.length ≤ 598 := n1
 have eq2 : ((l2.length : Int) == (l.length : Int) - (k : Int)) = true := beq_iff_eq.2 (by omega)
 have EQ2 := hHd (show (l2.length : Int) = (l.length : Int) - (k : Int) by omega)
 clear hx hy hf hg hc1 hb1 hb2 hbw HA C hs s1 s2 s3 s4 s5 s6 r1 r2 r3 t1 t2 hrn n1 n2 hl hk u1 u2 u3 hm1 hm2 rh uh ul1 ul2 uh2 v1 hl1 hl2
 go_enter Try.func5, Try.ntmps5
 go_wp2_with fail
 refine HAW.out.mono ?_
 rintro r w1 ⟨rfl, hb⟩
 have HX1 := hHd (HX.out.below hb HX.out.lt)
 have HY1 := hHd (HY.out.below hb HY.out.lt)
 have HB1 := hHd (HB.out.trans (hb.mono HB.out.size))
 clear hb
 obtain ⟨q0, q1, q2, q3, q4, q5⟩ := cl6 HX1.out
 obtain ⟨x0, x1, x2, x3, x4, x5⟩ := cl6 HY1.out
 go_wp2_with fail
 refine (C1.out _ HB1.out).out.mono ?_
 rintro r w2 ⟨rfl, hb⟩
 have HX2 := hHd (HX1.out.below hb HX1.out.lt)
 have HY2 := hHd (HY1.out.below hb HY1.out.lt)
 have HB2 := hHd (HB1.out.trans (hb.mono HB1.out.size))
 clear hb
 obtain ⟨q0, q1, q2, q3, q4, q5⟩ := cl6 HX2.out
 obtain ⟨x0, x1, x2, x3, x4, x5⟩ := cl6 HY2.out
 have V3 : Veil17 (Below w.heap.size w (set5 w2 (w.heap.size + 1) (.string (txt a.name)) (.string (txt a.key)) (.int .i64 a.kind) (.int .u64 (a.num : Int)) (.string (txt a.text))) ∧ Blk (set5 w2 (w.heap.size + 1) (.string (txt a.name)) (.string (txt a.key)) (.int .i64 a.kind) (.int .u64 (a.num : Int)) (.string (txt a.text))) w.heap.size 27 (cN a (.slice A f.len c)) ∧ Blk (set5 w2 (w.heap.size + 1) (.string (txt a.name)) (.string (txt a.key)) (.int .i64 a.kind) (.int .u64 (a.num : Int)) (.string (txt a.text))) (w.heap.size + 1) 27 (cN a (.slice B g.len d))) :=
  .mk ⟨HB2.out.trans (set5_below (Nat.le_succ _)), (set5_other (by omega)).trans HX2.out, HY2.out.set5 _ _ _ _ _⟩
 have f0 : w2.frozen? ⟨w.heap.size + 1, 0, none⟩ = false := HY2.out.frozen 0
 have f1 : w2.frozen? ⟨w.heap.size + 1, 1, none⟩ = false := HY2.out.frozen 1
 have f2 : w2.frozen? ⟨w.heap.size + 1, 2, none⟩ = false := HY2.out.frozen 2
 have f3 : w2.frozen? ⟨w.heap.size + 1, 3, none⟩ = false := HY2.out.frozen 3
 have f4 : w2.frozen? ⟨w.heap.size + 1, 4, none⟩ = false := HY2.out.frozen 4
 go_upto_region 9 with (fail)
 go_cut [] (fun wx => Hid (Below w.heap.size w wx ∧ Blk wx w.heap.size 27 (cN a (.slice A f.len c)) ∧ Blk wx (w.heap.size + 1) 27 (cN a (.slice B g.len d))))
 case first =>
  go_wp2_with fail
  go_meet
  exact hHd V3.out
 case rest =>
  obtain ⟨w3, hw3⟩ : ∃ w3, w3 = wc := ⟨_, rfl⟩
  subst hw3
  have Q3 := hcut
  clear hcut f0 f1 f2 f3 f4 V3 q0 q1 q2 q3 q4 q5 x0 x1 x2 x3 x4 x5
  obtain ⟨q0, q1, q2, q3, q4, q5⟩ := cl6 Q3.out.2.1
  obtain ⟨x0, x1, x2, x3, x4, x5⟩ := cl6 Q3.out.2.2
  go_wp2_with fail
  refine (CE _ Q3.out.1).out.mono ?_
  rintro r w5 ⟨v, rfl, hv, hb⟩
  obtain ⟨Av, cv, rfl⟩ := hv.shape
  have hlc : l.length ≤ cv := by obtain ⟨_, _, e, h, _⟩ := hv; injection e with _ _ e; rw [e]; exact h
  have HX5 : Hid (Blk w5.drew w.heap.size 27 (cN a (.slice A f.len c))) := hHd ((Q3.out.2.1.below hb Q3.out.2.1.lt).below (Below.refl _ _).drew (Q3.out.2.1.below hb Q3.out.2.1.lt).lt)
  have HY5 : Hid (Blk w5.drew (w.heap.size + 1) 27 (cN a (.slice B g.len d))) := hHd ((Q3.out.2.2.below hb Q3.out.2.2.lt).below (Below.refl _ _).drew (Q3.out.2.2.below hb Q3.out.2.2.lt).lt)
  have HWM : Hid (Below w.heap.size w w5.drew) := hHd (Q3.out.1.trans (hb.mono Q3.out.1.size)).drew
  have HV5 : Hid (ESub w5.heap.size w5.drew (.slice Av l.length cv) l) := hHd (EdsV.keep hv (fun _ _ => rfl) (fun _ h => h))
  have HZ5 : Hid (w.heap.size + 1 < w5.heap.size) := hHd HY5.out.lt
  clear hv hb q0 q1 q2 q3 q4 q5 x0 x1 x2 x3 x4 x5
  have hkc : k ≤ cv := by omega
  go_upto_region 12 with (fail)
  go_cut [11, 12, 13] (fun t11 t12 t13 wx => ∃ (bz : Nat) (A4 : Option Addr) (c4 : Nat), t11 = .pointer (some ⟨bz, 0, none⟩) ∧ t12 = .int .i64 0 ∧ t13 = .int .i64 0 ∧ Hid (MkF w w5.heap.size bz a f g h A B A4 c d c4 (.slice Av l.length cv) l wx))
  case first =>
   have HSZ : Hid (w5.heap.size ≤ (w5.drew).heap.size) := hHd (Nat.le_refl _)
   refine wp_region_noPanic ?_
   refine wp_region_held_drew (S := fun _ => True) (by kernel_rfl) trivial (fun hS => ?_)
   refine held_more (S' := fun w' => Blk w' w.heap.size 27 (cN a (.slice A f.len c))) (fun _ _ => trivial) _ _ _ _ ?_
   replace hS := HX5.out
   refine tkH 0 hS ?_ (hy := fun w hSw => by obtain ⟨q0, q1, q2, q3, q4, q5⟩ := cl6 hSw; (go_simp <;> with_reducible rfl))
   refine tkH 1 hS ?_
   refine tkH 2 hS ?_
   refine tkH 3 hS ?_
   refine rdy [4, 9] (rdC (fun K hK => ?str_0) (rdC (fun K hK => ?str_1) .nil))
   case' str_0 =>
    go_simp
    refine (HC.out.apply w.heap.size (a, f) l1 _ (.slice Av k cv) _ HWM.out.size (HXL.out.under HWM.out (Nat.le_refl _) (Nat.le_refl _)) (by rw [HT1.out]; exact (EdsV.take (ESub.bel HV5.out HSZ.out) k hkl)) FW1.out RG1.out.1 RG1.out.2 HWM.out).mono ?_
    intro r w16 hr
    obtain ⟨A4, c4, rfl, hl9, hb⟩ := hr.flat RU1.out
    have HL9 := hHd hl9
    have HLS : Hid (w5.heap.size ≤ w16.heap.size) := hHd (Nat.le_trans HSZ.out hb.size)
    have HLW : Hid (w.heap.size ≤ w16.heap.size) := hHd (Nat.le_trans HWM.out.size hb.size)
    have HX5 := hHd (HX5.out.below hb HX5.out.lt)
    have HY5 := hHd (HY5.out.below hb HY5.out.lt)
    have HV5 := hHd (HV5.out.below hb (HSZ.out))
    have HSZ := hHd (Nat.le_trans HSZ.out hb.size)
    have HWM := hHd (HWM.out.trans (hb.mono HWM.out.size))
    clear hb hr hl9
    go_wp2_with fail
    refine hK.out _ _ ?sr_0 (fun hS => ?_)
    case sr_0 => (exact HX5.out)
    clear hK K
    (try simp only [Act.put, layS])
    refine tkH 5 hS ?_
    refine tkH 6 hS ?_
    refine tkH 7 hS ?_
    refine tkH 8 hS ?_
    refine rdy1 9 fun K hK => ?_
    have HZ : Hid (Blk ((w16).alloc (.cells #[.string ⟨#[]⟩, .string ⟨#[]⟩, .int .i64 0, .int .u64 0, .string ⟨#[]⟩, .slice none 0 0] 27)) (w16.heap.size) 27 #[.string ⟨#[]⟩, .string ⟨#[]⟩, .int .i64 0, .int .u64 0, .string ⟨#[]⟩, .slice none 0 0]) := hHd (blk_at17 rfl _ _)
    have HZB : Hid (w5.heap.size ≤ (w16.heap.size)) := hHd (by first | exact Nat.le_refl _ | exact HLS.out)
    have HQ9 := Veil17.mk (mkF_al HWM.out HX5.out HY5.out HV5.out (LieP.lies HL9.out HLW.out) HLS.out)
    have hb : Below (w16).heap.size (w16) ((w16).alloc (.cells #[.string ⟨#[]⟩, .string ⟨#[]⟩, .int .i64 0, .int .u64 0, .string ⟨#[]⟩, .slice none 0 0] 27)) := bAl
    have HX5 := hHd (HX5.out.below hb HX5.out.lt)
    have HY5 := hHd (HY5.out.below hb HY5.out.lt)
    have HV5 := hHd (HV5.out.below hb (HSZ.out))
    have HSZ := hHd (Nat.le_trans HSZ.out hb.size)
    have HWM := hHd (HWM.out.trans (hb.mono HWM.out.size))
    have HK9 := hHd (LieN.avoid (LieP.lies HL9.out HLW.out) (.cells #[.string ⟨#[]⟩, .string ⟨#[]⟩, .int .i64 0, .int .u64 0, .string ⟨#[]⟩, .slice none 0 0] 27))
    clear hb
    go_simp
    refine hK.out _ _ ?sr_2 (fun hS => ?_)
    case sr_2 => (exact HX5.out)
    clear hK K
    (try simp only [Act.put, layS])
    refine rdy1 10 fun K hK => ?_
    have g0 := HZ.out.frozen 0
    have g1 := HZ.out.frozen 1
    have g2 := HZ.out.frozen 2
    have g3 := HZ.out.frozen 3
    have g4 := HZ.out.frozen 4
    have g5 := HZ.out.frozen 5
    obtain ⟨k0, k1, k2, k3, k4, k5⟩ := cl6 HZ.out
    clear HWM HX5 HY5 HZ HK9 HL9 HV5
    go_simp
    refine hK.out _ _ ?sr_3 (fun hS => ?_)
    case sr_3 => (exact HQ9.out.2.1)
    clear hK K
    (try simp only [Act.put, layS])
    refine tkH 11 hS ?_
    refine tkH 12 hS ?_
    refine wpAnyH_done (by kernel_rfl) ?_ _
    refine NoPanic.normal ?_
   case' str_1 =>
    have HZ : Hid (Blk ((w5.drew).alloc (.cells #[.string ⟨#[]⟩, .string ⟨#[]⟩, .int .i64 0, .int .u64 0, .string ⟨#[]⟩, .slice none 0 0] 27)) (w5.heap.size) 27 #[.string ⟨#[]⟩, .string ⟨#[]⟩, .int .i64 0, .int .u64 0, .string ⟨#[]⟩, .slice none 0 0]) := hHd (blk_at17 rfl _ _)
    have HZB : Hid (w5.heap.size ≤ (w5.heap.size)) := hHd (by first | exact Nat.le_refl _ | exact HLS.out)
    have hb : Below (w5.drew).heap.size (w5.drew) ((w5.drew).alloc (.cells #[.string ⟨#[]⟩, .string ⟨#[]⟩, .int .i64 0, .int .u64 0, .string ⟨#[]⟩, .slice none 0 0] 27)) := bAl
    have HX5 := hHd (HX5.out.below hb HX5.out.lt)
    have HY5 := hHd (HY5.out.below hb HY5.out.lt)
    have HV5 := hHd (HV5.out.below hb (HSZ.out))
    have HSZ := hHd (Nat.le_trans HSZ.out hb.size)
    have HWM := hHd (HWM.out.trans (hb.mono HWM.out.size))
    clear hb
    go_simp
    refine hK.out _ _ ?sr_1 (fun hS => ?_)
    case sr_1 => (exact HX5.out)
    clear hK K
    (try simp only [Act.put, layS])
    refine rdy1 4 fun K hK => ?_
    go_simp
    refine (HC.out.apply w.heap.size (a, f) l1 _ (.slice Av k cv) _ HWM.out.size (HXL.out.under HWM.out (Nat.le_refl _) (Nat.le_refl _)) (by rw [HT1.out]; exact (EdsV.take (ESub.bel HV5.out HSZ.out) k hkl)) FW1.out RG1.out.1 RG1.out.2 HWM.out).mono ?_
    intro r w16 hr
    obtain ⟨A4, c4, rfl, hl9, hb⟩ := hr.flat RU1.out
    have HL9 := hHd hl9
    have HLS : Hid (w5.heap.size ≤ w16.heap.size) := hHd (Nat.le_trans HSZ.out hb.size)
    have HLW : Hid (w.heap.size ≤ w16.heap.size) := hHd (Nat.le_trans HWM.out.size hb.size)
    have HK9 := hHd (LieP.avoid hl9 (Nat.le_trans (Nat.le_of_lt (Nat.lt_of_succ_lt HZ5.out)) HZB.out) HZ.out.lt HLW.out)
    have HX5 := hHd (HX5.out.below hb HX5.out.lt)
    have HY5 := hHd (HY5.out.below hb HY5.out.lt)
    have HV5 := hHd (HV5.out.below hb (HSZ.out))
    have HSZ := hHd (Nat.le_trans HSZ.out hb.size)
    have HWM := hHd (HWM.out.trans (hb.mono HWM.out.size))
    have HZ := hHd (HZ.out.below hb HZ.out.lt)
    clear hb hr hl9
    go_wp2_with fail
    refine hK.out _ _ ?sr_4 (fun hS => ?_)
    case sr_4 => (exact HX5.out)
    clear hK K
    (try simp only [Act.put, layS])
    refine tkH 5 hS ?_
    refine tkH 6 hS ?_
    refine tkH 7 hS ?_
    refine tkH 8 hS ?_
    refine rdy1 10 fun K hK => ?_
    have HQ9 := Veil17.mk (mkF_of HWM.out HX5.out HY5.out HV5.out HZ.out HK9.out HZB.out HZ5.out)
    have g0 := HZ.out.frozen 0
    have g1 := HZ.out.frozen 1
    have g2 := HZ.out.frozen 2
    have g3 := HZ.out.frozen 3
    have g4 := HZ.out.frozen 4
    have g5 := HZ.out.frozen 5
    obtain ⟨k0, k1, k2, k3, k4, k5⟩ := cl6 HZ.out
    clear HWM HX5 HY5 HZ HK9 HL9 HV5
    go_simp
    refine hK.out _ _ ?sr_5 (fun hS => ?_)
    case sr_5 => (exact HQ9.out.2.1)
    clear hK K
    (try simp only [Act.put, layS])
    refine tkH 11 hS ?_
    refine tkH 12 hS ?_
    refine wpAnyH_done (by kernel_rfl) ?_ _
    refine NoPanic.normal ?_
   all_goals (go_wp2_with fail; go_meet; exact ⟨_, _, _, rfl, rfl, rfl, hHd HQ9.out⟩)
  case rest =>
   obtain ⟨bz, A4, c4, rfl, rfl, rfl, Q6⟩ := hcut
   obtain ⟨w6, hw6⟩ : ∃ w6, w6 = wc := ⟨_, rfl⟩
   subst hw6
   clear HX5 HY5 HWM HV5
   have HXM : Hid (Blk w6.drew w.heap.size 27 (cN a (.slice A f.len c))) := hHd (Q6.out.2.1.below (Below.refl _ _).drew Q6.out.2.1.lt)
   have HYM : Hid (Blk w6.drew (w.heap.size + 1) 27 (cN a (.slice B g.len d))) := hHd (Q6.out.2.2.1.below (Below.refl _ _).drew Q6.out.2.2.1.lt)
   have HVM : Hid (ESub w5.heap.size w6.drew (.slice Av l.length cv) l) := hHd (Q6.out.2.2.2.1.below (Below.refl _ _).drew (Nat.le_trans Q6.out.2.2.2.2.1 (Nat.le_of_lt Q6.out.2.2.2.2.2.1.lt)))
   have HNM : Hid (Blk w6.drew bz 27 (cN a (.slice A4 h.len c4))) := hHd (Q6.out.2.2.2.2.2.1.below (Below.refl _ _).drew Q6.out.2.2.2.2.2.1.lt)
   have LNM : Hid (LieB w6.heap.size w6.drew (ndC a (.slice A4 h.len c4)) (a, h)) := hHd (Q6.out.2.2.2.2.2.2.below (Below.refl _ _).drew)
   have HWM : Hid (Below w.heap.size w w6.drew) := hHd Q6.out.1.drew
   obtain ⟨Q, hQ⟩ : ∃ Q, Q = (if cv = k then Av else Option.map (fun x => x.add (k * 14)) Av) := ⟨_, rfl⟩
   have HQ : Hid ((if cv = k then Av else Option.map (fun x => x.add (k * 14)) Av) = Q) := hHd hQ.symm
   clear hQ
   have HZ6 : Hid (w.heap.size + 1 < w6.heap.size ∧ bz < w6.heap.size ∧ w5.heap.size ≤ w6.heap.size) := hHd ⟨Q6.out.2.2.1.lt, Q6.out.2.2.2.2.2.1.lt, Nat.le_trans Q6.out.2.2.2.2.1 (Nat.le_of_lt Q6.out.2.2.2.2.2.1.lt)⟩
   go_upto_region 13 with (fail)
   go_cut [14, 15, 16] (fun t14 t15 t16 wx => ∃ (b9 : Nat) (A9 : Option Addr) (c9 : Nat), t14 = .pointer (some ⟨b9, 0, none⟩) ∧ t15 = .int .i64 0 ∧ t16 = .int .i64 0 ∧ Hid (MkG w w6.heap.size bz b9 a f g h A B A4 A9 c d c4 c9 wx))
   case first =>
    have HSZ : Hid (w5.heap.size ≤ (w6.drew).heap.size) := hHd HZ6.out.2.2
    have HSN : Hid (w6.heap.size ≤ (w6.drew).heap.size) := hHd (Nat.le_refl _)
    refine wp_region_noPanic ?_
    refine wp_region_held_drew (S := fun _ => True) (by kernel_rfl) trivial (fun hS => ?_)
    refine held_more (S' := fun w' => Blk w' bz 27 (cN a (.slice A4 h.len c4))) (fun _ _ => trivial) _ _ _ _ ?_
    replace hS := HNM.out
    refine tkH 0 hS ?_ (hy := fun w hSw => by obtain ⟨q0, q1, q2, q3, q4, q5⟩ := cl6 hSw; (go_simp <;> with_reducible rfl))
    refine tkH 1 hS ?_
    refine tkH 2 hS ?_
    refine tkH 3 hS ?_ (hy := fun w hSw => by have hq := HQ.out; (go_simp <;> with_reducible rfl))
    refine rdy [4, 9] (rdC (fun K hK => ?str_6) (rdC (fun K hK => ?str_7) .nil))
    case' str_6 =>
     go_simp
     refine (HC.out.apply w6.heap.size (a, h) l2 _ _ _ HSN.out LNM.out (by rw [HT2.out]; have e := EdsV.tail_ (ESub.bel HVM.out HSZ.out) k hkl; rw [HQ.out] at e; exact e) FW2.out RG2.out.1 RG2.out.2 HWM.out).mono ?_
     intro r w16 hr
     obtain ⟨A9, c9, rfl, hl9, hb⟩ := hr.flat RU2.out
     have HL9 := hHd hl9
     have HLS : Hid (w6.heap.size ≤ w16.heap.size) := hHd (Nat.le_trans HSN.out hb.size)
     have HXM := hHd (HXM.out.below hb HXM.out.lt)
     have HYM := hHd (HYM.out.below hb HYM.out.lt)
     have HNM := hHd (HNM.out.below hb HNM.out.lt)
     have HVM := hHd (HVM.out.below hb (HSZ.out))
     have LNM := hHd (LNM.out.under hb HSN.out (Nat.le_refl _))
     have HSN := hHd (Nat.le_trans HSN.out hb.size)
     have HSZ := hHd (Nat.le_trans HSZ.out hb.size)
     have HWM := hHd (HWM.out.trans (hb.mono HWM.out.size))
     clear hb hr hl9
     go_wp2_with fail
     refine hK.out _ _ ?sr_6 (fun hS => ?_)
     case sr_6 => (exact HNM.out)
     clear hK K
     (try simp only [Act.put, layS])
     refine tkH 5 hS ?_
     refine tkH 6 hS ?_
     refine tkH 7 hS ?_
     refine tkH 8 hS ?_
     refine rdy1 9 fun K hK => ?_
     have HZ : Hid (Blk ((w16).alloc (.cells #[.string ⟨#[]⟩, .string ⟨#[]⟩, .int .i64 0, .int .u64 0, .string ⟨#[]⟩, .slice none 0 0] 27)) (w16.heap.size) 27 #[.string ⟨#[]⟩, .string ⟨#[]⟩, .int .i64 0, .int .u64 0, .string ⟨#[]⟩, .slice none 0 0]) := hHd (blk_at17 rfl _ _)
     have HZB : Hid (w6.heap.size ≤ (w16.heap.size)) := hHd (by first | exact Nat.le_refl _ | exact HLS.out)
     have HQ9 := Veil17.mk (mkG_al HWM.out HXM.out HYM.out HNM.out LNM.out HSN.out (LieP.lies HL9.out HLS.out))
     have hb : Below (w16).heap.size (w16) ((w16).alloc (.cells #[.string ⟨#[]⟩, .string ⟨#[]⟩, .int .i64 0, .int .u64 0, .string ⟨#[]⟩, .slice none 0 0] 27)) := bAl
     have HXM := hHd (HXM.out.below hb HXM.out.lt)
     have HYM := hHd (HYM.out.below hb HYM.out.lt)
     have HNM := hHd (HNM.out.below hb HNM.out.lt)
     have HVM := hHd (HVM.out.below hb (HSZ.out))
     have LNM := hHd (LNM.out.under hb HSN.out (Nat.le_refl _))
     have HSN := hHd (Nat.le_trans HSN.out hb.size)
     have HSZ := hHd (Nat.le_trans HSZ.out hb.size)
     have HWM := hHd (HWM.out.trans (hb.mono HWM.out.size))
     have HK9 := hHd (LieN.avoid (LieP.lies HL9.out HLS.out) (.cells #[.string ⟨#[]⟩, .string ⟨#[]⟩, .int .i64 0, .int .u64 0, .string ⟨#[]⟩, .slice none 0 0] 27))
     clear hb
     go_simp
     refine hK.out _ _ ?sr_8 (fun hS => ?_)
     case sr_8 => (exact HNM.out)
     clear hK K
     (try simp only [Act.put, layS])
     refine rdy1 10 fun K hK => ?_
     have g0 := HZ.out.frozen 0
     have g1 := HZ.out.frozen 1
     have g2 := HZ.out.frozen 2
     have g3 := HZ.out.frozen 3
     have g4 := HZ.out.frozen 4
     have g5 := HZ.out.frozen 5
     obtain ⟨k0, k1, k2, k3, k4, k5⟩ := cl6 HZ.out
     clear HWM HXM HYM HNM HZ HK9 HL9 HVM LNM
     go_simp
     refine hK.out _ _ ?sr_9 (fun hS => ?_)
     case sr_9 => (exact HQ9.out.2.2.2.1)
     clear hK K
     (try simp only [Act.put, layS])
     refine tkH 11 hS ?_
     refine tkH 12 hS ?_
     refine wpAnyH_done (by kernel_rfl) ?_ _
     refine NoPanic.normal ?_
    case' str_7 =>
     have HZ : Hid (Blk ((w6.drew).alloc (.cells #[.string ⟨#[]⟩, .string ⟨#[]⟩, .int .i64 0, .int .u64 0, .string ⟨#[]⟩, .slice none 0 0] 27)) (w6.heap.size) 27 #[.string ⟨#[]⟩, .string ⟨#[]⟩, .int .i64 0, .int .u64 0, .string ⟨#[]⟩, .slice none 0 0]) := hHd (blk_at17 rfl _ _)
     have HZB : Hid (w6.heap.size ≤ (w6.heap.size)) := hHd (by first | exact Nat.le_refl _ | exact HLS.out)
     have hb : Below (w6.drew).heap.size (w6.drew) ((w6.drew).alloc (.cells #[.string ⟨#[]⟩, .string ⟨#[]⟩, .int .i64 0, .int .u64 0, .string ⟨#[]⟩, .slice none 0 0] 27)) := bAl
     have HXM := hHd (HXM.out.below hb HXM.out.lt)
     have HYM := hHd (HYM.out.below hb HYM.out.lt)
     have HNM := hHd (HNM.out.below hb HNM.out.lt)
     have HVM := hHd (HVM.out.below hb (HSZ.out))
     have LNM := hHd (LNM.out.under hb HSN.out (Nat.le_refl _))
     have HSN := hHd (Nat.le_trans HSN.out hb.size)
     have HSZ := hHd (Nat.le_trans HSZ.out hb.size)
     have HWM := hHd (HWM.out.trans (hb.mono HWM.out.size))
     clear hb
     go_simp
     refine hK.out _ _ ?sr_7 (fun hS => ?_)
     case sr_7 => (exact HNM.out)
     clear hK K
     (try simp only [Act.put, layS])
     refine rdy1 4 fun K hK => ?_
     go_simp
     refine (HC.out.apply w6.heap.size (a, h) l2 _ _ _ HSN.out LNM.out (by rw [HT2.out]; have e := EdsV.tail_ (ESub.bel HVM.out HSZ.out) k hkl; rw [HQ.out] at e; exact e) FW2.out RG2.out.1 RG2.out.2 HWM.out).mono ?_
     intro r w16 hr
     obtain ⟨A9, c9, rfl, hl9, hb⟩ := hr.flat RU2.out
     have HL9 := hHd hl9
     have HLS : Hid (w6.heap.size ≤ w16.heap.size) := hHd (Nat.le_trans HSN.out hb.size)
     have HK9 := hHd (LieP.avoid hl9 HZB.out HZ.out.lt HLS.out)
     have HXM := hHd (HXM.out.below hb HXM.out.lt)
     have HYM := hHd (HYM.out.below hb HYM.out.lt)
     have HNM := hHd (HNM.out.below hb HNM.out.lt)
     have HVM := hHd (HVM.out.below hb (HSZ.out))
     have LNM := hHd (LNM.out.under hb HSN.out (Nat.le_refl _))
     have HSN := hHd (Nat.le_trans HSN.out hb.size)
     have HSZ := hHd (Nat.le_trans HSZ.out hb.size)
     have HWM := hHd (HWM.out.trans (hb.mono HWM.out.size))
     have HZ := hHd (HZ.out.below hb HZ.out.lt)
     clear hb hr hl9
     go_wp2_with fail
     refine hK.out _ _ ?sr_a (fun hS => ?_)
     case sr_a => (exact HNM.out)
     clear hK K
     (try simp only [Act.put, layS])
     refine tkH 5 hS ?_
     refine tkH 6 hS ?_
     refine tkH 7 hS ?_
     refine tkH 8 hS ?_
     refine rdy1 10 fun K hK => ?_
     have HQ9 := Veil17.mk (mkG_of HWM.out HXM.out HYM.out HNM.out LNM.out HZ.out HK9.out HZB.out HZ6.out.1 HZ6.out.2.1)
     have g0 := HZ.out.frozen 0
     have g1 := HZ.out.frozen 1
     have g2 := HZ.out.frozen 2
     have g3 := HZ.out.frozen 3
     have g4 := HZ.out.frozen 4
     have g5 := HZ.out.frozen 5
     obtain ⟨k0, k1, k2, k3, k4, k5⟩ := cl6 HZ.out
     clear HWM HXM HYM HNM HZ HK9 HL9 HVM LNM
     go_simp
     refine hK.out _ _ ?sr_b (fun hS => ?_)
     case sr_b => (exact HQ9.out.2.2.2.1)
     clear hK K
     (try simp only [Act.put, layS])
     refine tkH 11 hS ?_
     refine tkH 12 hS ?_
     refine wpAnyH_done (by kernel_rfl) ?_ _
     refine NoPanic.normal ?_
    all_goals (go_wp2_with fail; go_meet; exact ⟨_, _, _, rfl, rfl, rfl, hHd HQ9.out⟩)
   case rest =>
    obtain ⟨b9, A9, c9, rfl, rfl, rfl, Q9⟩ := hcut
    obtain ⟨w9, hw9⟩ : ∃ w9, w9 = wc := ⟨_, rfl⟩
    subst hw9
    clear HXM HYM HVM HNM LNM HWM
    obtain ⟨q0, q1, q2, q3, q4, q5⟩ := cl6 Q9.out.2.2.2.1
    have D1 := CR w9 A4 c4 Q9.out.2.2.2.2.1
    go_wp2_with fail
    refine D1.out.mono ?_
    rintro r w10 ⟨rfl, hb⟩
    have HN10 := hHd (Q9.out.2.2.2.1.below hb Q9.out.2.2.2.1.lt)
    have LN10 := hHd (Q9.out.2.2.2.2.1.below hb)
    have HG10 := hHd (Q9.out.2.2.2.2.2.1.below hb Q9.out.2.2.2.2.2.1.lt)
    have HC10 := hHd (Q9.out.2.2.1.below hb Q9.out.2.2.1.lt)
    have HB10 := hHd (Q9.out.1.trans (hb.mono Q9.out.1.size))
    have D2 := S1 _ _ (Q9.out.2.2.2.2.2.2.below hb) HB10.out
    clear hb D1 q0 q1 q2 q3 q4 q5
    obtain ⟨q0, q1, q2, q3, q4, q5⟩ := cl6 HG10.out
    obtain ⟨y0, y1, y2, y3, y4, y5⟩ := cl6 HC10.out
    go_wp2_with fail
    refine D2.out.mono ?_
    rintro r w11 ⟨rfl, hb⟩
    have HN11 := hHd (HN10.out.below hb HN10.out.lt)
    have HC11 := hHd (HC10.out.below hb HC10.out.lt)
    have HB11 := hHd (HB10.out.trans (hb.mono HB10.out.size))
    have D3 := CE2 w11 A4 c4 (LN10.out.below hb) HB11.out
    clear hb D2 q0 q1 q2 q3 q4 q5 y0 y1 y2 y3 y4 y5
    obtain ⟨q0, q1, q2, q3, q4, q5⟩ := cl6 HN11.out
    obtain ⟨y0, y1, y2, y3, y4, y5⟩ := cl6 HC11.out
    go_wp2_with fail
    refine D3.out.mono ?_
    rintro r w12 ⟨v, rfl, hv, hb⟩
    obtain ⟨Aw, cw, rfl⟩ := hv.shape
    have HB12 := hHd (HB11.out.trans (hb.mono HB11.out.size))
    clear hb hv D3 q0 q1 q2 q3 q4 q5 y0 y1 y2 y3 y4 y5
    have eq3 : (l2.length : Int) = (l.length : Int) - (k : Int) := EQ2.out
    obtain ⟨K2, hK2⟩ : ∃ K2 : Nat, K2 = l2.length := ⟨_, rfl⟩
    rw [← hK2] at eq2 eq3 ⊢
    have eq4 : ((l.length : Int) - (k : Int)) = (K2 : Int) := eq3.symm
    clear hK2 eq3 eq2
    go_wp2
    go_ret
    exact ⟨rfl, HB12.out⟩
theorem patchFronts_walk (a b : NdD) (f g : NdF) (A B : Option Addr) (c d : Nat) (x : Nat) (hx8 : x < 256) (w : World) (hx : LieN w (ndC a (.slice A f.len c)) (a, f)) (hy : LieN w (ndC b (.slice B g.len d)) (b, g)) (hf : f.size ≤ 1000000) (hg : g.size ≤ 1000000) (C : PatC w) (HA : Awake17 w) : Calls Try.prog 5 #[.agg (cN a (.slice A f.len c)), .agg (cN b (.slice B g.len d)), .int .u8 (x : Int)] w (Ans9 (.bool true) w) := by
 cases hs : smallX a b f g with
 | true => exact patchFronts_yes a b f g A B c d x hx8 w hx hy hf hg C HA hs
 | false => exact patchFronts_not a b f g A B c d x hx8 w hx hy hf hg C HA hs
end
end Go.Proofs.Ythmobcaidhgeaaa
