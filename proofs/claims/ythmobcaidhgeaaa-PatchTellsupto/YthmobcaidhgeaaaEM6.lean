/- PatRefA DifRefC DifRefD DifSpec PatSpec PatZon -/
import Derived.Test.YthmobcaidhgeaaaEM5
set_option linter.unusedSimpArgs false
set_option linter.unusedVariables false
set_option maxRecDepth 100000
set_option maxHeartbeats 8000000
namespace Go.Proofs.Ythmobcaidhgeaaa
open Go.RowKit
def Bx3 (w : World) (b2 b3 b4 : Nat) (X Y Z : Array Value) (W : World) : Prop := Below w.heap.size w W ∧ Blk W b2 27 X ∧ Blk W b3 37 Y ∧ Blk W b4 27 Z ∧ w.heap.size ≤ b4
theorem Bx3.go {w : World} {b2 b3 b4 : Nat} {X Y Z : Array Value} {W W' : World} (h : Bx3 w b2 b3 b4 X Y Z W) (hb : Below W.heap.size W W') : Bx3 w b2 b3 b4 X Y Z W' :=
 ⟨h.1.trans (hb.mono h.1.size), h.2.1.below hb h.2.1.lt, h.2.2.1.below hb h.2.2.1.lt, h.2.2.2.1.below hb h.2.2.2.1.lt, h.2.2.2.2⟩
theorem bx3_new (w : World) (X Y Z : Array Value) : Bx3 w w.heap.size (w.heap.size + 1) (w.heap.size + 1 + 1) X Y Z (((w.alloc (.cells X 27)).alloc (.cells Y 37)).alloc (.cells Z 27)) := by
 have h2 : Blk (w.alloc (.cells X 27)) w.heap.size 27 X := Blk.new w _ _
 have h3 := Blk.new (w.alloc (.cells X 27)) 37 Y
 have h4 := Blk.new ((w.alloc (.cells X 27)).alloc (.cells Y 37)) 27 Z
 rw [show (w.alloc (.cells X 27)).heap.size = w.heap.size + 1 by simp] at h3
 rw [show ((w.alloc (.cells X 27)).alloc (.cells Y 37)).heap.size = w.heap.size + 1 + 1 by simp] at h4
 exact ⟨(bAl.alloc (by simp) _).alloc (by simp; omega) _, (h2.alloc _).alloc _, h3.alloc _, h4, by omega⟩
theorem Bx3.end_ {w : World} {b2 b3 b4 : Nat} {X Y : Array Value} {W : World} (h : Bx3 w b2 b3 b4 X Y #[.string ⟨#[]⟩, .string ⟨#[]⟩, .int .i64 0, .int .u64 0, .string ⟨#[]⟩, .slice none 0 0] W) (x0 x1 x2 x3 x4 x5 : Value) : Blk (set6 W b4 x0 x1 x2 x3 x4 x5) b4 27 #[x0, x1, x2, x3, x4, x5] ∧ Below w.heap.size w (set6 W b4 x0 x1 x2 x3 x4 x5) :=
 ⟨h.2.2.2.1.set6 _ _ _ _ _ _, h.1.trans (set6_below h.2.2.2.2)⟩
theorem lie_zero17 (w : World) : LieN w (ndC zeroT (.slice none 0 0)) noN := by
 refine ⟨rfl, ⟨_, rfl, rfl⟩, _, rfl, ?_⟩
 exact ⟨none, 0, rfl, Nat.le_refl _, fun h => absurd h (by simp [Fr.len])⟩
theorem last_at {l : List Stp} (h : l ≠ []) : ∃ s, l[l.length - 1]? = some s ∧ l.getLast? = some s := by
 rw [List.getLast?_eq_getElem?]
 have : 0 < l.length := List.length_pos_iff.2 h
 obtain ⟨s, hs⟩ : ∃ s, l[l.length - 1]? = some s := ⟨_, List.getElem?_eq_getElem (by omega)⟩
 exact ⟨s, hs, hs⟩
def hasX (a : NdD) (l : List Stp) : Bool := decide (l.getLast? = some (stp a))
theorem rhas17_any (a : NdD) (A : Option Addr) (N c : Nat) (l : List Stp) (v : Value) (w : World) (hv : WayV w.heap.size w v l) (h0 : l ≠ []) (hl : l.length ≤ 1000000) :
  Calls Try.prog 21 #[.agg (cN a (.slice A N c)), v] w (Ans9 (.bool (hasX a l)) w) := by
 obtain ⟨B, m, rfl⟩ := hv.shape
 obtain ⟨s, hs, hlast⟩ := last_at h0
 have hpos : 0 < l.length := List.length_pos_iff.2 h0
 obtain ⟨K, hK⟩ : ∃ K, K = l.length - 1 := ⟨_, rfl⟩
 have hKl : (l.length : Int) - 1 = (K : Int) := by omega
 have hKn : K < l.length := by omega
 rw [← hK] at hs
 obtain ⟨g, o, rfl, -, -, hg, c0, c1⟩ := hv.at hs
 have hx : hasX a l = (decide (a.name = s.1) && decide (a.key = s.2)) := by
  unfold hasX
  rw [hlast]
  by_cases h1 : a.name = s.1
  ·by_cases h2 : a.key = s.2
   ·rw [decide_eq_true (show some s = some (stp a) by unfold stp; rw [h1, h2]), decide_eq_true h1, decide_eq_true h2]; rfl
   ·rw [decide_eq_false (show ¬ some s = some (stp a) from fun e => h2 (by injection e with e; rw [e]; rfl)), decide_eq_false h2, Bool.and_false]
  ·rw [decide_eq_false (show ¬ some s = some (stp a) from fun e => h1 (by injection e with e; rw [e]; rfl)), decide_eq_false h1, Bool.false_and]
 have HX := hHd hx
 have hb1 : Below w.heap.size w (w.alloc (.cells (cN a (.slice A N c)) 27)) := bAl
 have HB2 : Hid (Below w.heap.size w ((w.alloc (.cells (cN a (.slice A N c)) 27)).alloc (.cells #[.string (txt s.1), .string (txt s.2)] 47))) := hHd (hb1.alloc (by simp) _)
 have d0 : (w.alloc (.cells (cN a (.slice A N c)) 27)).cell? ⟨g, o + K * 2, none⟩ = some (.string (txt s.1)) := (hb1.cell (p := ⟨g, o + K * 2, none⟩) hg).trans c0
 have d1 : (w.alloc (.cells (cN a (.slice A N c)) 27)).cell? ⟨g, o + K * 2 + 1, none⟩ = some (.string (txt s.2)) := (hb1.cell (p := ⟨g, o + K * 2 + 1, none⟩) hg).trans c1
 have hn : Blk ((w.alloc (.cells (cN a (.slice A N c)) 27)).alloc (.cells #[.string (txt s.1), .string (txt s.2)] 47)) w.heap.size 27 (cN a (.slice A N c)) := (Blk.new w _ _).alloc _
 have hq : Blk ((w.alloc (.cells (cN a (.slice A N c)) 27)).alloc (.cells #[.string (txt s.1), .string (txt s.2)] 47)) (w.heap.size + 1) 47 #[.string (txt s.1), .string (txt s.2)] := by
  have h := Blk.new (w.alloc (.cells (cN a (.slice A N c)) 27)) 47 #[.string (txt s.1), .string (txt s.2)]
  rwa [show (w.alloc (.cells (cN a (.slice A N c)) 27)).heap.size = w.heap.size + 1 by simp] at h
 have n0 : ((w.alloc (.cells (cN a (.slice A N c)) 27)).alloc (.cells #[.string (txt s.1), .string (txt s.2)] 47)).cell? ⟨w.heap.size, 0, none⟩ = _ := (hn.cell 0).trans rfl
 have n1 : ((w.alloc (.cells (cN a (.slice A N c)) 27)).alloc (.cells #[.string (txt s.1), .string (txt s.2)] 47)).cell? ⟨w.heap.size, 1, none⟩ = _ := (hn.cell 1).trans rfl
 have s0 : ((w.alloc (.cells (cN a (.slice A N c)) 27)).alloc (.cells #[.string (txt s.1), .string (txt s.2)] 47)).cell? ⟨w.heap.size + 1, 0, none⟩ = _ := (hq.cell 0).trans rfl
 have s1 : ((w.alloc (.cells (cN a (.slice A N c)) 27)).alloc (.cells #[.string (txt s.1), .string (txt s.2)] 47)).cell? ⟨w.heap.size + 1, 1, none⟩ = _ := (hq.cell 1).trans rfl
 have t1 : (txt a.name).toList = a.name := txt_toList _
 have t2 : (txt a.key).toList = a.key := txt_toList _
 have t3 : (txt s.1).toList = s.1 := txt_toList _
 have t4 : (txt s.2).toList = s.2 := txt_toList _
 have i1 : (0 : Int) ≤ (K : Int) := by omega
 have i2 : (K : Int) < (l.length : Int) := by omega
 clear hs hlast hx hK c0 c1 hn hq h0 hb1 hv
 by_cases h1 : a.name = s.1
 ·have g1 : (a.name == s.1) = true := beq_iff_eq.2 h1
  have g2 : decide (a.name = s.1) = true := decide_eq_true h1
  have G2 := hHd g2
  clear h1 g2
  by_cases h2 : a.key = s.2
  ·have g3 : (a.key == s.2) = true := beq_iff_eq.2 h2
   have G4 := hHd (decide_eq_true h2)
   clear h2
   go_enter Try.func21, Try.ntmps21
   go_wp2
   go_ret
   exact ⟨by rw [HX.out, G2.out, G4.out]; rfl, HB2.out⟩
  ·have g3 : (a.key == s.2) = false := beq_eq_false_iff_ne.2 h2
   have G4 := hHd (decide_eq_false h2)
   clear h2
   go_enter Try.func21, Try.ntmps21
   go_wp2
   go_ret
   exact ⟨by rw [HX.out, G2.out, G4.out]; rfl, HB2.out⟩
 ·have g1 : (a.name == s.1) = false := beq_eq_false_iff_ne.2 h1
  have G2 := hHd (decide_eq_false h1)
  clear h1
  go_enter Try.func21, Try.ntmps21
  go_wp2
  go_ret
  exact ⟨by rw [HX.out, G2.out]; rfl, HB2.out⟩
section
attribute [local go_sem] Oper.semAt_some
theorem EdsV.lit {S : Nat → Prop} {w : World} {g n : Nat} {xs : List Value} {l : List EdD} (hb : Blk w g 37 xs.toArray) (hS : S g) (hr : rowE S w xs l) (hn : n = l.length) : EdsV S w (.slice (some ⟨g, 0, none⟩) n n) l :=
 ⟨_, n, by rw [hn], by omega, fun _ => ⟨g, 0, xs, rfl, hS, hr, fun j u hj => by rw [Nat.zero_add, hb.cell]; simpa using hj⟩⟩
end
section
attribute [local go_sem] Oper.semAt_some
theorem RowS.at {S : Nat → Prop} {w : World} {A : Option Addr} {n c : Nat} {f : NdF} (h : RowS S w (.slice A n c) f) {i : Nat} {y : Nd} (hy : f.get? i = some y) :
  ∃ g o A' c', A = some ⟨g, o, none⟩ ∧ S g ∧ RowS S w (.slice A' y.2.len c') y.2 ∧ ∀ j u, (ndC y.1 (.slice A' y.2.len c'))[j]? = some u → w.cell? ⟨g, o + i * 6 + j, none⟩ = some u := by
 obtain ⟨a, k⟩ := y
 obtain ⟨g, o, c1, cs, e, h1, h2, ⟨h30, ⟨kv, rfl, _⟩, v, h5, h6⟩, h4⟩ := FrV.at h hy
 injection e with e1 e2 e3
 obtain ⟨A', c', rfl⟩ := h6.shape
 simp at h5
 subst h5
 exact ⟨g, o, A', c', e1, h2, h6, h4⟩
def EdL (S : Nat → Prop) (B : Nat) (L : List EdD) (v : Value) (w : World) : Prop := OwnE B (fun g => S g ∨ (B ≤ g ∧ g < w.heap.size ∧ some g ≠ v.ownBlock)) w v L ∧ B ≤ w.heap.size ∧ ∀ g, S g → g < B
theorem EdL.ne {S : Nat → Prop} {B : Nat} {L : List EdD} {v : Value} {w : World} (h : EdL S B L v w) {g : Nat} (hg : S g) : some g ≠ v.ownBlock := fun e => by
 have h1 := (h.1.lt g e.symm).1
 have h2 := h.2.2 g hg
 omega
theorem EdL.below {S : Nat → Prop} {B : Nat} {L : List EdD} {v : Value} {w w' : World} (h : EdL S B L v w) (hb : Below w.heap.size w w') : EdL S B L v w' := by
 refine ⟨(h.1.below hb).widen (fun g hg => hg.elim .inl (fun h => .inr ⟨h.1, Nat.lt_of_lt_of_le h.2.1 hb.size, h.2.2⟩)) (fun g hg => ?_), Nat.le_trans h.2.1 hb.size, h.2.2⟩
 rcases hg with hg | hg
 ·exact ⟨Nat.lt_of_lt_of_le (Nat.lt_of_lt_of_le (h.2.2 g hg) h.2.1) hb.size, h.ne hg⟩
 ·exact hg.2
theorem EdL.shape {S : Nat → Prop} {B : Nat} {L : List EdD} {v : Value} {w : World} (h : EdL S B L v w) : ∃ A c, v = .slice A L.length c := h.1.shape
theorem EdL.app {S : Nat → Prop} {B : Nat} {L M : List EdD} {v v' : Value} {w w' : World} (h : EdL S B L v w) (ha : AppE B (fun g => S g ∨ (B ≤ g ∧ g < w.heap.size ∧ some g ≠ v.ownBlock)) w v M v' w') : EdL S B M v' w' := by
 refine ⟨ha.1.widen (fun g hg => ?_) (fun g hg => ?_), Nat.le_trans h.2.1 ha.2.1.size, h.2.2⟩
 ·have h1 := ha.1.1 g hg
  rcases hg with hg | hg
  ·exact .inl hg
  ·exact .inr ⟨hg.1, h1.1, h1.2⟩
 ·rcases hg with hg | hg
  ·exact ha.1.1 g (.inl hg)
  ·exact hg.2
theorem EdL.end_ {S : Nat → Prop} {B b : Nat} {L : List EdD} {v : Value} {w : World} (h : EdL S B L v w) (hb : b ≤ B) : EdsV (fun g => S g ∨ (b ≤ g ∧ g < w.heap.size)) w v L :=
 h.1.eds.keep (fun _ _ => rfl) (fun g hg => by
  rcases hg with (hg | hg) | hg
  ·exact .inl hg
  ·exact .inr ⟨Nat.le_trans hb hg.1, hg.2.1⟩
  ·have := h.1.lt g hg; exact .inr ⟨by omega, this.2⟩)
end
section
attribute [local go_sem] Oper.semAt_some
theorem RowS.bel {w : World} {a : NdD} {f : NdF} {A : Option Addr} {c : Nat} (h : LieN w (ndC a (.slice A f.len c)) (a, f)) : RowS (Bel w) w (.slice A f.len c) f := by
 obtain ⟨A', c', e, h2⟩ := LieB.shape h
 have e5 := congrArg (fun l => l[5]?) e
 simp [ndC] at e5
 obtain ⟨rfl, rfl⟩ := e5
 exact h2
def smallX (a b : NdD) (f g : NdF) : Bool := decide (f.size + 1 ≤ 300) && decide (g.size + 1 ≤ 300) && decide (a.kind = 0) && decide (b.kind = 0) && rgtX (a, f) && rgtX (b, g)
end
section
attribute [local go_sem] Oper.semAt_some
def RunP (d : Nat) (x : Nd × Nat × Nat) (w : World) (r : Ending) (w' : World) : Prop := ∃ cs, r = .returned (.tuple #[.agg cs.toArray, .int .i64 (x.2.1 : Int), .int .i64 (x.2.2 : Int)]) ∧ LieP d w.heap.size w' cs x.1 ∧ Below w.heap.size w w'
theorem RunP.flat {d : Nat} {a : NdD} {f : NdF} {x : Nd × Nat × Nat} {e i : Nat} {w : World} {r : Ending} {w' : World} (h : RunP d x w r w') (hx : x = ((a, f), e, i)) : ∃ A c, r = .returned (.tuple #[.agg (ndC a (.slice A f.len c)).toArray, .int .i64 (e : Int), .int .i64 (i : Int)]) ∧ LieP d w.heap.size w' (ndC a (.slice A f.len c)) (a, f) ∧ Below w.heap.size w w' := by
 subst hx
 obtain ⟨cs, rfl, h2, h3⟩ := h
 obtain ⟨A, c, rfl, _⟩ := h2.shape
 exact ⟨A, c, rfl, h2, h3⟩
def FewO (e : EdD) : Prop := e.way.length ≤ 1000 ∧ e.node.2.size ≤ 600 ∧ e.old.2.size ≤ 600
def FewR (n : Nd) (l : List EdD) : Prop := n.2.size ≤ 400000 ∧ l.length ≤ 600 ∧ ∀ e ∈ l, FewO e
structure PatC (W0 : World) : Prop where
 one : ∀ (d : Nat) (n : Nd) (e : EdD) (cs ds : List Value) (w : World), d ≤ w.heap.size → LieB d w cs n → EdS (fun g => g < d) w ds e → n.2.size ≤ 900000 → FewO e → rgtX n = true → rgtX e.node = true → Below W0.heap.size W0 w →
  Calls Try.prog 10 #[.agg cs.toArray, .agg ds.toArray] w (PTreP d (oneX n e).1 (.int .i64 ((oneX n e).2 : Int)) w)
 apply : ∀ (d : Nat) (n : Nd) (l : List EdD) (cs : List Value) (v : Value) (w : World), d ≤ w.heap.size → LieB d w cs n → EdsV (Bel w) w v l → FewR n l → rgtX n = true → (∀ e ∈ l, rgtX e.node = true) → Below W0.heap.size W0 w →
  Calls Try.prog 13 #[.agg cs.toArray, v] w (RunP d (runXE n l 0) w)
def Awake17 (W0 : World) : Prop := ∀ w, Below W0.heap.size W0 w → Calls Try.prog 7 #[] w (Ans9 (.bool true) w)
theorem small17_any (a b : NdD) (f g : NdF) (A B : Option Addr) (c d : Nat) (w : World) (hx : LieN w (ndC a (.slice A f.len c)) (a, f)) (hy : LieN w (ndC b (.slice B g.len d)) (b, g)) (hf : f.size ≤ 1000000) (hg : g.size ≤ 1000000) : Calls Try.prog 8 #[.agg (cN a (.slice A f.len c)), .agg (cN b (.slice B g.len d))] w (Ans9 (.bool (smallX a b f g)) w) := by
 have hb2 : Blk ((w.alloc (.cells (cN a (.slice A f.len c)) 27)).alloc (.cells (cN b (.slice B g.len d)) 27)) (w.heap.size + 1) 27 (cN b (.slice B g.len d)) := by
  have h := Blk.new (w.alloc (.cells (cN a (.slice A f.len c)) 27)) 27 (cN b (.slice B g.len d))
  rwa [show (w.alloc (.cells (cN a (.slice A f.len c)) 27)).heap.size = w.heap.size + 1 by simp] at h
 have hb1 : Blk ((w.alloc (.cells (cN a (.slice A f.len c)) 27)).alloc (.cells (cN b (.slice B g.len d)) 27)) w.heap.size 27 (cN a (.slice A f.len c)) := (Blk.new w 27 (cN a (.slice A f.len c))).alloc (.cells (cN b (.slice B g.len d)) 27)
 have hbw : Below w.heap.size w ((w.alloc (.cells (cN a (.slice A f.len c)) 27)).alloc (.cells (cN b (.slice B g.len d)) 27)) := bAl.alloc (by simp) _
 obtain ⟨z, hz⟩ : ∃ z, z = f.size + 1 := ⟨_, rfl⟩
 obtain ⟨y, hy1⟩ : ∃ y, y = g.size + 1 := ⟨_, rfl⟩
 have hc1 : ∀ W, Below w.heap.size w W → Hid (Calls Try.prog 19 #[.agg (cN a (.slice A f.len c))] W (Ans9 (.int .i64 (z : Int)) W)) := fun W h => hHd (by rw [hz]; exact rsizet_any (a, f) _ W (hx.below h) hf)
 have hc2 : ∀ W, Below w.heap.size w W → Hid (Calls Try.prog 19 #[.agg (cN b (.slice B g.len d))] W (Ans9 (.int .i64 (y : Int)) W)) := fun W h => hHd (by rw [hy1]; exact rsizet_any (b, g) _ W (hy.below h) hg)
 have hc3 : ∀ W, Below w.heap.size w W → Hid (Calls Try.prog 17 #[.agg (cN a (.slice A f.len c))] W (Ans9 (.bool (rgtX (a, f))) W)) := fun W h => hHd (rright_any (a, f) _ W (hx.below h) hf)
 have hc4 : ∀ W, Below w.heap.size w W → Hid (Calls Try.prog 17 #[.agg (cN b (.slice B g.len d))] W (Ans9 (.bool (rgtX (b, g))) W)) := fun W h => hHd (rright_any (b, g) _ W (hy.below h) hg)
 have C1 := hHd hc1
 have C2 := hHd hc2
 have C3 := hHd hc3
 have C4 := hHd hc4
 have HX := hHd hb1
 have HY := hHd hb2
 have HB := hHd hbw
 have lz : z ≤ 1000001 := by omega
 have ly : y ≤ 1000001 := by omega
 by_cases h1 : f.size + 1 ≤ 300
 ·have j1 : ¬ (300 : Int) < (z : Int) := by omega
  by_cases h2 : g.size + 1 ≤ 300
  ·have j2 : ¬ (300 : Int) < (y : Int) := by omega
   by_cases h3 : a.kind = 0
   ·have j3 : (a.kind != 0) = false := by simp [h3]
    by_cases h4 : b.kind = 0
    ·have j4 : (b.kind != 0) = false := by simp [h4]
     cases h5 : rgtX (a, f) with
     | true =>
      cases h6 : rgtX (b, g) with
      | true =>
       rw [h5] at hc3
       rw [h6] at hc4
       replace C3 := hHd hc3
       replace C4 := hHd hc4
       have HV : Hid (smallX a b f g = true) := hHd (by simp [smallX, h1, h2, h3, h4, h5, h6])
       clear h1 h2 h3 h4 h5 h6
       clear hx hy hf hg hc1 hc2 hc3 hc4 hb1 hb2 hbw
       go_enter Try.func8, Try.ntmps8
       go_wp2_with fail
       refine (C1.out _ HB.out).out.mono ?_
       rintro r w1 ⟨rfl, hb⟩
       have HX1 := hHd (HX.out.below hb HX.out.lt)
       have HY1 := hHd (HY.out.below hb HY.out.lt)
       have HB1 := hHd (HB.out.trans (hb.mono HB.out.size))
       clear hb
       obtain ⟨q0, q1, q2, q3, q4, q5⟩ := cl6 HX1.out
       obtain ⟨x0, x1, x2, x3, x4, x5⟩ := cl6 HY1.out
       go_wp2_with fail
       refine (C2.out _ HB1.out).out.mono ?_
       rintro r w2 ⟨rfl, hb⟩
       have HX2 := hHd (HX1.out.below hb HX1.out.lt)
       have HY2 := hHd (HY1.out.below hb HY1.out.lt)
       have HB2 := hHd (HB1.out.trans (hb.mono HB1.out.size))
       clear hb
       obtain ⟨q0, q1, q2, q3, q4, q5⟩ := cl6 HX2.out
       obtain ⟨x0, x1, x2, x3, x4, x5⟩ := cl6 HY2.out
       go_wp2_with fail
       refine (C3.out _ HB2.out).out.mono ?_
       rintro r w3 ⟨rfl, hb⟩
       have HX3 := hHd (HX2.out.below hb HX2.out.lt)
       have HY3 := hHd (HY2.out.below hb HY2.out.lt)
       have HB3 := hHd (HB2.out.trans (hb.mono HB2.out.size))
       clear hb
       obtain ⟨q0, q1, q2, q3, q4, q5⟩ := cl6 HX3.out
       obtain ⟨x0, x1, x2, x3, x4, x5⟩ := cl6 HY3.out
       go_wp2_with fail
       refine (C4.out _ HB3.out).out.mono ?_
       rintro r w4 ⟨rfl, hb⟩
       have HX4 := hHd (HX3.out.below hb HX3.out.lt)
       have HY4 := hHd (HY3.out.below hb HY3.out.lt)
       have HB4 := hHd (HB3.out.trans (hb.mono HB3.out.size))
       clear hb
       go_wp2
       go_ret
       exact ⟨congrArg (fun b => Ending.returned (Value.bool b)) HV.out.symm, HB4.out⟩
      | false =>
       rw [h5] at hc3
       rw [h6] at hc4
       replace C3 := hHd hc3
       replace C4 := hHd hc4
       have HV : Hid (smallX a b f g = false) := hHd (by simp [smallX, h6])
       clear h1 h2 h3 h4 h5 h6
       clear hx hy hf hg hc1 hc2 hc3 hc4 hb1 hb2 hbw
       go_enter Try.func8, Try.ntmps8
       go_wp2_with fail
       refine (C1.out _ HB.out).out.mono ?_
       rintro r w1 ⟨rfl, hb⟩
       have HX1 := hHd (HX.out.below hb HX.out.lt)
       have HY1 := hHd (HY.out.below hb HY.out.lt)
       have HB1 := hHd (HB.out.trans (hb.mono HB.out.size))
       clear hb
       obtain ⟨q0, q1, q2, q3, q4, q5⟩ := cl6 HX1.out
       obtain ⟨x0, x1, x2, x3, x4, x5⟩ := cl6 HY1.out
       go_wp2_with fail
       refine (C2.out _ HB1.out).out.mono ?_
       rintro r w2 ⟨rfl, hb⟩
       have HX2 := hHd (HX1.out.below hb HX1.out.lt)
       have HY2 := hHd (HY1.out.below hb HY1.out.lt)
       have HB2 := hHd (HB1.out.trans (hb.mono HB1.out.size))
       clear hb
       obtain ⟨q0, q1, q2, q3, q4, q5⟩ := cl6 HX2.out
       obtain ⟨x0, x1, x2, x3, x4, x5⟩ := cl6 HY2.out
       go_wp2_with fail
       refine (C3.out _ HB2.out).out.mono ?_
       rintro r w3 ⟨rfl, hb⟩
       have HX3 := hHd (HX2.out.below hb HX2.out.lt)
       have HY3 := hHd (HY2.out.below hb HY2.out.lt)
       have HB3 := hHd (HB2.out.trans (hb.mono HB2.out.size))
       clear hb
       obtain ⟨q0, q1, q2, q3, q4, q5⟩ := cl6 HX3.out
       obtain ⟨x0, x1, x2, x3, x4, x5⟩ := cl6 HY3.out
       go_wp2_with fail
       refine (C4.out _ HB3.out).out.mono ?_
       rintro r w4 ⟨rfl, hb⟩
       have HX4 := hHd (HX3.out.below hb HX3.out.lt)
       have HY4 := hHd (HY3.out.below hb HY3.out.lt)
       have HB4 := hHd (HB3.out.trans (hb.mono HB3.out.size))
       clear hb
       go_wp2
       go_ret
       exact ⟨congrArg (fun b => Ending.returned (Value.bool b)) HV.out.symm, HB4.out⟩
     | false =>
      rw [h5] at hc3
      replace C3 := hHd hc3
      have HV : Hid (smallX a b f g = false) := hHd (by simp [smallX, h5])
      clear h1 h2 h3 h4 h5
      clear hx hy hf hg hc1 hc2 hc3 hc4 hb1 hb2 hbw
      go_enter Try.func8, Try.ntmps8
      go_wp2_with fail
      refine (C1.out _ HB.out).out.mono ?_
      rintro r w1 ⟨rfl, hb⟩
      have HX1 := hHd (HX.out.below hb HX.out.lt)
      have HY1 := hHd (HY.out.below hb HY.out.lt)
      have HB1 := hHd (HB.out.trans (hb.mono HB.out.size))
      clear hb
      obtain ⟨q0, q1, q2, q3, q4, q5⟩ := cl6 HX1.out
      obtain ⟨x0, x1, x2, x3, x4, x5⟩ := cl6 HY1.out
      go_wp2_with fail
      refine (C2.out _ HB1.out).out.mono ?_
      rintro r w2 ⟨rfl, hb⟩
      have HX2 := hHd (HX1.out.below hb HX1.out.lt)
      have HY2 := hHd (HY1.out.below hb HY1.out.lt)
      have HB2 := hHd (HB1.out.trans (hb.mono HB1.out.size))
      clear hb
      obtain ⟨q0, q1, q2, q3, q4, q5⟩ := cl6 HX2.out
      obtain ⟨x0, x1, x2, x3, x4, x5⟩ := cl6 HY2.out
      go_wp2_with fail
      refine (C3.out _ HB2.out).out.mono ?_
      rintro r w3 ⟨rfl, hb⟩
      have HX3 := hHd (HX2.out.below hb HX2.out.lt)
      have HY3 := hHd (HY2.out.below hb HY2.out.lt)
      have HB3 := hHd (HB2.out.trans (hb.mono HB2.out.size))
      clear hb
      obtain ⟨q0, q1, q2, q3, q4, q5⟩ := cl6 HX3.out
      obtain ⟨x0, x1, x2, x3, x4, x5⟩ := cl6 HY3.out
      go_wp2
      go_ret
      exact ⟨congrArg (fun b => Ending.returned (Value.bool b)) HV.out.symm, HB3.out⟩
    ·have j4 : (b.kind != 0) = true := by simp [h4]
     have HV : Hid (smallX a b f g = false) := hHd (by simp [smallX, h4])
     clear h1 h2 h3 h4
     clear hx hy hf hg hc1 hc2 hc3 hc4 hb1 hb2 hbw
     go_enter Try.func8, Try.ntmps8
     go_wp2_with fail
     refine (C1.out _ HB.out).out.mono ?_
     rintro r w1 ⟨rfl, hb⟩
     have HX1 := hHd (HX.out.below hb HX.out.lt)
     have HY1 := hHd (HY.out.below hb HY.out.lt)
     have HB1 := hHd (HB.out.trans (hb.mono HB.out.size))
     clear hb
     obtain ⟨q0, q1, q2, q3, q4, q5⟩ := cl6 HX1.out
     obtain ⟨x0, x1, x2, x3, x4, x5⟩ := cl6 HY1.out
     go_wp2_with fail
     refine (C2.out _ HB1.out).out.mono ?_
     rintro r w2 ⟨rfl, hb⟩
     have HX2 := hHd (HX1.out.below hb HX1.out.lt)
     have HY2 := hHd (HY1.out.below hb HY1.out.lt)
     have HB2 := hHd (HB1.out.trans (hb.mono HB1.out.size))
     clear hb
     obtain ⟨q0, q1, q2, q3, q4, q5⟩ := cl6 HX2.out
     obtain ⟨x0, x1, x2, x3, x4, x5⟩ := cl6 HY2.out
     go_wp2
     go_ret
     exact ⟨congrArg (fun b => Ending.returned (Value.bool b)) HV.out.symm, HB2.out⟩
   ·have j3 : (a.kind != 0) = true := by simp [h3]
    have HV : Hid (smallX a b f g = false) := hHd (by simp [smallX, h3])
    clear h1 h2 h3
    clear hx hy hf hg hc1 hc2 hc3 hc4 hb1 hb2 hbw
    go_enter Try.func8, Try.ntmps8
    go_wp2_with fail
    refine (C1.out _ HB.out).out.mono ?_
    rintro r w1 ⟨rfl, hb⟩
    have HX1 := hHd (HX.out.below hb HX.out.lt)
    have HY1 := hHd (HY.out.below hb HY.out.lt)
    have HB1 := hHd (HB.out.trans (hb.mono HB.out.size))
    clear hb
    obtain ⟨q0, q1, q2, q3, q4, q5⟩ := cl6 HX1.out
    obtain ⟨x0, x1, x2, x3, x4, x5⟩ := cl6 HY1.out
    go_wp2_with fail
    refine (C2.out _ HB1.out).out.mono ?_
    rintro r w2 ⟨rfl, hb⟩
    have HX2 := hHd (HX1.out.below hb HX1.out.lt)
    have HY2 := hHd (HY1.out.below hb HY1.out.lt)
    have HB2 := hHd (HB1.out.trans (hb.mono HB1.out.size))
    clear hb
    obtain ⟨q0, q1, q2, q3, q4, q5⟩ := cl6 HX2.out
    obtain ⟨x0, x1, x2, x3, x4, x5⟩ := cl6 HY2.out
    go_wp2
    go_ret
    exact ⟨congrArg (fun b => Ending.returned (Value.bool b)) HV.out.symm, HB2.out⟩
  ·have j2 : (300 : Int) < (y : Int) := by omega
   have HV : Hid (smallX a b f g = false) := hHd (by simp [smallX, h2])
   clear h1 h2
   clear hx hy hf hg hc1 hc2 hc3 hc4 hb1 hb2 hbw
   go_enter Try.func8, Try.ntmps8
   go_wp2_with fail
   refine (C1.out _ HB.out).out.mono ?_
   rintro r w1 ⟨rfl, hb⟩
   have HX1 := hHd (HX.out.below hb HX.out.lt)
   have HY1 := hHd (HY.out.below hb HY.out.lt)
   have HB1 := hHd (HB.out.trans (hb.mono HB.out.size))
   clear hb
   obtain ⟨q0, q1, q2, q3, q4, q5⟩ := cl6 HX1.out
   obtain ⟨x0, x1, x2, x3, x4, x5⟩ := cl6 HY1.out
   go_wp2_with fail
   refine (C2.out _ HB1.out).out.mono ?_
   rintro r w2 ⟨rfl, hb⟩
   have HX2 := hHd (HX1.out.below hb HX1.out.lt)
   have HY2 := hHd (HY1.out.below hb HY1.out.lt)
   have HB2 := hHd (HB1.out.trans (hb.mono HB1.out.size))
   clear hb
   obtain ⟨q0, q1, q2, q3, q4, q5⟩ := cl6 HX2.out
   obtain ⟨x0, x1, x2, x3, x4, x5⟩ := cl6 HY2.out
   go_wp2
   go_ret
   exact ⟨congrArg (fun b => Ending.returned (Value.bool b)) HV.out.symm, HB2.out⟩
 ·have j1 : (300 : Int) < (z : Int) := by omega
  have HV : Hid (smallX a b f g = false) := hHd (by simp [smallX, h1])
  clear h1
  clear hx hy hf hg hc1 hc2 hc3 hc4 hb1 hb2 hbw
  go_enter Try.func8, Try.ntmps8
  go_wp2_with fail
  refine (C1.out _ HB.out).out.mono ?_
  rintro r w1 ⟨rfl, hb⟩
  have HX1 := hHd (HX.out.below hb HX.out.lt)
  have HY1 := hHd (HY.out.below hb HY.out.lt)
  have HB1 := hHd (HB.out.trans (hb.mono HB.out.size))
  clear hb
  obtain ⟨q0, q1, q2, q3, q4, q5⟩ := cl6 HX1.out
  obtain ⟨x0, x1, x2, x3, x4, x5⟩ := cl6 HY1.out
  go_wp2
  go_ret
  exact ⟨congrArg (fun b => Ending.returned (Value.bool b)) HV.out.symm, HB1.out⟩
end
abbrev UndZ (S : Nat → Prop) (w : World) : Prop := ∀ g, S g → g < w.heap.size
theorem und_le {S : Nat → Prop} {w w' : World} (h : UndZ S w) (hs : w.heap.size ≤ w'.heap.size) : UndZ S w' := fun g hg => Nat.lt_of_lt_of_le (h g hg) hs
def LieZ (S : Nat → Prop) (w : World) (cs : List Value) (x : Nd) : Prop := FrN NdT 6 5 w S noB cs x.1 x.2
def RowZ (S : Nat → Prop) (w : World) (v : Value) (f : NdF) : Prop := FrV NdT 6 5 w S noB v f
theorem LieZ.shape {S : Nat → Prop} {w : World} {cs : List Value} {x : Nd} (h : LieZ S w cs x) : ∃ A c, cs = ndC x.1 (.slice A x.2.len c) ∧ RowZ S w (.slice A x.2.len c) x.2 := by
 obtain ⟨_, ⟨kv, rfl, _⟩, v, h5, h6⟩ := h
 obtain ⟨A, c, rfl⟩ := h6.shape
 simp at h5
 subst h5
 exact ⟨A, c, rfl, h6⟩
theorem LieZ.make {S : Nat → Prop} {w : World} {a : NdD} {f : NdF} {v : Value} (h : RowZ S w v f) : LieZ S w (ndC a v) (a, f) := by
 refine ⟨rfl, ⟨v, rfl, ?_⟩, v, rfl, h⟩
 obtain ⟨A, c, rfl⟩ := h.shape
 rfl
theorem LieZ.keep {S S' : Nat → Prop} {w w' : World} {cs : List Value} {x : Nd} (h : LieZ S w cs x) (hk : ∀ g, S g → w'.heap[g]? = w.heap[g]?) (hS : ∀ g, S g → S' g) : LieZ S' w' cs x :=
 FrN.kept stay_nd h hk hS (fun _ h => h.elim) (fun _ h => h)
theorem RowZ.keep {S S' : Nat → Prop} {w w' : World} {v : Value} {f : NdF} (h : RowZ S w v f) (hk : ∀ g, S g → w'.heap[g]? = w.heap[g]?) (hS : ∀ g, S g → S' g) : RowZ S' w' v f :=
 FrV.kept stay_nd h hk hS (fun _ h => h.elim) (fun _ h => h)
theorem LieZ.under {S : Nat → Prop} {B : Nat} {w w' : World} {cs : List Value} {x : Nd} (h : LieZ S w cs x) (hB : Below B w w') (hb : ∀ g, S g → g < B) : LieZ S w' cs x := h.keep (fun g hg => hB.block g (hb g hg)) (fun _ h => h)
theorem RowZ.under {S : Nat → Prop} {B : Nat} {w w' : World} {v : Value} {f : NdF} (h : RowZ S w v f) (hB : Below B w w') (hb : ∀ g, S g → g < B) : RowZ S w' v f := h.keep (fun g hg => hB.block g (hb g hg)) (fun _ h => h)
theorem LieZ.lie {S : Nat → Prop} {w : World} {cs : List Value} {x : Nd} (h : LieZ S w cs x) (hd : UndZ S w) : LieN w cs x := FrN.mono stay_nd h hd (fun _ h => h)
theorem LieZ.zero (S : Nat → Prop) (w : World) : LieZ S w (ndC zeroT (.slice none 0 0)) noN := LieZ.make (FrV.empty _ _ _)
theorem LieZ.row {S : Nat → Prop} {w : World} {a : NdD} {f : NdF} {v : Value} (h : LieZ S w (ndC a v) (a, f)) : RowZ S w v f := by
 obtain ⟨A, c, e, h2⟩ := h.shape
 have e2 : v = .slice A f.len c := by
  have := congrArg (fun l => l[5]?) e
  simpa using this
 rw [e2]
 exact h2
theorem RowZ.at {S : Nat → Prop} {w : World} {A : Option Addr} {n c : Nat} {f : NdF} (h : RowZ S w (.slice A n c) f) {i : Nat} {y : Nd} (hy : f.get? i = some y) :
  ∃ g o A' c', A = some ⟨g, o, none⟩ ∧ n = f.len ∧ n ≤ c ∧ S g ∧ RowZ S w (.slice A' y.2.len c') y.2 ∧ ∀ j u, (ndC y.1 (.slice A' y.2.len c'))[j]? = some u → w.cell? ⟨g, o + i * 6 + j, none⟩ = some u := by
 obtain ⟨a, k⟩ := y
 obtain ⟨g, o, c1, cs, e, h1, h2, h3, h4⟩ := FrV.at h hy
 injection e with e1 e2 e3
 subst e1 e2 e3
 obtain ⟨A', c', rfl, h6⟩ := LieZ.shape (x := (a, k)) h3
 exact ⟨g, o, A', c', rfl, rfl, h1, h2, h6, h4⟩
def LieQ (S : Nat → Prop) (B : Nat) (w : World) (cs : List Value) (x : Nd) : Prop := FrN NdT 6 5 w (fun g => S g ∨ (B ≤ g ∧ g < w.heap.size)) noB cs x.1 x.2
def RowQ (S : Nat → Prop) (B : Nat) (w : World) (v : Value) (f : NdF) : Prop := FrV NdT 6 5 w (fun g => S g ∨ (B ≤ g ∧ g < w.heap.size)) noB v f
theorem LieQ.shape {S : Nat → Prop} {B : Nat} {w : World} {cs : List Value} {x : Nd} (h : LieQ S B w cs x) : ∃ A c, cs = ndC x.1 (.slice A x.2.len c) ∧ RowQ S B w (.slice A x.2.len c) x.2 := by
 obtain ⟨_, ⟨kv, rfl, _⟩, v, h5, h6⟩ := h
 obtain ⟨A, c, rfl⟩ := h6.shape
 simp at h5
 subst h5
 exact ⟨A, c, rfl, h6⟩
theorem LieQ.make {S : Nat → Prop} {B : Nat} {w : World} {a : NdD} {f : NdF} {v : Value} (h : RowQ S B w v f) : LieQ S B w (ndC a v) (a, f) := by
 refine ⟨rfl, ⟨v, rfl, ?_⟩, v, rfl, h⟩
 obtain ⟨A, c, rfl⟩ := h.shape
 rfl
theorem LieQ.keep {S S' : Nat → Prop} {B B' : Nat} {w w' : World} {cs : List Value} {x : Nd} (h : LieQ S B w cs x) (hk : ∀ g, S g ∨ (B ≤ g ∧ g < w.heap.size) → w'.heap[g]? = w.heap[g]?) (hS : ∀ g, S g ∨ (B ≤ g ∧ g < w.heap.size) → S' g ∨ (B' ≤ g ∧ g < w'.heap.size)) : LieQ S' B' w' cs x :=
 FrN.kept stay_nd h hk hS (fun _ h => h.elim) (fun _ h => h)
theorem LieQ.lies {S : Nat → Prop} {B : Nat} {w : World} {cs : List Value} {x : Nd} (h : LieQ S B w cs x) (hb : UndZ S w) : LieN w cs x :=
 FrN.mono stay_nd h (fun g hg => by rcases hg with h | h; exact hb g h; exact h.2) (fun _ h => h)
theorem LieQ.set6 {S : Nat → Prop} {B g : Nat} {w : World} {cs : List Value} {x : Nd} (h : LieQ S B w cs x) (hg : ¬ S g) (hB : g < B) (x0 x1 x2 x3 x4 x5 : Value) : LieQ S B (set6 w g x0 x1 x2 x3 x4 x5) cs x :=
 h.keep (fun k hk => set6_other (fun e => by subst e; rcases hk with h | h; exact hg h; omega)) (fun k hk => by rw [set6_size]; exact hk)
theorem LieQ.after {S : Nat → Prop} {B B' : Nat} {w : World} {cs : List Value} {x : Nd} (h : LieQ S B w cs x) (hB : B' ≤ B) : LieQ S B' w cs x :=
 h.keep (fun _ _ => rfl) (fun k hk => by rcases hk with h | h; exact .inl h; exact .inr ⟨by omega, h.2⟩)
theorem LieQ.below {S : Nat → Prop} {B : Nat} {w w' : World} {cs : List Value} {x : Nd} (h : LieQ S B w cs x) (hb : Below w.heap.size w w') (hbw : UndZ S w) : LieQ S B w' cs x :=
 h.keep (fun k hk => hb.block k (by rcases hk with h | h; exact hbw k h; exact h.2)) (fun k hk => by have := hb.size; rcases hk with h | h; exact .inl h; exact .inr ⟨h.1, by omega⟩)
theorem LieZ.p {S : Nat → Prop} {w : World} {cs : List Value} {x : Nd} (h : LieZ S w cs x) (B : Nat) : LieQ S B w cs x := FrN.mono stay_nd h (fun g hg => .inl hg) (fun _ h => h)
theorem RowZ.p {S : Nat → Prop} {w : World} {v : Value} {f : NdF} (h : RowZ S w v f) (B : Nat) : RowQ S B w v f := FrV.mono stay_nd h (fun g hg => .inl hg) (fun _ h => h)
def PTreZ (S : Nat → Prop) (x : Nd) (u : Value) (w : World) (r : Ending) (w' : World) : Prop := ∃ cs, r = .returned (.tuple #[.agg cs.toArray, u]) ∧ LieQ S w.heap.size w' cs x ∧ Below w.heap.size w w'
def PTreZ1 (S : Nat → Prop) (x : Nd) (w : World) (r : Ending) (w' : World) : Prop := ∃ cs, r = .returned (.agg cs.toArray) ∧ LieQ S w.heap.size w' cs x ∧ Below w.heap.size w w'
theorem PTreZ.flat {S : Nat → Prop} {a : NdD} {f : NdF} {u : Value} {w : World} {r : Ending} {w' : World} (h : PTreZ S (a, f) u w r w') : ∃ A c, r = .returned (.tuple #[.agg (ndC a (.slice A f.len c)).toArray, u]) ∧ LieQ S w.heap.size w' (ndC a (.slice A f.len c)) (a, f) ∧ Below w.heap.size w w' := by
 obtain ⟨cs, rfl, h2, h3⟩ := h
 obtain ⟨A, c, rfl, _⟩ := h2.shape
 exact ⟨A, c, rfl, h2, h3⟩
theorem PTreZ1.flat {S : Nat → Prop} {a : NdD} {f : NdF} {w : World} {r : Ending} {w' : World} (h : PTreZ1 S (a, f) w r w') : ∃ A c, r = .returned (.agg (ndC a (.slice A f.len c)).toArray) ∧ LieQ S w.heap.size w' (ndC a (.slice A f.len c)) (a, f) ∧ Below w.heap.size w w' := by
 obtain ⟨cs, rfl, h2, h3⟩ := h
 obtain ⟨A, c, rfl, _⟩ := h2.shape
 exact ⟨A, c, rfl, h2, h3⟩
abbrev ZoneZ (d : Nat → Prop) (B T : Nat) : Nat → Prop := fun g => d g ∨ (B ≤ g ∧ g < T)
end Go.Proofs.Ythmobcaidhgeaaa
