/- DifRefD -/
import Derived.Test.YtleidkpdpabkpaaGreatDoorBM19
set_option linter.unusedSimpArgs false
set_option linter.unusedVariables false
set_option maxRecDepth 100000
set_option maxHeartbeats 8000000
namespace Go.Proofs.YtleidkpdpabkpaaGreatDoor
open Go.RowKit
section
attribute [local go_sem] Oper.semAt_some
theorem RowS.at {S : Nat → Prop} {w : World} {A : Option Addr} {n c : Nat} {f : NdF} (h : RowS S w (.slice A n c) f) {i : Nat} {y : Nd} (hy : f.get? i = some y) :
  ∃ g o A' c', A = some ⟨g, o, none⟩ ∧ S g ∧ RowS S w (.slice A' y.2.len c') y.2 ∧ ∀ j u, (ndC y.1 (.slice A' y.2.len c'))[j]? = some u → w.cell? ⟨g, o + i * 6 + j, none⟩ = some u := by
 obtain ⟨a, k⟩ := y
 obtain ⟨g, o, c1, cs, e, h1, h2, ⟨h30, ⟨kv, rfl, _⟩, v, h5, h6⟩, h4⟩ := FrV.at h hy
 injection e with e1 e2 e3
 obtain ⟨A', c', rfl⟩ := h6.shape
 simp at h5
 subst h5
 exact ⟨g, o, A', c', e1, h2, h6, h4⟩
theorem OwnS.ws {b : Nat} {w : World} {v : Value} {l : List Stp} (h : OwnS b w v l) : WayS (fun g => b ≤ g ∧ g < w.heap.size) w v l := by
 obtain ⟨d, ⟨h0, A, c, rfl, h1, h2⟩, hd⟩ := OwnK.row h
 refine ⟨A, c, rfl, h1, fun hp => ?_⟩
 obtain ⟨hlt, off, rfl, hc⟩ := h2 hp
 refine ⟨d, off, rfl, ⟨hd hp, hlt⟩, fun j s hs => ?_⟩
 obtain ⟨g1, g2⟩ := stC_at l j s hs
 exact ⟨hc _ _ g1, by have := hc _ _ g2; rwa [← Nat.add_assoc] at this⟩
def EdL (S : Nat → Prop) (B : Nat) (L : List EdD) (v : Value) (w : World) : Prop := OwnE B (fun g => S g ∨ (B ≤ g ∧ g < w.heap.size ∧ some g ≠ v.ownBlock)) w v L ∧ B ≤ w.heap.size ∧ ∀ g, S g → g < B
theorem EdL.start {S : Nat → Prop} {B : Nat} {w : World} (hB : B ≤ w.heap.size) (hS : ∀ g, S g → g < B) : EdL S B [] (.slice none 0 0) w :=
 ⟨OwnE.nil _ _ (fun g h => h.elim (fun h => Nat.lt_of_lt_of_le (hS g h) hB) (fun h => h.2.1)), hB, hS⟩
theorem EdL.ne {S : Nat → Prop} {B : Nat} {L : List EdD} {v : Value} {w : World} (h : EdL S B L v w) {g : Nat} (hg : S g) : some g ≠ v.ownBlock := fun e => by
 have h1 := (h.1.lt g e.symm).1
 have h2 := h.2.2 g hg
 omega
theorem EdL.below {S : Nat → Prop} {B : Nat} {L : List EdD} {v : Value} {w w' : World} (h : EdL S B L v w) (hb : Below w.heap.size w w') : EdL S B L v w' := by
 refine ⟨(h.1.below hb).widen (fun g hg => hg.elim .inl (fun h => .inr ⟨h.1, Nat.lt_of_lt_of_le h.2.1 hb.size, h.2.2⟩)) (fun g hg => ?_), Nat.le_trans h.2.1 hb.size, h.2.2⟩
 rcases hg with hg | hg
 ·exact ⟨Nat.lt_of_lt_of_le (Nat.lt_of_lt_of_le (h.2.2 g hg) h.2.1) hb.size, h.ne hg⟩
 ·exact hg.2
theorem EdL.shape {S : Nat → Prop} {B : Nat} {L : List EdD} {v : Value} {w : World} (h : EdL S B L v w) : ∃ A c, v = .slice A L.length c := h.1.shape
theorem EdL.app {S : Nat → Prop} {B : Nat} {L M : List EdD} {v v' : Value} {w w' : World} (h : EdL S B L v w) (ha : AppE B (fun g => S g ∨ (B ≤ g ∧ g < w.heap.size ∧ some g ≠ v.ownBlock)) w v M v' w') : EdL S B M v' w' := by
 refine ⟨ha.1.widen (fun g hg => ?_) (fun g hg => ?_), Nat.le_trans h.2.1 ha.2.1.size, h.2.2⟩
 ·have h1 := ha.1.1 g hg
  rcases hg with hg | hg
  ·exact .inl hg
  ·exact .inr ⟨hg.1, h1.1, h1.2⟩
 ·rcases hg with hg | hg
  ·exact ha.1.1 g (.inl hg)
  ·exact hg.2
theorem EdL.src {S T : Nat → Prop} {B : Nat} {L M : List EdD} {v x : Value} {w : World} (h : EdL S B L v w) (hx : EdsV T w x M) (hT : ∀ g, T g → S g ∨ (B ≤ g ∧ g < w.heap.size ∧ some g ≠ v.ownBlock)) : EdsV (fun g => S g ∨ (B ≤ g ∧ g < w.heap.size ∧ some g ≠ v.ownBlock)) w x M := hx.keep (fun _ _ => rfl) hT
theorem EdL.end_ {S : Nat → Prop} {B b : Nat} {L : List EdD} {v : Value} {w : World} (h : EdL S B L v w) (hb : b ≤ B) : EdsV (fun g => S g ∨ (b ≤ g ∧ g < w.heap.size)) w v L :=
 h.1.eds.keep (fun _ _ => rfl) (fun g hg => by
  rcases hg with (hg | hg) | hg
  ·exact .inl hg
  ·exact .inr ⟨Nat.le_trans hb hg.1, hg.2.1⟩
  ·have := h.1.lt g hg; exact .inr ⟨by omega, this.2⟩)
def REdP (n : Nat) : Prop := ∀ (f g : NdF), f.size + g.size < n → ∀ (a b : NdD) (way : List Stp) (A B Aw : Option Addr) (c d cw : Nat) (w : World) (S : Nat → Prop), (∀ g, S g → g < w.heap.size) → RowS S w (.slice A f.len c) f → RowS S w (.slice B g.len d) g → WayS S w (.slice Aw way.length cw) way → way.length + f.size + g.size ≤ 1000000 →
 Calls Tryz.prog 38 #[.agg (cN a (.slice A f.len c)), .agg (cN b (.slice B g.len d)), .slice Aw way.length cw] w (EdP S (edF f g way) w)
theorem redits16_step (n : Nat) (ih : REdP n) : REdP (n + 1) := by
 intro f g hn a b way A B Aw c d cw W0 S hS hf hg hw hz
 have hx1 : Below W0.heap.size W0 ((W0.alloc (.cells (cN a (.slice A f.len c)) 42)).alloc (.cells (cN b (.slice B g.len d)) 42)) := bAl.alloc (by simp) _
 have HX1 := hHd hx1
 have HXB : Hid (Blk ((W0.alloc (.cells (cN a (.slice A f.len c)) 42)).alloc (.cells (cN b (.slice B g.len d)) 42)) W0.heap.size 42 (cN a (.slice A f.len c))) := hHd ((Blk.new W0 42 _).alloc _)
 have HYB : Hid (Blk ((W0.alloc (.cells (cN a (.slice A f.len c)) 42)).alloc (.cells (cN b (.slice B g.len d)) 42)) (W0.heap.size + 1) 42 (cN b (.slice B g.len d))) := hHd (by have h := Blk.new (W0.alloc (.cells (cN a (.slice A f.len c)) 42)) 42 (cN b (.slice B g.len d)); rwa [show (W0.alloc (.cells (cN a (.slice A f.len c)) 42)).heap.size = W0.heap.size + 1 by simp] at h)
 have HKP : Hid (∀ W, Below W0.heap.size W0 W → ∀ g, S g → W.heap[g]? = W0.heap[g]?) := hHd fun W h g hg => h.block g (hS g hg)
 have HSS := hHd hS
 have HRF := hHd hf
 have HRG := hHd hg
 have HRW := hHd hw
 have HIH := hHd ih
 have HZZ := hHd hz
 have HNN := hHd hn
 have HWL : Hid (way.length ≤ 1000000) := hHd (by omega)
 have HST : Hid (EdL S (W0.heap.size + 2) [] (.slice none 0 0) ((W0.alloc (.cells (cN a (.slice A f.len c)) 42)).alloc (.cells (cN b (.slice B g.len d)) 42))) := hHd (EdL.start (by simp) (fun g h => Nat.lt_of_lt_of_le (hS g h) (Nat.le_add_right _ _)))
 have lf : f.len ≤ 1000000 := Nat.le_trans (Fr.len_size f) (by omega)
 have lg : g.len ≤ 1000000 := Nat.le_trans (Fr.len_size g) (by omega)
 have HELN := hHd (ed_len f g way)
 clear hx1 hS hf hg hw ih hn hz
 go_enter Tryz.func38, Tryz.ntmps38
 go_wp2
 go_loopw [7, 8, 9, 46, 90] (fun v vi vk _ _ wr => ∃ (i k : Nat) (L : List EdD), i ≤ f.len ∧ k ≤ g.len ∧ vi = .int .i64 (i : Int) ∧ vk = .int .i64 (k : Int) ∧ Hid (L ++ edF (Fr.drop i f) (Fr.drop k g) way = edF f g way) ∧ Hid (EdL S (W0.heap.size + 2) L v wr) ∧ Hid (Blk wr W0.heap.size 42 (cN a (.slice A f.len c))) ∧ Hid (Blk wr (W0.heap.size + 1) 42 (cN b (.slice B g.len d))) ∧ Hid (Below W0.heap.size W0 wr)) (fun _ vi vk _ _ _ => (f.len - (intOf vi).toNat) + (g.len - (intOf vk).toNat))
 case atStart => exact ⟨0, 0, [], Nat.zero_le _, Nat.zero_le _, rfl, rfl, hHd rfl, HST, HXB, HYB, HX1⟩
 case round =>
  obtain ⟨i, k, L, hi, hk, rfl, rfl, HE, HO, HX, HY0, HB⟩ := hrel
  obtain ⟨Ao, co, rfl⟩ := HO.out.shape
  have x5 : wr.cell? ⟨W0.heap.size, 5, none⟩ = some (.slice A f.len c) := (HX.out.cell 5).trans rfl
  have y5 : wr.cell? ⟨W0.heap.size + 1, 5, none⟩ = some (.slice B g.len d) := (HY0.out.cell 5).trans rfl
  have i1 : (0 : Int) ≤ (i : Int) := by omega
  have k1_ : (0 : Int) ≤ (k : Int) := by omega
  have HP0 : Hid (W0.heap.size < W0.heap.size + 2) := hHd (by omega)
  have HP1 : Hid (W0.heap.size + 1 < W0.heap.size + 2) := hHd (by omega)
  have HBR : Hid (W0.heap.size + 2 ≤ wr.heap.size) := hHd HO.out.2.1
  have HBD : Hid (Below wr.heap.size wr wr.drew) := hHd (Below.refl _ _).drew
  have HD0 : Hid (Below (W0.heap.size + 2) wr wr.drew) := hHd (Below.refl _ _).drew
  have HLL : Hid (L.length ≤ 100000000) := hHd (by have h1 := congrArg List.length HE.out; rw [List.length_append] at h1; have h2 := HELN.out; have h3 := HZZ.out; omega)
  have CWAY : Hid (∀ W, Below wr.heap.size wr W → WayV W.heap.size W (.slice Aw way.length cw) way) := hHd fun W h => (HRW.out.keep (HKP.out W (HB.out.trans (h.mono HB.out.size))) (fun g hg => Nat.lt_of_lt_of_le (HSS.out g hg) (Nat.le_trans HB.out.size h.size))).v
  by_cases hk2 : k < g.len
  ·obtain ⟨⟨b1, q1⟩, hgb⟩ : ∃ x, g.get? k = some x := by obtain ⟨a, q, h⟩ := Fr.get_some hk2; exact ⟨_, h⟩
   have hdb := (Fr.get_drop hgb).1
   obtain ⟨gb, ob, B1, d1, rfl, hsb, hrb, hcb⟩ := HRG.out.at hgb
   have KB : Hid (gb < W0.heap.size + 2 ∧ ∀ j u, (ndC b1 (.slice B1 q1.len d1))[j]? = some u → wr.cell? ⟨gb, ob + k * 6 + j, none⟩ = some u) := hHd ⟨Nat.lt_of_lt_of_le (HSS.out gb hsb) (Nat.le_add_right _ _), fun j u hu => (HB.out.cell (p := ⟨gb, ob + k * 6 + j, none⟩) (HSS.out gb hsb)).trans (hcb j u hu)⟩
   have HRB := hHd hrb
   have HSZB := hHd (Fr.size_get hgb)
   have ib2 : (k : Int) < (g.len : Int) := by omega
   have ib3 : decide ((k : Int) < (g.len : Int)) = true := decide_eq_true ib2
   have ib4 : decide (k < g.len) = true := decide_eq_true hk2
   have ib5 : ((k : Int) == (g.len : Int)) = false := beq_eq_false_iff_ne.2 (by omega)
   have ib6 : (k == g.len) = false := beq_eq_false_iff_ne.2 (by omega)
   by_cases hi2 : i < f.len
   ·obtain ⟨⟨a1, k1⟩, hga⟩ : ∃ x, f.get? i = some x := by obtain ⟨a, k, h⟩ := Fr.get_some hi2; exact ⟨_, h⟩
    have hda := (Fr.get_drop hga).1
    obtain ⟨ga, oa, A1, c1, rfl, hsa, hra, hca⟩ := HRF.out.at hga
    have KA : Hid (ga < W0.heap.size + 2 ∧ ∀ j u, (ndC a1 (.slice A1 k1.len c1))[j]? = some u → wr.cell? ⟨ga, oa + i * 6 + j, none⟩ = some u) := hHd ⟨Nat.lt_of_lt_of_le (HSS.out ga hsa) (Nat.le_add_right _ _), fun j u hu => (HB.out.cell (p := ⟨ga, oa + i * 6 + j, none⟩) (HSS.out ga hsa)).trans (hca j u hu)⟩
    have HRA := hHd hra
    have HSZA := hHd (Fr.size_get hga)
    have ia2 : (i : Int) < (f.len : Int) := by omega
    have ia3 : decide ((i : Int) < (f.len : Int)) = true := decide_eq_true ia2
    have ia4 : decide (i < f.len) = true := decide_eq_true hi2
    have ia5 : ((i : Int) == (f.len : Int)) = false := beq_eq_false_iff_ne.2 (by omega)
    have ia6 : (i == f.len) = false := beq_eq_false_iff_ne.2 (by omega)
    have lie : ∀ W, Below wr.heap.size wr W → LieN W (ndC a1 (.slice A1 k1.len c1)) (a1, k1) ∧ LieN W (ndC b1 (.slice B1 q1.len d1)) (b1, q1) := fun W h => by
     have h1 := HB.out.trans (h.mono HB.out.size)
     exact ⟨LieB.make (FrV.mono stay_nd (RowS.keep HRA.out (HKP.out W h1) (fun _ h => h)) (fun g hg => Nat.lt_of_lt_of_le (HSS.out g hg) h1.size) (fun _ h => h)), LieB.make (FrV.mono stay_nd (RowS.keep HRB.out (HKP.out W h1) (fun _ h => h)) (fun g hg => Nat.lt_of_lt_of_le (HSS.out g hg) h1.size) (fun _ h => h))⟩
    have CL1 : Hid (Calls Tryz.prog 69 #[.agg (cN a1 (.slice A1 k1.len c1)), .agg (cN b1 (.slice B1 q1.len d1))] wr.drew (Ans9 (.bool (lessX a1 b1)) wr.drew)) := hHd (rless_any (a1, k1) (b1, q1) _ _ wr.drew (lie _ HBD.out).1 (lie _ HBD.out).2)
    have CL2 : Hid (∀ W, Below wr.heap.size wr W → Hid (Calls Tryz.prog 69 #[.agg (cN b1 (.slice B1 q1.len d1)), .agg (cN a1 (.slice A1 k1.len c1))] W (Ans9 (.bool (lessX b1 a1)) W))) := hHd (fun W h => hHd (rless_any (b1, q1) (a1, k1) _ _ W (lie _ h).2 (lie _ h).1))
    clear lie
    cases hab : lessX a1 b1 with
    | true =>
     have HLS : Hid (L ++ [delE (way ++ [stp a1]) (a1, k1)] ++ edF (Fr.drop (i + 1) f) (Fr.drop k g) way = edF f g way) := hHd (by rw [← HE.out, hda, hdb, edF_lt hab]; simp)
     rw [hab] at CL1
     clear hab hga hgb hda hdb hsa hra hca hsb hrb hcb
     go_wp2_with fail
     refine wp_region_noPanic ?_
     refine wp_region_held_drew (S := fun _ => True) (by kernel_rfl) trivial (fun hS => ?_)
     refine held_more (S' := fun w' => Below (W0.heap.size + 2) wr w') (fun _ _ => trivial) _ _ _ _ ?_
     replace hS := HD0.out
     refine tkH 0 hS ?_
     refine tkH 1 hS ?_
     refine tkH 2 hS ?_ (hy := fun w hSw => by have zb := (hSw.cell (p := ⟨W0.heap.size + 1, 5, none⟩) HP1.out).trans y5; (go_simp <;> with_reducible rfl))
     refine tkH 3 hS ?_
     refine tkH 4 hS ?_
     refine tkH 5 hS ?_
     refine tkH 6 hS ?_
     refine tkH 7 hS ?_
     refine tkH 8 hS ?_ (hy := fun w hSw => by have za := (hSw.cell (p := ⟨W0.heap.size, 5, none⟩) HP0.out).trans x5; (go_simp <;> with_reducible rfl))
     refine tkH 9 hS ?_
     refine tkH 10 hS ?_
     refine tkH 11 hS ?_
     refine tkH 12 hS ?_
     refine tkH 13 hS ?_ (hy := fun w hSw => by have za := (hSw.cell (p := ⟨W0.heap.size, 5, none⟩) HP0.out).trans x5; (go_simp <;> with_reducible rfl))
     refine tkH 14 hS ?_
     refine tkH 15 hS ?_
     refine tkH 16 hS ?_ (hy := fun w hSw => by have u0a : w.cell? ⟨ga, oa + i * 6, none⟩ = _ := (hSw.cell (p := ⟨ga, oa + i * 6, none⟩) KA.out.1).trans (KA.out.2 0 _ rfl); have u1a := (hSw.cell (p := ⟨ga, oa + i * 6 + 1, none⟩) KA.out.1).trans (KA.out.2 1 _ rfl); have u2a := (hSw.cell (p := ⟨ga, oa + i * 6 + 2, none⟩) KA.out.1).trans (KA.out.2 2 _ rfl); have u3a := (hSw.cell (p := ⟨ga, oa + i * 6 + 3, none⟩) KA.out.1).trans (KA.out.2 3 _ rfl); have u4a := (hSw.cell (p := ⟨ga, oa + i * 6 + 4, none⟩) KA.out.1).trans (KA.out.2 4 _ rfl); have u5a := (hSw.cell (p := ⟨ga, oa + i * 6 + 5, none⟩) KA.out.1).trans (KA.out.2 5 _ rfl); (go_simp <;> with_reducible rfl))
     refine tkH 17 hS ?_
     refine tkH 18 hS ?_ (hy := fun w hSw => by have zb := (hSw.cell (p := ⟨W0.heap.size + 1, 5, none⟩) HP1.out).trans y5; (go_simp <;> with_reducible rfl))
     refine tkH 19 hS ?_
     refine tkH 20 hS ?_
     refine tkH 21 hS ?_ (hy := fun w hSw => by have u0b : w.cell? ⟨gb, ob + k * 6, none⟩ = _ := (hSw.cell (p := ⟨gb, ob + k * 6, none⟩) KB.out.1).trans (KB.out.2 0 _ rfl); have u1b := (hSw.cell (p := ⟨gb, ob + k * 6 + 1, none⟩) KB.out.1).trans (KB.out.2 1 _ rfl); have u2b := (hSw.cell (p := ⟨gb, ob + k * 6 + 2, none⟩) KB.out.1).trans (KB.out.2 2 _ rfl); have u3b := (hSw.cell (p := ⟨gb, ob + k * 6 + 3, none⟩) KB.out.1).trans (KB.out.2 3 _ rfl); have u4b := (hSw.cell (p := ⟨gb, ob + k * 6 + 4, none⟩) KB.out.1).trans (KB.out.2 4 _ rfl); have u5b := (hSw.cell (p := ⟨gb, ob + k * 6 + 5, none⟩) KB.out.1).trans (KB.out.2 5 _ rfl); (go_simp <;> with_reducible rfl))
     refine rdy1 22 fun K hK => ?_
     go_simp
     refine CL1.out.mono ?_
     rintro r wz ⟨rfl, hb⟩
     have HZ := hHd (HBD.out.trans (hb.mono HBD.out.size))
     clear hb
     go_wp2_with fail
     refine hK.out _ _ ?sr_0 (fun hS => ?_)
     case sr_0 => (exact HZ.out.mono HBR.out)
     clear hK K
     (try simp only [Act.put, layS])
     refine tkH 23 hS ?_
     refine tkH 24 hS ?_
     refine tkH 25 hS ?_
     refine wpAnyH_done (by kernel_rfl) ?_ _
     refine NoPanic.normal ?_
     clear hS
     have HOZ : Hid (EdL S (W0.heap.size + 2) L (.slice Ao L.length co) wz.drew) := hHd (HO.out.below HZ.out.drew)
     have CY : Hid (Calls Tryz.prog 70 #[.slice Aw way.length cw, .agg (cN a1 (.slice A1 k1.len c1))] wz.drew fun r w' => ∃ v', r = .returned v' ∧ OwnS wz.drew.heap.size w' v' (way ++ [stp a1]) ∧ Below wz.drew.heap.size wz.drew w') := hHd (rway10_any way _ a1 _ _ (CWAY.out _ HZ.out.drew) HWL.out)
     go_wp2_with fail
     refine wp_region_noPanic ?_
     refine wp_region_held_drew (S := fun _ => True) (by kernel_rfl) trivial (fun hS => ?_)
     refine held_more (S' := fun w' => Below (W0.heap.size + 2) wr w') (fun _ _ => trivial) _ _ _ _ ?_
     replace hS := HZ.out.drew.mono HBR.out
     refine tkH 0 hS ?_
     refine tkH 1 hS ?_
     refine tkH 2 hS ?_
     refine tkH 3 hS ?_ (hy := fun w hSw => by have za := (hSw.cell (p := ⟨W0.heap.size, 5, none⟩) HP0.out).trans x5; (go_simp <;> with_reducible rfl))
     refine tkH 4 hS ?_
     refine tkH 5 hS ?_
     refine tkH 6 hS ?_ (hy := fun w hSw => by have u0a : w.cell? ⟨ga, oa + i * 6, none⟩ = _ := (hSw.cell (p := ⟨ga, oa + i * 6, none⟩) KA.out.1).trans (KA.out.2 0 _ rfl); have u1a := (hSw.cell (p := ⟨ga, oa + i * 6 + 1, none⟩) KA.out.1).trans (KA.out.2 1 _ rfl); have u2a := (hSw.cell (p := ⟨ga, oa + i * 6 + 2, none⟩) KA.out.1).trans (KA.out.2 2 _ rfl); have u3a := (hSw.cell (p := ⟨ga, oa + i * 6 + 3, none⟩) KA.out.1).trans (KA.out.2 3 _ rfl); have u4a := (hSw.cell (p := ⟨ga, oa + i * 6 + 4, none⟩) KA.out.1).trans (KA.out.2 4 _ rfl); have u5a := (hSw.cell (p := ⟨ga, oa + i * 6 + 5, none⟩) KA.out.1).trans (KA.out.2 5 _ rfl); (go_simp <;> with_reducible rfl))
     refine tkH 8 hS ?_
     refine tkH 9 hS ?_ (hy := fun w hSw => by have za := (hSw.cell (p := ⟨W0.heap.size, 5, none⟩) HP0.out).trans x5; (go_simp <;> with_reducible rfl))
     refine tkH 10 hS ?_
     refine tkH 11 hS ?_
     refine tkH 12 hS ?_ (hy := fun w hSw => by have u0a : w.cell? ⟨ga, oa + i * 6, none⟩ = _ := (hSw.cell (p := ⟨ga, oa + i * 6, none⟩) KA.out.1).trans (KA.out.2 0 _ rfl); have u1a := (hSw.cell (p := ⟨ga, oa + i * 6 + 1, none⟩) KA.out.1).trans (KA.out.2 1 _ rfl); have u2a := (hSw.cell (p := ⟨ga, oa + i * 6 + 2, none⟩) KA.out.1).trans (KA.out.2 2 _ rfl); have u3a := (hSw.cell (p := ⟨ga, oa + i * 6 + 3, none⟩) KA.out.1).trans (KA.out.2 3 _ rfl); have u4a := (hSw.cell (p := ⟨ga, oa + i * 6 + 4, none⟩) KA.out.1).trans (KA.out.2 4 _ rfl); have u5a := (hSw.cell (p := ⟨ga, oa + i * 6 + 5, none⟩) KA.out.1).trans (KA.out.2 5 _ rfl); (go_simp <;> with_reducible rfl))
     refine rdy1 7 fun K hK => ?_
     go_simp
     refine CY.out.mono ?_
     rintro r wv ⟨vv, rfl, hov, hbv⟩
     obtain ⟨Av, cv, rfl⟩ : ∃ Av cv, vv = .slice Av (way.length + 1) cv := by have h := hov.shape; simpa using h
     have HV := hHd (HZ.out.drew.trans (hbv.mono HZ.out.drew.size))
     have HOV := hHd (HOZ.out.below hbv)
     have HWS := hHd hov.ws
     have HZS := hHd HZ.out.drew.size
     clear hov hbv
     go_wp2_with fail
     refine hK.out _ _ ?sr_1 (fun hS => ?_)
     case sr_1 => (exact HV.out.mono HBR.out)
     clear hK K
     (try simp only [Act.put, layS])
     refine tkH 13 hS ?_
     refine rdy1 14 fun K hK => ?_
     go_simp
     refine hK.out _ _ ?sr_2 (fun hS => ?_)
     case sr_2 => (exact (HV.out.alloc HV.out.size _).mono HBR.out)
     clear hK K
     (try simp only [Act.put, layS])
     have hal : Below wv.heap.size wv (wv.alloc (.cells ([.int .i64 2, .slice Av (way.length + 1) cv, .string ⟨#[]⟩, .string ⟨#[]⟩, .int .i64 0, .int .u64 0, .string ⟨#[]⟩, .slice none 0 0, .string (txt a1.name), .string (txt a1.key), .int .i64 a1.kind, .int .u64 (a1.num : Int), .string (txt a1.text), .slice A1 k1.len c1] : List Value).toArray 55)) := bAl
     have HOA := hHd (HOV.out.below hal)
     have HVA := hHd (HV.out.trans (hal.mono HV.out.size))
     have HKA := hHd (Blk.new wv 55 ([.int .i64 2, .slice Av (way.length + 1) cv, .string ⟨#[]⟩, .string ⟨#[]⟩, .int .i64 0, .int .u64 0, .string ⟨#[]⟩, .slice none 0 0, .string (txt a1.name), .string (txt a1.key), .int .i64 a1.kind, .int .u64 (a1.num : Int), .string (txt a1.text), .slice A1 k1.len c1] : List Value).toArray)
     have hnw : ∀ g, (wz.drew.heap.size ≤ g ∧ g < wv.heap.size) → S g ∨ (W0.heap.size + 2 ≤ g ∧ g < (wv.alloc (.cells ([.int .i64 2, .slice Av (way.length + 1) cv, .string ⟨#[]⟩, .string ⟨#[]⟩, .int .i64 0, .int .u64 0, .string ⟨#[]⟩, .slice none 0 0, .string (txt a1.name), .string (txt a1.key), .int .i64 a1.kind, .int .u64 (a1.num : Int), .string (txt a1.text), .slice A1 k1.len c1] : List Value).toArray 55)).heap.size ∧ some g ≠ (Value.slice Ao L.length co).ownBlock) := fun g hg => .inr ⟨Nat.le_trans HBR.out (Nat.le_trans HZS.out hg.1), Nat.lt_of_lt_of_le hg.2 hal.size, fun e => by have h1 := HO.out.1.lt g e.symm; have h2 := HZS.out; omega⟩
     have HEA : Hid (EdS (fun g => S g ∨ (W0.heap.size + 2 ≤ g ∧ g < (wv.alloc (.cells ([.int .i64 2, .slice Av (way.length + 1) cv, .string ⟨#[]⟩, .string ⟨#[]⟩, .int .i64 0, .int .u64 0, .string ⟨#[]⟩, .slice none 0 0, .string (txt a1.name), .string (txt a1.key), .int .i64 a1.kind, .int .u64 (a1.num : Int), .string (txt a1.text), .slice A1 k1.len c1] : List Value).toArray 55)).heap.size ∧ some g ≠ (Value.slice Ao L.length co).ownBlock)) (wv.alloc (.cells ([.int .i64 2, .slice Av (way.length + 1) cv, .string ⟨#[]⟩, .string ⟨#[]⟩, .int .i64 0, .int .u64 0, .string ⟨#[]⟩, .slice none 0 0, .string (txt a1.name), .string (txt a1.key), .int .i64 a1.kind, .int .u64 (a1.num : Int), .string (txt a1.text), .slice A1 k1.len c1] : List Value).toArray 55)) ([.int .i64 2, .slice Av (way.length + 1) cv, .string ⟨#[]⟩, .string ⟨#[]⟩, .int .i64 0, .int .u64 0, .string ⟨#[]⟩, .slice none 0 0, .string (txt a1.name), .string (txt a1.key), .int .i64 a1.kind, .int .u64 (a1.num : Int), .string (txt a1.text), .slice A1 k1.len c1] : List Value) (delE (way ++ [stp a1]) (a1, k1))) := hHd ⟨_, _, _, rfl, HWS.out.keep (fun g hg => hal.block g hg.2) hnw, FrV.empty _ _ _, RowS.keep HRA.out (HKP.out _ (HB.out.trans (HVA.out.mono HB.out.size))) (fun _ h => .inl h)⟩
     clear hal hnw
     refine rdy1 15 fun K hK => ?_
     refine wp_append_e (.tmp 72) (.tmp 86) (by rfl) (by rfl) (by rfl) HOA.out.1 (by rfl) HKA.out HEA.out HLL.out HOA.out.2.1 ?_
     intro vn wn hap
     obtain ⟨An9, cn9, rfl⟩ : ∃ A c, vn = .slice A (L.length + 1) c := by have h := hap.2.2; simpa using h
     have HON := hHd (HOA.out.app hap)
     have HBN := hHd ((HVA.out.mono HBR.out).trans (hap.below HOA.out.1 HOA.out.2.1))
     clear hap
     refine hK.out _ _ ?sr_3 (fun hS => ?_)
     case sr_3 => (exact HBN.out)
     clear hK K
     (try simp only [Act.put, layS])
     refine tkH 16 hS ?_
     refine wpAnyH_done (by kernel_rfl) ?_ _
     refine NoPanic.normal ?_
     clear hS
     go_wp2
     go_roundw
     case rel => exact ⟨i + 1, k, L ++ [delE (way ++ [stp a1]) (a1, k1)], by omega, by omega, by go_num, by go_num, hHd HLS.out, HON, hHd (HX.out.below HBN.out HP0.out), hHd (HY0.out.below HBN.out HP1.out), hHd (HB.out.trans (HBN.out.mono (Nat.le_add_right _ _)))⟩
     case measure => simp [intOf]; omega
    | false =>
     cases hba : lessX b1 a1 with
     | true =>
      have HLS : Hid (L ++ [newE (way ++ [stp b1]) (b1, q1)] ++ edF (Fr.drop i f) (Fr.drop (k + 1) g) way = edF f g way) := hHd (by rw [← HE.out, hda, hdb, edF_gt hab hba]; simp)
      rw [hab] at CL1
      rw [hba] at CL2
      clear hab hba hga hgb hda hdb hsa hra hca hsb hrb hcb
      go_wp2_with fail
      refine wp_region_noPanic ?_
      refine wp_region_held_drew (S := fun _ => True) (by kernel_rfl) trivial (fun hS => ?_)
      refine held_more (S' := fun w' => Below (W0.heap.size + 2) wr w') (fun _ _ => trivial) _ _ _ _ ?_
      replace hS := HD0.out
      refine tkH 0 hS ?_
      refine tkH 1 hS ?_
      refine tkH 2 hS ?_ (hy := fun w hSw => by have zb := (hSw.cell (p := ⟨W0.heap.size + 1, 5, none⟩) HP1.out).trans y5; (go_simp <;> with_reducible rfl))
      refine tkH 3 hS ?_
      refine tkH 4 hS ?_
      refine tkH 5 hS ?_
      refine tkH 6 hS ?_
      refine tkH 7 hS ?_
      refine tkH 8 hS ?_ (hy := fun w hSw => by have za := (hSw.cell (p := ⟨W0.heap.size, 5, none⟩) HP0.out).trans x5; (go_simp <;> with_reducible rfl))
      refine tkH 9 hS ?_
      refine tkH 10 hS ?_
      refine tkH 11 hS ?_
      refine tkH 12 hS ?_
      refine tkH 13 hS ?_ (hy := fun w hSw => by have za := (hSw.cell (p := ⟨W0.heap.size, 5, none⟩) HP0.out).trans x5; (go_simp <;> with_reducible rfl))
      refine tkH 14 hS ?_
      refine tkH 15 hS ?_
      refine tkH 16 hS ?_ (hy := fun w hSw => by have u0a : w.cell? ⟨ga, oa + i * 6, none⟩ = _ := (hSw.cell (p := ⟨ga, oa + i * 6, none⟩) KA.out.1).trans (KA.out.2 0 _ rfl); have u1a := (hSw.cell (p := ⟨ga, oa + i * 6 + 1, none⟩) KA.out.1).trans (KA.out.2 1 _ rfl); have u2a := (hSw.cell (p := ⟨ga, oa + i * 6 + 2, none⟩) KA.out.1).trans (KA.out.2 2 _ rfl); have u3a := (hSw.cell (p := ⟨ga, oa + i * 6 + 3, none⟩) KA.out.1).trans (KA.out.2 3 _ rfl); have u4a := (hSw.cell (p := ⟨ga, oa + i * 6 + 4, none⟩) KA.out.1).trans (KA.out.2 4 _ rfl); have u5a := (hSw.cell (p := ⟨ga, oa + i * 6 + 5, none⟩) KA.out.1).trans (KA.out.2 5 _ rfl); (go_simp <;> with_reducible rfl))
      refine tkH 17 hS ?_
      refine tkH 18 hS ?_ (hy := fun w hSw => by have zb := (hSw.cell (p := ⟨W0.heap.size + 1, 5, none⟩) HP1.out).trans y5; (go_simp <;> with_reducible rfl))
      refine tkH 19 hS ?_
      refine tkH 20 hS ?_
      refine tkH 21 hS ?_ (hy := fun w hSw => by have u0b : w.cell? ⟨gb, ob + k * 6, none⟩ = _ := (hSw.cell (p := ⟨gb, ob + k * 6, none⟩) KB.out.1).trans (KB.out.2 0 _ rfl); have u1b := (hSw.cell (p := ⟨gb, ob + k * 6 + 1, none⟩) KB.out.1).trans (KB.out.2 1 _ rfl); have u2b := (hSw.cell (p := ⟨gb, ob + k * 6 + 2, none⟩) KB.out.1).trans (KB.out.2 2 _ rfl); have u3b := (hSw.cell (p := ⟨gb, ob + k * 6 + 3, none⟩) KB.out.1).trans (KB.out.2 3 _ rfl); have u4b := (hSw.cell (p := ⟨gb, ob + k * 6 + 4, none⟩) KB.out.1).trans (KB.out.2 4 _ rfl); have u5b := (hSw.cell (p := ⟨gb, ob + k * 6 + 5, none⟩) KB.out.1).trans (KB.out.2 5 _ rfl); (go_simp <;> with_reducible rfl))
      refine rdy1 22 fun K hK => ?_
      go_simp
      refine CL1.out.mono ?_
      rintro r wz ⟨rfl, hb⟩
      have HZ := hHd (HBD.out.trans (hb.mono HBD.out.size))
      clear hb
      go_wp2_with fail
      refine hK.out _ _ ?sr_4 (fun hS => ?_)
      case sr_4 => (exact HZ.out.mono HBR.out)
      clear hK K
      (try simp only [Act.put, layS])
      refine tkH 23 hS ?_
      refine tkH 24 hS ?_
      refine tkH 25 hS ?_
      refine wpAnyH_done (by kernel_rfl) ?_ _
      refine NoPanic.normal ?_
      clear hS
      go_wp2_with fail
      refine wp_region_noPanic ?_
      refine wp_region_held_drew (S := fun _ => True) (by kernel_rfl) trivial (fun hS => ?_)
      refine held_more (S' := fun w' => Below (W0.heap.size + 2) wr w') (fun _ _ => trivial) _ _ _ _ ?_
      replace hS := HZ.out.drew.mono HBR.out
      refine tkH 0 hS ?_
      refine tkH 1 hS ?_
      refine tkH 2 hS ?_ (hy := fun w hSw => by have za := (hSw.cell (p := ⟨W0.heap.size, 5, none⟩) HP0.out).trans x5; (go_simp <;> with_reducible rfl))
      refine tkH 3 hS ?_
      refine tkH 4 hS ?_
      refine tkH 5 hS ?_
      refine tkH 6 hS ?_
      refine tkH 7 hS ?_ (hy := fun w hSw => by have zb := (hSw.cell (p := ⟨W0.heap.size + 1, 5, none⟩) HP1.out).trans y5; (go_simp <;> with_reducible rfl))
      refine tkH 8 hS ?_
      refine tkH 9 hS ?_
      refine tkH 10 hS ?_ (hy := fun w hSw => by have u0b : w.cell? ⟨gb, ob + k * 6, none⟩ = _ := (hSw.cell (p := ⟨gb, ob + k * 6, none⟩) KB.out.1).trans (KB.out.2 0 _ rfl); have u1b := (hSw.cell (p := ⟨gb, ob + k * 6 + 1, none⟩) KB.out.1).trans (KB.out.2 1 _ rfl); have u2b := (hSw.cell (p := ⟨gb, ob + k * 6 + 2, none⟩) KB.out.1).trans (KB.out.2 2 _ rfl); have u3b := (hSw.cell (p := ⟨gb, ob + k * 6 + 3, none⟩) KB.out.1).trans (KB.out.2 3 _ rfl); have u4b := (hSw.cell (p := ⟨gb, ob + k * 6 + 4, none⟩) KB.out.1).trans (KB.out.2 4 _ rfl); have u5b := (hSw.cell (p := ⟨gb, ob + k * 6 + 5, none⟩) KB.out.1).trans (KB.out.2 5 _ rfl); (go_simp <;> with_reducible rfl))
      refine tkH 11 hS ?_
      refine tkH 12 hS ?_ (hy := fun w hSw => by have za := (hSw.cell (p := ⟨W0.heap.size, 5, none⟩) HP0.out).trans x5; (go_simp <;> with_reducible rfl))
      refine tkH 13 hS ?_
      refine tkH 14 hS ?_
      refine tkH 15 hS ?_ (hy := fun w hSw => by have u0a : w.cell? ⟨ga, oa + i * 6, none⟩ = _ := (hSw.cell (p := ⟨ga, oa + i * 6, none⟩) KA.out.1).trans (KA.out.2 0 _ rfl); have u1a := (hSw.cell (p := ⟨ga, oa + i * 6 + 1, none⟩) KA.out.1).trans (KA.out.2 1 _ rfl); have u2a := (hSw.cell (p := ⟨ga, oa + i * 6 + 2, none⟩) KA.out.1).trans (KA.out.2 2 _ rfl); have u3a := (hSw.cell (p := ⟨ga, oa + i * 6 + 3, none⟩) KA.out.1).trans (KA.out.2 3 _ rfl); have u4a := (hSw.cell (p := ⟨ga, oa + i * 6 + 4, none⟩) KA.out.1).trans (KA.out.2 4 _ rfl); have u5a := (hSw.cell (p := ⟨ga, oa + i * 6 + 5, none⟩) KA.out.1).trans (KA.out.2 5 _ rfl); (go_simp <;> with_reducible rfl))
      refine rdy1 16 fun K hK => ?_
      go_simp
      refine (CL2.out _ HZ.out.drew).out.mono ?_
      rintro r wy ⟨rfl, hb⟩
      have HY := hHd (HZ.out.drew.trans (hb.mono HZ.out.drew.size))
      clear hb
      go_wp2_with fail
      refine hK.out _ _ ?sr_5 (fun hS => ?_)
      case sr_5 => (exact HY.out.mono HBR.out)
      clear hK K
      (try simp only [Act.put, layS])
      refine tkH 17 hS ?_
      refine tkH 18 hS ?_
      refine wpAnyH_done (by kernel_rfl) ?_ _
      refine NoPanic.normal ?_
      clear hS
      have HOZ : Hid (EdL S (W0.heap.size + 2) L (.slice Ao L.length co) wy.drew) := hHd (HO.out.below HY.out.drew)
      have CY : Hid (Calls Tryz.prog 70 #[.slice Aw way.length cw, .agg (cN b1 (.slice B1 q1.len d1))] wy.drew fun r w' => ∃ v', r = .returned v' ∧ OwnS wy.drew.heap.size w' v' (way ++ [stp b1]) ∧ Below wy.drew.heap.size wy.drew w') := hHd (rway10_any way _ b1 _ _ (CWAY.out _ HY.out.drew) HWL.out)
      go_wp2_with fail
      refine wp_region_noPanic ?_
      refine wp_region_held_drew (S := fun _ => True) (by kernel_rfl) trivial (fun hS => ?_)
      refine held_more (S' := fun w' => Below (W0.heap.size + 2) wr w') (fun _ _ => trivial) _ _ _ _ ?_
      replace hS := HY.out.drew.mono HBR.out
      refine tkH 0 hS ?_
      refine tkH 1 hS ?_
      refine tkH 2 hS ?_
      refine tkH 3 hS ?_ (hy := fun w hSw => by have zb := (hSw.cell (p := ⟨W0.heap.size + 1, 5, none⟩) HP1.out).trans y5; (go_simp <;> with_reducible rfl))
      refine tkH 4 hS ?_
      refine tkH 5 hS ?_
      refine tkH 6 hS ?_ (hy := fun w hSw => by have u0b : w.cell? ⟨gb, ob + k * 6, none⟩ = _ := (hSw.cell (p := ⟨gb, ob + k * 6, none⟩) KB.out.1).trans (KB.out.2 0 _ rfl); have u1b := (hSw.cell (p := ⟨gb, ob + k * 6 + 1, none⟩) KB.out.1).trans (KB.out.2 1 _ rfl); have u2b := (hSw.cell (p := ⟨gb, ob + k * 6 + 2, none⟩) KB.out.1).trans (KB.out.2 2 _ rfl); have u3b := (hSw.cell (p := ⟨gb, ob + k * 6 + 3, none⟩) KB.out.1).trans (KB.out.2 3 _ rfl); have u4b := (hSw.cell (p := ⟨gb, ob + k * 6 + 4, none⟩) KB.out.1).trans (KB.out.2 4 _ rfl); have u5b := (hSw.cell (p := ⟨gb, ob + k * 6 + 5, none⟩) KB.out.1).trans (KB.out.2 5 _ rfl); (go_simp <;> with_reducible rfl))
      refine tkH 8 hS ?_
      refine tkH 9 hS ?_ (hy := fun w hSw => by have zb := (hSw.cell (p := ⟨W0.heap.size + 1, 5, none⟩) HP1.out).trans y5; (go_simp <;> with_reducible rfl))
      refine tkH 10 hS ?_
      refine tkH 11 hS ?_
      refine tkH 12 hS ?_ (hy := fun w hSw => by have u0b : w.cell? ⟨gb, ob + k * 6, none⟩ = _ := (hSw.cell (p := ⟨gb, ob + k * 6, none⟩) KB.out.1).trans (KB.out.2 0 _ rfl); have u1b := (hSw.cell (p := ⟨gb, ob + k * 6 + 1, none⟩) KB.out.1).trans (KB.out.2 1 _ rfl); have u2b := (hSw.cell (p := ⟨gb, ob + k * 6 + 2, none⟩) KB.out.1).trans (KB.out.2 2 _ rfl); have u3b := (hSw.cell (p := ⟨gb, ob + k * 6 + 3, none⟩) KB.out.1).trans (KB.out.2 3 _ rfl); have u4b := (hSw.cell (p := ⟨gb, ob + k * 6 + 4, none⟩) KB.out.1).trans (KB.out.2 4 _ rfl); have u5b := (hSw.cell (p := ⟨gb, ob + k * 6 + 5, none⟩) KB.out.1).trans (KB.out.2 5 _ rfl); (go_simp <;> with_reducible rfl))
      refine rdy1 7 fun K hK => ?_
      go_simp
      refine CY.out.mono ?_
      rintro r wv ⟨vv, rfl, hov, hbv⟩
      obtain ⟨Av, cv, rfl⟩ : ∃ Av cv, vv = .slice Av (way.length + 1) cv := by have h := hov.shape; simpa using h
      have HV := hHd (HY.out.drew.trans (hbv.mono HY.out.drew.size))
      have HOV := hHd (HOZ.out.below hbv)
      have HWS := hHd hov.ws
      have HZS := hHd HY.out.drew.size
      clear hov hbv
      go_wp2_with fail
      refine hK.out _ _ ?sr_6 (fun hS => ?_)
      case sr_6 => (exact HV.out.mono HBR.out)
      clear hK K
      (try simp only [Act.put, layS])
      refine tkH 13 hS ?_
      refine rdy1 14 fun K hK => ?_
      go_simp
      refine hK.out _ _ ?sr_7 (fun hS => ?_)
      case sr_7 => (exact (HV.out.alloc HV.out.size _).mono HBR.out)
      clear hK K
      (try simp only [Act.put, layS])
      have hal : Below wv.heap.size wv (wv.alloc (.cells ([.int .i64 1, .slice Av (way.length + 1) cv, .string (txt b1.name), .string (txt b1.key), .int .i64 b1.kind, .int .u64 (b1.num : Int), .string (txt b1.text), .slice B1 q1.len d1, .string ⟨#[]⟩, .string ⟨#[]⟩, .int .i64 0, .int .u64 0, .string ⟨#[]⟩, .slice none 0 0] : List Value).toArray 55)) := bAl
      have HOA := hHd (HOV.out.below hal)
      have HVA := hHd (HV.out.trans (hal.mono HV.out.size))
      have HKA := hHd (Blk.new wv 55 ([.int .i64 1, .slice Av (way.length + 1) cv, .string (txt b1.name), .string (txt b1.key), .int .i64 b1.kind, .int .u64 (b1.num : Int), .string (txt b1.text), .slice B1 q1.len d1, .string ⟨#[]⟩, .string ⟨#[]⟩, .int .i64 0, .int .u64 0, .string ⟨#[]⟩, .slice none 0 0] : List Value).toArray)
      have hnw : ∀ g, (wy.drew.heap.size ≤ g ∧ g < wv.heap.size) → S g ∨ (W0.heap.size + 2 ≤ g ∧ g < (wv.alloc (.cells ([.int .i64 1, .slice Av (way.length + 1) cv, .string (txt b1.name), .string (txt b1.key), .int .i64 b1.kind, .int .u64 (b1.num : Int), .string (txt b1.text), .slice B1 q1.len d1, .string ⟨#[]⟩, .string ⟨#[]⟩, .int .i64 0, .int .u64 0, .string ⟨#[]⟩, .slice none 0 0] : List Value).toArray 55)).heap.size ∧ some g ≠ (Value.slice Ao L.length co).ownBlock) := fun g hg => .inr ⟨Nat.le_trans HBR.out (Nat.le_trans HZS.out hg.1), Nat.lt_of_lt_of_le hg.2 hal.size, fun e => by have h1 := HO.out.1.lt g e.symm; have h2 := HZS.out; omega⟩
      have HEA : Hid (EdS (fun g => S g ∨ (W0.heap.size + 2 ≤ g ∧ g < (wv.alloc (.cells ([.int .i64 1, .slice Av (way.length + 1) cv, .string (txt b1.name), .string (txt b1.key), .int .i64 b1.kind, .int .u64 (b1.num : Int), .string (txt b1.text), .slice B1 q1.len d1, .string ⟨#[]⟩, .string ⟨#[]⟩, .int .i64 0, .int .u64 0, .string ⟨#[]⟩, .slice none 0 0] : List Value).toArray 55)).heap.size ∧ some g ≠ (Value.slice Ao L.length co).ownBlock)) (wv.alloc (.cells ([.int .i64 1, .slice Av (way.length + 1) cv, .string (txt b1.name), .string (txt b1.key), .int .i64 b1.kind, .int .u64 (b1.num : Int), .string (txt b1.text), .slice B1 q1.len d1, .string ⟨#[]⟩, .string ⟨#[]⟩, .int .i64 0, .int .u64 0, .string ⟨#[]⟩, .slice none 0 0] : List Value).toArray 55)) ([.int .i64 1, .slice Av (way.length + 1) cv, .string (txt b1.name), .string (txt b1.key), .int .i64 b1.kind, .int .u64 (b1.num : Int), .string (txt b1.text), .slice B1 q1.len d1, .string ⟨#[]⟩, .string ⟨#[]⟩, .int .i64 0, .int .u64 0, .string ⟨#[]⟩, .slice none 0 0] : List Value) (newE (way ++ [stp b1]) (b1, q1))) := hHd ⟨_, _, _, rfl, HWS.out.keep (fun g hg => hal.block g hg.2) hnw, RowS.keep HRB.out (HKP.out _ (HB.out.trans (HVA.out.mono HB.out.size))) (fun _ h => .inl h), FrV.empty _ _ _⟩
      clear hal hnw
      refine rdy1 15 fun K hK => ?_
      refine wp_append_e (.tmp 109) (.tmp 123) (by rfl) (by rfl) (by rfl) HOA.out.1 (by rfl) HKA.out HEA.out HLL.out HOA.out.2.1 ?_
      intro vn wn hap
      obtain ⟨An9, cn9, rfl⟩ : ∃ A c, vn = .slice A (L.length + 1) c := by have h := hap.2.2; simpa using h
      have HON := hHd (HOA.out.app hap)
      have HBN := hHd ((HVA.out.mono HBR.out).trans (hap.below HOA.out.1 HOA.out.2.1))
      clear hap
      refine hK.out _ _ ?sr_8 (fun hS => ?_)
      case sr_8 => (exact HBN.out)
      clear hK K
      (try simp only [Act.put, layS])
      refine tkH 16 hS ?_
      refine wpAnyH_done (by kernel_rfl) ?_ _
      refine NoPanic.normal ?_
      clear hS
      go_wp2
      go_roundw
      case rel => exact ⟨i, k + 1, L ++ [newE (way ++ [stp b1]) (b1, q1)], by omega, by omega, by go_num, by go_num, hHd HLS.out, HON, hHd (HX.out.below HBN.out HP0.out), hHd (HY0.out.below HBN.out HP1.out), hHd (HB.out.trans (HBN.out.mono (Nat.le_add_right _ _)))⟩
      case measure => simp [intOf]; omega
     | false =>
      have HLS : Hid (L ++ edK (a1, k1) (b1, q1) (way ++ [stp a1]) ++ edF (Fr.drop (i + 1) f) (Fr.drop (k + 1) g) way = edF f g way) := hHd (by rw [← HE.out, hda, hdb, edF_eq hab hba, List.append_assoc])
      have HLE : Hid (L.length + (edK (a1, k1) (b1, q1) (way ++ [stp a1])).length ≤ 100000000) := hHd (by have h1 := congrArg List.length HLS.out; rw [List.length_append, List.length_append] at h1; have h2 := HELN.out; have h3 := HZZ.out; omega)
      have CKID : Hid (∀ (W : World) (t : Nat) (Av : Option Addr) (cv : Nat), Below wr.heap.size wr W → wr.heap.size ≤ t → WayS (fun g => t ≤ g ∧ g < W.heap.size) W (.slice Av (way.length + 1) cv) (way ++ [stp a1]) → Calls Tryz.prog 71 #[.agg (cN a1 (.slice A1 k1.len c1)), .agg (cN b1 (.slice B1 q1.len d1)), .slice Av (way.length + 1) cv] W (EdP (fun g => S g ∨ (t ≤ g ∧ g < W.heap.size)) (edK (a1, k1) (b1, q1) (way ++ [stp a1])) W)) := hHd (fun W t Av cv hW ht hv => by
       have h1 := HB.out.trans (hW.mono HB.out.size)
       rw [show way.length + 1 = (way ++ [stp a1]).length by simp] at hv ⊢
       have z1 := HSZA.out
       have z2 := HSZB.out
       have z3 := HZZ.out
       have z4 := HNN.out
       refine rkid16_any a1 b1 k1 q1 (way ++ [stp a1]) A1 B1 Av c1 d1 cv W _ (fun g hg => hg.elim (fun h => Nat.lt_of_lt_of_le (HSS.out g h) h1.size) (fun h => h.2)) (RowS.keep HRA.out (HKP.out W h1) (fun _ h => .inl h)) (RowS.keep HRB.out (HKP.out W h1) (fun _ h => .inl h)) (hv.keep (fun _ _ => rfl) (fun _ h => .inr h)) (by omega) (by omega) (fun W' hW' => ?_)
       have hkp : ∀ g, (S g ∨ (t ≤ g ∧ g < W.heap.size)) → W'.heap[g]? = W.heap[g]? := fun g hg => hW'.block g (hg.elim (fun h => Nat.lt_of_lt_of_le (HSS.out g h) h1.size) (fun h => h.2))
       exact HIH.out k1 q1 (by omega) a1 b1 (way ++ [stp a1]) A1 B1 Av c1 d1 cv W' _ (fun g hg => Nat.lt_of_lt_of_le (hg.elim (fun h => Nat.lt_of_lt_of_le (HSS.out g h) h1.size) (fun h => h.2)) hW'.size) (RowS.keep (RowS.keep HRA.out (HKP.out W h1) (fun _ h => .inl h)) hkp (fun _ h => h)) (RowS.keep (RowS.keep HRB.out (HKP.out W h1) (fun _ h => .inl h)) hkp (fun _ h => h)) ((hv.keep (fun _ _ => rfl) (fun _ h => .inr h)).keep hkp (fun _ h => h)) (by rw [List.length_append]; simp; omega))
      rw [hab] at CL1
      rw [hba] at CL2
      clear hab hba hga hgb hda hdb hsa hra hca hsb hrb hcb
      go_wp2_with fail
      refine wp_region_noPanic ?_
      refine wp_region_held_drew (S := fun _ => True) (by kernel_rfl) trivial (fun hS => ?_)
      refine held_more (S' := fun w' => Below (W0.heap.size + 2) wr w') (fun _ _ => trivial) _ _ _ _ ?_
      replace hS := HD0.out
      refine tkH 0 hS ?_
      refine tkH 1 hS ?_
      refine tkH 2 hS ?_ (hy := fun w hSw => by have zb := (hSw.cell (p := ⟨W0.heap.size + 1, 5, none⟩) HP1.out).trans y5; (go_simp <;> with_reducible rfl))
      refine tkH 3 hS ?_
      refine tkH 4 hS ?_
      refine tkH 5 hS ?_
      refine tkH 6 hS ?_
      refine tkH 7 hS ?_
      refine tkH 8 hS ?_ (hy := fun w hSw => by have za := (hSw.cell (p := ⟨W0.heap.size, 5, none⟩) HP0.out).trans x5; (go_simp <;> with_reducible rfl))
      refine tkH 9 hS ?_
      refine tkH 10 hS ?_
      refine tkH 11 hS ?_
      refine tkH 12 hS ?_
      refine tkH 13 hS ?_ (hy := fun w hSw => by have za := (hSw.cell (p := ⟨W0.heap.size, 5, none⟩) HP0.out).trans x5; (go_simp <;> with_reducible rfl))
      refine tkH 14 hS ?_
      refine tkH 15 hS ?_
      refine tkH 16 hS ?_ (hy := fun w hSw => by have u0a : w.cell? ⟨ga, oa + i * 6, none⟩ = _ := (hSw.cell (p := ⟨ga, oa + i * 6, none⟩) KA.out.1).trans (KA.out.2 0 _ rfl); have u1a := (hSw.cell (p := ⟨ga, oa + i * 6 + 1, none⟩) KA.out.1).trans (KA.out.2 1 _ rfl); have u2a := (hSw.cell (p := ⟨ga, oa + i * 6 + 2, none⟩) KA.out.1).trans (KA.out.2 2 _ rfl); have u3a := (hSw.cell (p := ⟨ga, oa + i * 6 + 3, none⟩) KA.out.1).trans (KA.out.2 3 _ rfl); have u4a := (hSw.cell (p := ⟨ga, oa + i * 6 + 4, none⟩) KA.out.1).trans (KA.out.2 4 _ rfl); have u5a := (hSw.cell (p := ⟨ga, oa + i * 6 + 5, none⟩) KA.out.1).trans (KA.out.2 5 _ rfl); (go_simp <;> with_reducible rfl))
      refine tkH 17 hS ?_
      refine tkH 18 hS ?_ (hy := fun w hSw => by have zb := (hSw.cell (p := ⟨W0.heap.size + 1, 5, none⟩) HP1.out).trans y5; (go_simp <;> with_reducible rfl))
      refine tkH 19 hS ?_
      refine tkH 20 hS ?_
      refine tkH 21 hS ?_ (hy := fun w hSw => by have u0b : w.cell? ⟨gb, ob + k * 6, none⟩ = _ := (hSw.cell (p := ⟨gb, ob + k * 6, none⟩) KB.out.1).trans (KB.out.2 0 _ rfl); have u1b := (hSw.cell (p := ⟨gb, ob + k * 6 + 1, none⟩) KB.out.1).trans (KB.out.2 1 _ rfl); have u2b := (hSw.cell (p := ⟨gb, ob + k * 6 + 2, none⟩) KB.out.1).trans (KB.out.2 2 _ rfl); have u3b := (hSw.cell (p := ⟨gb, ob + k * 6 + 3, none⟩) KB.out.1).trans (KB.out.2 3 _ rfl); have u4b := (hSw.cell (p := ⟨gb, ob + k * 6 + 4, none⟩) KB.out.1).trans (KB.out.2 4 _ rfl); have u5b := (hSw.cell (p := ⟨gb, ob + k * 6 + 5, none⟩) KB.out.1).trans (KB.out.2 5 _ rfl); (go_simp <;> with_reducible rfl))
      refine rdy1 22 fun K hK => ?_
      go_simp
      refine CL1.out.mono ?_
      rintro r wz ⟨rfl, hb⟩
      have HZ := hHd (HBD.out.trans (hb.mono HBD.out.size))
      clear hb
      go_wp2_with fail
      refine hK.out _ _ ?sr_9 (fun hS => ?_)
      case sr_9 => (exact HZ.out.mono HBR.out)
      clear hK K
      (try simp only [Act.put, layS])
      refine tkH 23 hS ?_
      refine tkH 24 hS ?_
      refine tkH 25 hS ?_
      refine wpAnyH_done (by kernel_rfl) ?_ _
      refine NoPanic.normal ?_
      clear hS
      go_wp2_with fail
      refine wp_region_noPanic ?_
      refine wp_region_held_drew (S := fun _ => True) (by kernel_rfl) trivial (fun hS => ?_)
      refine held_more (S' := fun w' => Below (W0.heap.size + 2) wr w') (fun _ _ => trivial) _ _ _ _ ?_
      replace hS := HZ.out.drew.mono HBR.out
      refine tkH 0 hS ?_
      refine tkH 1 hS ?_
      refine tkH 2 hS ?_ (hy := fun w hSw => by have za := (hSw.cell (p := ⟨W0.heap.size, 5, none⟩) HP0.out).trans x5; (go_simp <;> with_reducible rfl))
      refine tkH 3 hS ?_
      refine tkH 4 hS ?_
      refine tkH 5 hS ?_
      refine tkH 6 hS ?_
      refine tkH 7 hS ?_ (hy := fun w hSw => by have zb := (hSw.cell (p := ⟨W0.heap.size + 1, 5, none⟩) HP1.out).trans y5; (go_simp <;> with_reducible rfl))
      refine tkH 8 hS ?_
      refine tkH 9 hS ?_
      refine tkH 10 hS ?_ (hy := fun w hSw => by have u0b : w.cell? ⟨gb, ob + k * 6, none⟩ = _ := (hSw.cell (p := ⟨gb, ob + k * 6, none⟩) KB.out.1).trans (KB.out.2 0 _ rfl); have u1b := (hSw.cell (p := ⟨gb, ob + k * 6 + 1, none⟩) KB.out.1).trans (KB.out.2 1 _ rfl); have u2b := (hSw.cell (p := ⟨gb, ob + k * 6 + 2, none⟩) KB.out.1).trans (KB.out.2 2 _ rfl); have u3b := (hSw.cell (p := ⟨gb, ob + k * 6 + 3, none⟩) KB.out.1).trans (KB.out.2 3 _ rfl); have u4b := (hSw.cell (p := ⟨gb, ob + k * 6 + 4, none⟩) KB.out.1).trans (KB.out.2 4 _ rfl); have u5b := (hSw.cell (p := ⟨gb, ob + k * 6 + 5, none⟩) KB.out.1).trans (KB.out.2 5 _ rfl); (go_simp <;> with_reducible rfl))
      refine tkH 11 hS ?_
      refine tkH 12 hS ?_ (hy := fun w hSw => by have za := (hSw.cell (p := ⟨W0.heap.size, 5, none⟩) HP0.out).trans x5; (go_simp <;> with_reducible rfl))
      refine tkH 13 hS ?_
      refine tkH 14 hS ?_
      refine tkH 15 hS ?_ (hy := fun w hSw => by have u0a : w.cell? ⟨ga, oa + i * 6, none⟩ = _ := (hSw.cell (p := ⟨ga, oa + i * 6, none⟩) KA.out.1).trans (KA.out.2 0 _ rfl); have u1a := (hSw.cell (p := ⟨ga, oa + i * 6 + 1, none⟩) KA.out.1).trans (KA.out.2 1 _ rfl); have u2a := (hSw.cell (p := ⟨ga, oa + i * 6 + 2, none⟩) KA.out.1).trans (KA.out.2 2 _ rfl); have u3a := (hSw.cell (p := ⟨ga, oa + i * 6 + 3, none⟩) KA.out.1).trans (KA.out.2 3 _ rfl); have u4a := (hSw.cell (p := ⟨ga, oa + i * 6 + 4, none⟩) KA.out.1).trans (KA.out.2 4 _ rfl); have u5a := (hSw.cell (p := ⟨ga, oa + i * 6 + 5, none⟩) KA.out.1).trans (KA.out.2 5 _ rfl); (go_simp <;> with_reducible rfl))
      refine rdy1 16 fun K hK => ?_
      go_simp
      refine (CL2.out _ HZ.out.drew).out.mono ?_
      rintro r wy ⟨rfl, hb⟩
      have HY := hHd (HZ.out.drew.trans (hb.mono HZ.out.drew.size))
      clear hb
      go_wp2_with fail
      refine hK.out _ _ ?sr_a (fun hS => ?_)
      case sr_a => (exact HY.out.mono HBR.out)
      clear hK K
      (try simp only [Act.put, layS])
      refine tkH 17 hS ?_
      refine tkH 18 hS ?_
      refine wpAnyH_done (by kernel_rfl) ?_ _
      refine NoPanic.normal ?_
      clear hS
      have HOZ : Hid (EdL S (W0.heap.size + 2) L (.slice Ao L.length co) wy.drew) := hHd (HO.out.below HY.out.drew)
      have CY : Hid (Calls Tryz.prog 70 #[.slice Aw way.length cw, .agg (cN a1 (.slice A1 k1.len c1))] wy.drew fun r w' => ∃ v', r = .returned v' ∧ OwnS wy.drew.heap.size w' v' (way ++ [stp a1]) ∧ Below wy.drew.heap.size wy.drew w') := hHd (rway10_any way _ a1 _ _ (CWAY.out _ HY.out.drew) HWL.out)
      go_wp2_with fail
      refine wp_region_noPanic ?_
      refine wp_region_held_drew (S := fun _ => True) (by kernel_rfl) trivial (fun hS => ?_)
      refine held_more (S' := fun w' => Below (W0.heap.size + 2) wr w') (fun _ _ => trivial) _ _ _ _ ?_
      replace hS := HY.out.drew.mono HBR.out
      refine tkH 0 hS ?_
      refine tkH 1 hS ?_
      refine tkH 2 hS ?_ (hy := fun w hSw => by have za := (hSw.cell (p := ⟨W0.heap.size, 5, none⟩) HP0.out).trans x5; (go_simp <;> with_reducible rfl))
      refine tkH 3 hS ?_
      refine tkH 4 hS ?_
      refine tkH 5 hS ?_ (hy := fun w hSw => by have u0a : w.cell? ⟨ga, oa + i * 6, none⟩ = _ := (hSw.cell (p := ⟨ga, oa + i * 6, none⟩) KA.out.1).trans (KA.out.2 0 _ rfl); have u1a := (hSw.cell (p := ⟨ga, oa + i * 6 + 1, none⟩) KA.out.1).trans (KA.out.2 1 _ rfl); have u2a := (hSw.cell (p := ⟨ga, oa + i * 6 + 2, none⟩) KA.out.1).trans (KA.out.2 2 _ rfl); have u3a := (hSw.cell (p := ⟨ga, oa + i * 6 + 3, none⟩) KA.out.1).trans (KA.out.2 3 _ rfl); have u4a := (hSw.cell (p := ⟨ga, oa + i * 6 + 4, none⟩) KA.out.1).trans (KA.out.2 4 _ rfl); have u5a := (hSw.cell (p := ⟨ga, oa + i * 6 + 5, none⟩) KA.out.1).trans (KA.out.2 5 _ rfl); (go_simp <;> with_reducible rfl))
      refine tkH 6 hS ?_
      refine tkH 7 hS ?_ (hy := fun w hSw => by have zb := (hSw.cell (p := ⟨W0.heap.size + 1, 5, none⟩) HP1.out).trans y5; (go_simp <;> with_reducible rfl))
      refine tkH 8 hS ?_
      refine tkH 9 hS ?_
      refine tkH 10 hS ?_ (hy := fun w hSw => by have u0b : w.cell? ⟨gb, ob + k * 6, none⟩ = _ := (hSw.cell (p := ⟨gb, ob + k * 6, none⟩) KB.out.1).trans (KB.out.2 0 _ rfl); have u1b := (hSw.cell (p := ⟨gb, ob + k * 6 + 1, none⟩) KB.out.1).trans (KB.out.2 1 _ rfl); have u2b := (hSw.cell (p := ⟨gb, ob + k * 6 + 2, none⟩) KB.out.1).trans (KB.out.2 2 _ rfl); have u3b := (hSw.cell (p := ⟨gb, ob + k * 6 + 3, none⟩) KB.out.1).trans (KB.out.2 3 _ rfl); have u4b := (hSw.cell (p := ⟨gb, ob + k * 6 + 4, none⟩) KB.out.1).trans (KB.out.2 4 _ rfl); have u5b := (hSw.cell (p := ⟨gb, ob + k * 6 + 5, none⟩) KB.out.1).trans (KB.out.2 5 _ rfl); (go_simp <;> with_reducible rfl))
      refine tkH 11 hS ?_
      refine tkH 12 hS ?_
      refine tkH 13 hS ?_ (hy := fun w hSw => by have za := (hSw.cell (p := ⟨W0.heap.size, 5, none⟩) HP0.out).trans x5; (go_simp <;> with_reducible rfl))
      refine tkH 14 hS ?_
      refine tkH 15 hS ?_
      refine tkH 16 hS ?_ (hy := fun w hSw => by have u0a : w.cell? ⟨ga, oa + i * 6, none⟩ = _ := (hSw.cell (p := ⟨ga, oa + i * 6, none⟩) KA.out.1).trans (KA.out.2 0 _ rfl); have u1a := (hSw.cell (p := ⟨ga, oa + i * 6 + 1, none⟩) KA.out.1).trans (KA.out.2 1 _ rfl); have u2a := (hSw.cell (p := ⟨ga, oa + i * 6 + 2, none⟩) KA.out.1).trans (KA.out.2 2 _ rfl); have u3a := (hSw.cell (p := ⟨ga, oa + i * 6 + 3, none⟩) KA.out.1).trans (KA.out.2 3 _ rfl); have u4a := (hSw.cell (p := ⟨ga, oa + i * 6 + 4, none⟩) KA.out.1).trans (KA.out.2 4 _ rfl); have u5a := (hSw.cell (p := ⟨ga, oa + i * 6 + 5, none⟩) KA.out.1).trans (KA.out.2 5 _ rfl); (go_simp <;> with_reducible rfl))
      refine rdy1 17 fun K hK => ?_
      go_simp
      refine CY.out.mono ?_
      rintro r wv ⟨vv, rfl, hov, hbv⟩
      obtain ⟨Av, cv, rfl⟩ : ∃ Av cv, vv = .slice Av (way.length + 1) cv := by have h := hov.shape; simpa using h
      have HV := hHd (HY.out.drew.trans (hbv.mono HY.out.drew.size))
      have HOV := hHd (HOZ.out.below hbv)
      have HWS := hHd hov.ws
      have HZS := hHd HY.out.drew.size
      clear hov hbv
      go_wp2_with fail
      refine hK.out _ _ ?sr_b (fun hS => ?_)
      case sr_b => (exact HV.out.mono HBR.out)
      clear hK K
      (try simp only [Act.put, layS])
      refine rdy1 18 fun K hK => ?_
      go_simp
      refine (CKID.out wv wy.drew.heap.size Av cv HV.out HZS.out HWS.out).mono ?_
      rintro r wu ⟨vu, rfl, hvu, hbu⟩
      obtain ⟨Au, cu, rfl⟩ := hvu.shape
      have HU := hHd (HV.out.trans (hbu.mono HV.out.size))
      have HOU := hHd (HOV.out.below hbu)
      have HVS : Hid (wr.heap.size ≤ wv.heap.size) := hHd HV.out.size
      have HSU := hHd (HOU.out.src hvu (fun g hg => by rcases hg with (hg | hg) | hg; exact .inl hg; exact .inr ⟨Nat.le_trans HBR.out (Nat.le_trans HZS.out hg.1), Nat.lt_of_lt_of_le hg.2 hbu.size, fun e => by have h1 := HO.out.1.lt g e.symm; have h2 := HZS.out; omega⟩; exact .inr ⟨Nat.le_trans HBR.out (Nat.le_trans HVS.out hg.1), hg.2, fun e => by have h1 := HO.out.1.lt g e.symm; have h2 := HVS.out; omega⟩))
      have HRUN := hHd (run_append_es HOU.out.1 HSU.out HLE.out HOU.out.2.1)
      clear hvu hbu
      go_wp2_with fail
      refine hK.out _ _ ?sr_c (fun hS => ?_)
      case sr_c => (exact HU.out.mono HBR.out)
      clear hK K
      (try simp only [Act.put, layS])
      refine rdy1 19 fun K hK => ?_
      obtain ⟨vn, wn, hrn, hap⟩ := HRUN.out
      obtain ⟨An9, cn9, rfl⟩ : ∃ A c, vn = .slice A (L.length + (edK (a1, k1) (b1, q1) (way ++ [stp a1])).length) c := by have h := hap.2.2; rwa [List.length_append] at h
      have HRN := hHd hrn
      have HON := hHd (HOU.out.app hap)
      have HBN := hHd ((HU.out.mono HBR.out).trans (hap.below HOU.out.1 HOU.out.2.1))
      clear hrn hap
      refine Lib.wp_append_run _ (.tmp 22) (.tmp 40) 22 22 (by rfl) _ _ (by rfl) (by rfl) _ _ HRN.out ?_
      refine hK.out _ _ ?sr_d (fun hS => ?_)
      case sr_d => (exact HBN.out)
      clear hK K
      (try simp only [Act.put, layS])
      refine tkH 20 hS ?_
      refine wpAnyH_done (by kernel_rfl) ?_ _
      refine NoPanic.normal ?_
      clear hS
      go_wp2
      go_roundw
      case rel => exact ⟨i + 1, k + 1, L ++ edK (a1, k1) (b1, q1) (way ++ [stp a1]), by omega, by omega, by go_num, by go_num, hHd HLS.out, HON, hHd (HX.out.below HBN.out HP0.out), hHd (HY0.out.below HBN.out HP1.out), hHd (HB.out.trans (HBN.out.mono (Nat.le_add_right _ _)))⟩
      case measure => simp [intOf]; omega
   ·obtain rfl : i = f.len := by omega
    have ia2 : ¬ (f.len : Int) < (f.len : Int) := by omega
    have ia5 : ((f.len : Int) == (f.len : Int)) = true := beq_self_eq_true _
    have HLS : Hid (L ++ [newE (way ++ [stp b1]) (b1, q1)] ++ edF (Fr.drop f.len f) (Fr.drop (k + 1) g) way = edF f g way) := hHd (by rw [← HE.out, hdb, Fr.drop_all, edF_new]; simp)
    clear hi2 hgb hdb hsb hrb hcb
    go_wp2_with fail
    refine wp_region_noPanic ?_
    refine wp_region_held_drew (S := fun _ => True) (by kernel_rfl) trivial (fun hS => ?_)
    refine held_more (S' := fun w' => Below (W0.heap.size + 2) wr w') (fun _ _ => trivial) _ _ _ _ ?_
    replace hS := HD0.out
    refine tkH 0 hS ?_
    refine tkH 1 hS ?_
    refine tkH 2 hS ?_ (hy := fun w hSw => by have zb := (hSw.cell (p := ⟨W0.heap.size + 1, 5, none⟩) HP1.out).trans y5; (go_simp <;> with_reducible rfl))
    refine tkH 3 hS ?_
    refine tkH 4 hS ?_
    refine tkH 5 hS ?_
    refine tkH 6 hS ?_
    refine tkH 7 hS ?_
    refine tkH 8 hS ?_ (hy := fun w hSw => by have za := (hSw.cell (p := ⟨W0.heap.size, 5, none⟩) HP0.out).trans x5; (go_simp <;> with_reducible rfl))
    refine tkH 9 hS ?_
    refine tkH 10 hS ?_
    refine tkH 11 hS ?_
    refine tkHo 12 hS ?_
    refine tkHo 13 hS ?_
    refine tkHo 14 hS ?_
    refine tkHo 15 hS ?_
    refine tkHo 16 hS ?_
    refine tkHo 17 hS ?_
    refine tkHo 18 hS ?_
    refine tkHo 19 hS ?_
    refine tkHo 20 hS ?_
    refine tkHo 21 hS ?_
    refine tkHo 22 hS ?_
    refine tkH 23 hS ?_
    refine tkH 24 hS ?_
    refine tkH 25 hS ?_
    refine wpAnyH_done (by kernel_rfl) ?_ _
    refine NoPanic.normal ?_
    clear hS
    have HZ : Hid (Below wr.heap.size wr wr.drew) := HBD
    revert HZ
    generalize wr.drew = wz
    intro HZ
    go_wp2_with fail
    refine wp_region_noPanic ?_
    refine wp_region_held_drew (S := fun _ => True) (by kernel_rfl) trivial (fun hS => ?_)
    refine held_more (S' := fun w' => Below (W0.heap.size + 2) wr w') (fun _ _ => trivial) _ _ _ _ ?_
    replace hS := HZ.out.drew.mono HBR.out
    refine tkH 0 hS ?_
    refine tkH 1 hS ?_
    refine tkH 2 hS ?_ (hy := fun w hSw => by have za := (hSw.cell (p := ⟨W0.heap.size, 5, none⟩) HP0.out).trans x5; (go_simp <;> with_reducible rfl))
    refine tkH 3 hS ?_
    refine tkH 4 hS ?_
    refine tkH 5 hS ?_
    refine tkHo 6 hS ?_
    refine tkHo 7 hS ?_
    refine tkHo 8 hS ?_
    refine tkHo 9 hS ?_
    refine tkHo 10 hS ?_
    refine tkHo 11 hS ?_
    refine tkHo 12 hS ?_
    refine tkHo 13 hS ?_
    refine tkHo 14 hS ?_
    refine tkHo 15 hS ?_
    refine tkHo 16 hS ?_
    refine tkH 17 hS ?_
    refine tkH 18 hS ?_
    refine wpAnyH_done (by kernel_rfl) ?_ _
    refine NoPanic.normal ?_
    clear hS
    have HY : Hid (Below wr.heap.size wr wz.drew) := hHd HZ.out.drew
    clear HZ
    revert HY
    generalize wz.drew = wy
    intro HY
    have HOZ : Hid (EdL S (W0.heap.size + 2) L (.slice Ao L.length co) wy.drew) := hHd (HO.out.below HY.out.drew)
    have CY : Hid (Calls Tryz.prog 70 #[.slice Aw way.length cw, .agg (cN b1 (.slice B1 q1.len d1))] wy.drew fun r w' => ∃ v', r = .returned v' ∧ OwnS wy.drew.heap.size w' v' (way ++ [stp b1]) ∧ Below wy.drew.heap.size wy.drew w') := hHd (rway10_any way _ b1 _ _ (CWAY.out _ HY.out.drew) HWL.out)
    go_wp2_with fail
    refine wp_region_noPanic ?_
    refine wp_region_held_drew (S := fun _ => True) (by kernel_rfl) trivial (fun hS => ?_)
    refine held_more (S' := fun w' => Below (W0.heap.size + 2) wr w') (fun _ _ => trivial) _ _ _ _ ?_
    replace hS := HY.out.drew.mono HBR.out
    refine tkH 0 hS ?_
    refine tkH 1 hS ?_
    refine tkH 2 hS ?_
    refine tkH 3 hS ?_ (hy := fun w hSw => by have zb := (hSw.cell (p := ⟨W0.heap.size + 1, 5, none⟩) HP1.out).trans y5; (go_simp <;> with_reducible rfl))
    refine tkH 4 hS ?_
    refine tkH 5 hS ?_
    refine tkH 6 hS ?_ (hy := fun w hSw => by have u0b : w.cell? ⟨gb, ob + k * 6, none⟩ = _ := (hSw.cell (p := ⟨gb, ob + k * 6, none⟩) KB.out.1).trans (KB.out.2 0 _ rfl); have u1b := (hSw.cell (p := ⟨gb, ob + k * 6 + 1, none⟩) KB.out.1).trans (KB.out.2 1 _ rfl); have u2b := (hSw.cell (p := ⟨gb, ob + k * 6 + 2, none⟩) KB.out.1).trans (KB.out.2 2 _ rfl); have u3b := (hSw.cell (p := ⟨gb, ob + k * 6 + 3, none⟩) KB.out.1).trans (KB.out.2 3 _ rfl); have u4b := (hSw.cell (p := ⟨gb, ob + k * 6 + 4, none⟩) KB.out.1).trans (KB.out.2 4 _ rfl); have u5b := (hSw.cell (p := ⟨gb, ob + k * 6 + 5, none⟩) KB.out.1).trans (KB.out.2 5 _ rfl); (go_simp <;> with_reducible rfl))
    refine tkH 8 hS ?_
    refine tkH 9 hS ?_ (hy := fun w hSw => by have zb := (hSw.cell (p := ⟨W0.heap.size + 1, 5, none⟩) HP1.out).trans y5; (go_simp <;> with_reducible rfl))
    refine tkH 10 hS ?_
    refine tkH 11 hS ?_
    refine tkH 12 hS ?_ (hy := fun w hSw => by have u0b : w.cell? ⟨gb, ob + k * 6, none⟩ = _ := (hSw.cell (p := ⟨gb, ob + k * 6, none⟩) KB.out.1).trans (KB.out.2 0 _ rfl); have u1b := (hSw.cell (p := ⟨gb, ob + k * 6 + 1, none⟩) KB.out.1).trans (KB.out.2 1 _ rfl); have u2b := (hSw.cell (p := ⟨gb, ob + k * 6 + 2, none⟩) KB.out.1).trans (KB.out.2 2 _ rfl); have u3b := (hSw.cell (p := ⟨gb, ob + k * 6 + 3, none⟩) KB.out.1).trans (KB.out.2 3 _ rfl); have u4b := (hSw.cell (p := ⟨gb, ob + k * 6 + 4, none⟩) KB.out.1).trans (KB.out.2 4 _ rfl); have u5b := (hSw.cell (p := ⟨gb, ob + k * 6 + 5, none⟩) KB.out.1).trans (KB.out.2 5 _ rfl); (go_simp <;> with_reducible rfl))
    refine rdy1 7 fun K hK => ?_
    go_simp
    refine CY.out.mono ?_
    rintro r wv ⟨vv, rfl, hov, hbv⟩
    obtain ⟨Av, cv, rfl⟩ : ∃ Av cv, vv = .slice Av (way.length + 1) cv := by have h := hov.shape; simpa using h
    have HV := hHd (HY.out.drew.trans (hbv.mono HY.out.drew.size))
    have HOV := hHd (HOZ.out.below hbv)
    have HWS := hHd hov.ws
    have HZS := hHd HY.out.drew.size
    clear hov hbv
    go_wp2_with fail
    refine hK.out _ _ ?sr_e (fun hS => ?_)
    case sr_e => (exact HV.out.mono HBR.out)
    clear hK K
    (try simp only [Act.put, layS])
    refine tkH 13 hS ?_
    refine rdy1 14 fun K hK => ?_
    go_simp
    refine hK.out _ _ ?sr_f (fun hS => ?_)
    case sr_f => (exact (HV.out.alloc HV.out.size _).mono HBR.out)
    clear hK K
    (try simp only [Act.put, layS])
    have hal : Below wv.heap.size wv (wv.alloc (.cells ([.int .i64 1, .slice Av (way.length + 1) cv, .string (txt b1.name), .string (txt b1.key), .int .i64 b1.kind, .int .u64 (b1.num : Int), .string (txt b1.text), .slice B1 q1.len d1, .string ⟨#[]⟩, .string ⟨#[]⟩, .int .i64 0, .int .u64 0, .string ⟨#[]⟩, .slice none 0 0] : List Value).toArray 55)) := bAl
    have HOA := hHd (HOV.out.below hal)
    have HVA := hHd (HV.out.trans (hal.mono HV.out.size))
    have HKA := hHd (Blk.new wv 55 ([.int .i64 1, .slice Av (way.length + 1) cv, .string (txt b1.name), .string (txt b1.key), .int .i64 b1.kind, .int .u64 (b1.num : Int), .string (txt b1.text), .slice B1 q1.len d1, .string ⟨#[]⟩, .string ⟨#[]⟩, .int .i64 0, .int .u64 0, .string ⟨#[]⟩, .slice none 0 0] : List Value).toArray)
    have hnw : ∀ g, (wy.drew.heap.size ≤ g ∧ g < wv.heap.size) → S g ∨ (W0.heap.size + 2 ≤ g ∧ g < (wv.alloc (.cells ([.int .i64 1, .slice Av (way.length + 1) cv, .string (txt b1.name), .string (txt b1.key), .int .i64 b1.kind, .int .u64 (b1.num : Int), .string (txt b1.text), .slice B1 q1.len d1, .string ⟨#[]⟩, .string ⟨#[]⟩, .int .i64 0, .int .u64 0, .string ⟨#[]⟩, .slice none 0 0] : List Value).toArray 55)).heap.size ∧ some g ≠ (Value.slice Ao L.length co).ownBlock) := fun g hg => .inr ⟨Nat.le_trans HBR.out (Nat.le_trans HZS.out hg.1), Nat.lt_of_lt_of_le hg.2 hal.size, fun e => by have h1 := HO.out.1.lt g e.symm; have h2 := HZS.out; omega⟩
    have HEA : Hid (EdS (fun g => S g ∨ (W0.heap.size + 2 ≤ g ∧ g < (wv.alloc (.cells ([.int .i64 1, .slice Av (way.length + 1) cv, .string (txt b1.name), .string (txt b1.key), .int .i64 b1.kind, .int .u64 (b1.num : Int), .string (txt b1.text), .slice B1 q1.len d1, .string ⟨#[]⟩, .string ⟨#[]⟩, .int .i64 0, .int .u64 0, .string ⟨#[]⟩, .slice none 0 0] : List Value).toArray 55)).heap.size ∧ some g ≠ (Value.slice Ao L.length co).ownBlock)) (wv.alloc (.cells ([.int .i64 1, .slice Av (way.length + 1) cv, .string (txt b1.name), .string (txt b1.key), .int .i64 b1.kind, .int .u64 (b1.num : Int), .string (txt b1.text), .slice B1 q1.len d1, .string ⟨#[]⟩, .string ⟨#[]⟩, .int .i64 0, .int .u64 0, .string ⟨#[]⟩, .slice none 0 0] : List Value).toArray 55)) ([.int .i64 1, .slice Av (way.length + 1) cv, .string (txt b1.name), .string (txt b1.key), .int .i64 b1.kind, .int .u64 (b1.num : Int), .string (txt b1.text), .slice B1 q1.len d1, .string ⟨#[]⟩, .string ⟨#[]⟩, .int .i64 0, .int .u64 0, .string ⟨#[]⟩, .slice none 0 0] : List Value) (newE (way ++ [stp b1]) (b1, q1))) := hHd ⟨_, _, _, rfl, HWS.out.keep (fun g hg => hal.block g hg.2) hnw, RowS.keep HRB.out (HKP.out _ (HB.out.trans (HVA.out.mono HB.out.size))) (fun _ h => .inl h), FrV.empty _ _ _⟩
    clear hal hnw
    refine rdy1 15 fun K hK => ?_
    refine wp_append_e (.tmp 109) (.tmp 123) (by rfl) (by rfl) (by rfl) HOA.out.1 (by rfl) HKA.out HEA.out HLL.out HOA.out.2.1 ?_
    intro vn wn hap
    obtain ⟨An9, cn9, rfl⟩ : ∃ A c, vn = .slice A (L.length + 1) c := by have h := hap.2.2; simpa using h
    have HON := hHd (HOA.out.app hap)
    have HBN := hHd ((HVA.out.mono HBR.out).trans (hap.below HOA.out.1 HOA.out.2.1))
    clear hap
    refine hK.out _ _ ?sr_g (fun hS => ?_)
    case sr_g => (exact HBN.out)
    clear hK K
    (try simp only [Act.put, layS])
    refine tkH 16 hS ?_
    refine wpAnyH_done (by kernel_rfl) ?_ _
    refine NoPanic.normal ?_
    clear hS
    go_wp2
    go_roundw
    case rel => exact ⟨f.len, k + 1, L ++ [newE (way ++ [stp b1]) (b1, q1)], by omega, by omega, by go_num, by go_num, hHd HLS.out, HON, hHd (HX.out.below HBN.out HP0.out), hHd (HY0.out.below HBN.out HP1.out), hHd (HB.out.trans (HBN.out.mono (Nat.le_add_right _ _)))⟩
    case measure => simp [intOf]; omega
  ·obtain rfl : k = g.len := by omega
   have ib5 : ((g.len : Int) == (g.len : Int)) = true := beq_self_eq_true _
   have ib2 : ¬ (g.len : Int) < (g.len : Int) := by omega
   clear hk2
   by_cases hi2 : i < f.len
   ·obtain ⟨⟨a1, k1⟩, hga⟩ : ∃ x, f.get? i = some x := by obtain ⟨a, k, h⟩ := Fr.get_some hi2; exact ⟨_, h⟩
    have hda := (Fr.get_drop hga).1
    obtain ⟨ga, oa, A1, c1, rfl, hsa, hra, hca⟩ := HRF.out.at hga
    have KA : Hid (ga < W0.heap.size + 2 ∧ ∀ j u, (ndC a1 (.slice A1 k1.len c1))[j]? = some u → wr.cell? ⟨ga, oa + i * 6 + j, none⟩ = some u) := hHd ⟨Nat.lt_of_lt_of_le (HSS.out ga hsa) (Nat.le_add_right _ _), fun j u hu => (HB.out.cell (p := ⟨ga, oa + i * 6 + j, none⟩) (HSS.out ga hsa)).trans (hca j u hu)⟩
    have HRA := hHd hra
    have HSZA := hHd (Fr.size_get hga)
    have ia2 : (i : Int) < (f.len : Int) := by omega
    have ia3 : decide ((i : Int) < (f.len : Int)) = true := decide_eq_true ia2
    have ia4 : decide (i < f.len) = true := decide_eq_true hi2
    have ia5 : ((i : Int) == (f.len : Int)) = false := beq_eq_false_iff_ne.2 (by omega)
    have ia6 : (i == f.len) = false := beq_eq_false_iff_ne.2 (by omega)
    have HLS : Hid (L ++ [delE (way ++ [stp a1]) (a1, k1)] ++ edF (Fr.drop (i + 1) f) (Fr.drop g.len g) way = edF f g way) := hHd (by rw [← HE.out, hda, Fr.drop_all, edF_del]; simp)
    clear hga hda hsa hra hca
    go_wp2_with fail
    refine wp_region_noPanic ?_
    refine wp_region_held_drew (S := fun _ => True) (by kernel_rfl) trivial (fun hS => ?_)
    refine held_more (S' := fun w' => Below (W0.heap.size + 2) wr w') (fun _ _ => trivial) _ _ _ _ ?_
    replace hS := HD0.out
    refine tkH 0 hS ?_
    refine tkH 1 hS ?_
    refine tkH 2 hS ?_ (hy := fun w hSw => by have zb := (hSw.cell (p := ⟨W0.heap.size + 1, 5, none⟩) HP1.out).trans y5; (go_simp <;> with_reducible rfl))
    refine tkH 3 hS ?_
    refine tkH 4 hS ?_
    refine tkH 5 hS ?_
    refine tkHo 6 hS ?_
    refine tkHo 7 hS ?_
    refine tkHo 8 hS ?_
    refine tkHo 9 hS ?_
    refine tkHo 10 hS ?_
    refine tkHo 11 hS ?_
    refine tkHo 12 hS ?_
    refine tkHo 13 hS ?_
    refine tkHo 14 hS ?_
    refine tkHo 15 hS ?_
    refine tkHo 16 hS ?_
    refine tkHo 17 hS ?_
    refine tkHo 18 hS ?_
    refine tkHo 19 hS ?_
    refine tkHo 20 hS ?_
    refine tkHo 21 hS ?_
    refine tkHo 22 hS ?_
    refine tkHo 23 hS ?_
    refine tkH 24 hS ?_
    refine tkH 25 hS ?_
    refine wpAnyH_done (by kernel_rfl) ?_ _
    refine NoPanic.normal ?_
    clear hS
    have HZ : Hid (Below wr.heap.size wr wr.drew) := HBD
    revert HZ
    generalize wr.drew = wz
    intro HZ
    have HOZ : Hid (EdL S (W0.heap.size + 2) L (.slice Ao L.length co) wz.drew) := hHd (HO.out.below HZ.out.drew)
    have CY : Hid (Calls Tryz.prog 70 #[.slice Aw way.length cw, .agg (cN a1 (.slice A1 k1.len c1))] wz.drew fun r w' => ∃ v', r = .returned v' ∧ OwnS wz.drew.heap.size w' v' (way ++ [stp a1]) ∧ Below wz.drew.heap.size wz.drew w') := hHd (rway10_any way _ a1 _ _ (CWAY.out _ HZ.out.drew) HWL.out)
    go_wp2_with fail
    refine wp_region_noPanic ?_
    refine wp_region_held_drew (S := fun _ => True) (by kernel_rfl) trivial (fun hS => ?_)
    refine held_more (S' := fun w' => Below (W0.heap.size + 2) wr w') (fun _ _ => trivial) _ _ _ _ ?_
    replace hS := HZ.out.drew.mono HBR.out
    refine tkH 0 hS ?_
    refine tkH 1 hS ?_
    refine tkH 2 hS ?_
    refine tkH 3 hS ?_ (hy := fun w hSw => by have za := (hSw.cell (p := ⟨W0.heap.size, 5, none⟩) HP0.out).trans x5; (go_simp <;> with_reducible rfl))
    refine tkH 4 hS ?_
    refine tkH 5 hS ?_
    refine tkH 6 hS ?_ (hy := fun w hSw => by have u0a : w.cell? ⟨ga, oa + i * 6, none⟩ = _ := (hSw.cell (p := ⟨ga, oa + i * 6, none⟩) KA.out.1).trans (KA.out.2 0 _ rfl); have u1a := (hSw.cell (p := ⟨ga, oa + i * 6 + 1, none⟩) KA.out.1).trans (KA.out.2 1 _ rfl); have u2a := (hSw.cell (p := ⟨ga, oa + i * 6 + 2, none⟩) KA.out.1).trans (KA.out.2 2 _ rfl); have u3a := (hSw.cell (p := ⟨ga, oa + i * 6 + 3, none⟩) KA.out.1).trans (KA.out.2 3 _ rfl); have u4a := (hSw.cell (p := ⟨ga, oa + i * 6 + 4, none⟩) KA.out.1).trans (KA.out.2 4 _ rfl); have u5a := (hSw.cell (p := ⟨ga, oa + i * 6 + 5, none⟩) KA.out.1).trans (KA.out.2 5 _ rfl); (go_simp <;> with_reducible rfl))
    refine tkH 8 hS ?_
    refine tkH 9 hS ?_ (hy := fun w hSw => by have za := (hSw.cell (p := ⟨W0.heap.size, 5, none⟩) HP0.out).trans x5; (go_simp <;> with_reducible rfl))
    refine tkH 10 hS ?_
    refine tkH 11 hS ?_
    refine tkH 12 hS ?_ (hy := fun w hSw => by have u0a : w.cell? ⟨ga, oa + i * 6, none⟩ = _ := (hSw.cell (p := ⟨ga, oa + i * 6, none⟩) KA.out.1).trans (KA.out.2 0 _ rfl); have u1a := (hSw.cell (p := ⟨ga, oa + i * 6 + 1, none⟩) KA.out.1).trans (KA.out.2 1 _ rfl); have u2a := (hSw.cell (p := ⟨ga, oa + i * 6 + 2, none⟩) KA.out.1).trans (KA.out.2 2 _ rfl); have u3a := (hSw.cell (p := ⟨ga, oa + i * 6 + 3, none⟩) KA.out.1).trans (KA.out.2 3 _ rfl); have u4a := (hSw.cell (p := ⟨ga, oa + i * 6 + 4, none⟩) KA.out.1).trans (KA.out.2 4 _ rfl); have u5a := (hSw.cell (p := ⟨ga, oa + i * 6 + 5, none⟩) KA.out.1).trans (KA.out.2 5 _ rfl); (go_simp <;> with_reducible rfl))
    refine rdy1 7 fun K hK => ?_
    go_simp
    refine CY.out.mono ?_
    rintro r wv ⟨vv, rfl, hov, hbv⟩
    obtain ⟨Av, cv, rfl⟩ : ∃ Av cv, vv = .slice Av (way.length + 1) cv := by have h := hov.shape; simpa using h
    have HV := hHd (HZ.out.drew.trans (hbv.mono HZ.out.drew.size))
    have HOV := hHd (HOZ.out.below hbv)
    have HWS := hHd hov.ws
    have HZS := hHd HZ.out.drew.size
    clear hov hbv
    go_wp2_with fail
    refine hK.out _ _ ?sr_h (fun hS => ?_)
    case sr_h => (exact HV.out.mono HBR.out)
    clear hK K
    (try simp only [Act.put, layS])
    refine tkH 13 hS ?_
    refine rdy1 14 fun K hK => ?_
    go_simp
    refine hK.out _ _ ?sr_i (fun hS => ?_)
    case sr_i => (exact (HV.out.alloc HV.out.size _).mono HBR.out)
    clear hK K
    (try simp only [Act.put, layS])
    have hal : Below wv.heap.size wv (wv.alloc (.cells ([.int .i64 2, .slice Av (way.length + 1) cv, .string ⟨#[]⟩, .string ⟨#[]⟩, .int .i64 0, .int .u64 0, .string ⟨#[]⟩, .slice none 0 0, .string (txt a1.name), .string (txt a1.key), .int .i64 a1.kind, .int .u64 (a1.num : Int), .string (txt a1.text), .slice A1 k1.len c1] : List Value).toArray 55)) := bAl
    have HOA := hHd (HOV.out.below hal)
    have HVA := hHd (HV.out.trans (hal.mono HV.out.size))
    have HKA := hHd (Blk.new wv 55 ([.int .i64 2, .slice Av (way.length + 1) cv, .string ⟨#[]⟩, .string ⟨#[]⟩, .int .i64 0, .int .u64 0, .string ⟨#[]⟩, .slice none 0 0, .string (txt a1.name), .string (txt a1.key), .int .i64 a1.kind, .int .u64 (a1.num : Int), .string (txt a1.text), .slice A1 k1.len c1] : List Value).toArray)
    have hnw : ∀ g, (wz.drew.heap.size ≤ g ∧ g < wv.heap.size) → S g ∨ (W0.heap.size + 2 ≤ g ∧ g < (wv.alloc (.cells ([.int .i64 2, .slice Av (way.length + 1) cv, .string ⟨#[]⟩, .string ⟨#[]⟩, .int .i64 0, .int .u64 0, .string ⟨#[]⟩, .slice none 0 0, .string (txt a1.name), .string (txt a1.key), .int .i64 a1.kind, .int .u64 (a1.num : Int), .string (txt a1.text), .slice A1 k1.len c1] : List Value).toArray 55)).heap.size ∧ some g ≠ (Value.slice Ao L.length co).ownBlock) := fun g hg => .inr ⟨Nat.le_trans HBR.out (Nat.le_trans HZS.out hg.1), Nat.lt_of_lt_of_le hg.2 hal.size, fun e => by have h1 := HO.out.1.lt g e.symm; have h2 := HZS.out; omega⟩
    have HEA : Hid (EdS (fun g => S g ∨ (W0.heap.size + 2 ≤ g ∧ g < (wv.alloc (.cells ([.int .i64 2, .slice Av (way.length + 1) cv, .string ⟨#[]⟩, .string ⟨#[]⟩, .int .i64 0, .int .u64 0, .string ⟨#[]⟩, .slice none 0 0, .string (txt a1.name), .string (txt a1.key), .int .i64 a1.kind, .int .u64 (a1.num : Int), .string (txt a1.text), .slice A1 k1.len c1] : List Value).toArray 55)).heap.size ∧ some g ≠ (Value.slice Ao L.length co).ownBlock)) (wv.alloc (.cells ([.int .i64 2, .slice Av (way.length + 1) cv, .string ⟨#[]⟩, .string ⟨#[]⟩, .int .i64 0, .int .u64 0, .string ⟨#[]⟩, .slice none 0 0, .string (txt a1.name), .string (txt a1.key), .int .i64 a1.kind, .int .u64 (a1.num : Int), .string (txt a1.text), .slice A1 k1.len c1] : List Value).toArray 55)) ([.int .i64 2, .slice Av (way.length + 1) cv, .string ⟨#[]⟩, .string ⟨#[]⟩, .int .i64 0, .int .u64 0, .string ⟨#[]⟩, .slice none 0 0, .string (txt a1.name), .string (txt a1.key), .int .i64 a1.kind, .int .u64 (a1.num : Int), .string (txt a1.text), .slice A1 k1.len c1] : List Value) (delE (way ++ [stp a1]) (a1, k1))) := hHd ⟨_, _, _, rfl, HWS.out.keep (fun g hg => hal.block g hg.2) hnw, FrV.empty _ _ _, RowS.keep HRA.out (HKP.out _ (HB.out.trans (HVA.out.mono HB.out.size))) (fun _ h => .inl h)⟩
    clear hal hnw
    refine rdy1 15 fun K hK => ?_
    refine wp_append_e (.tmp 72) (.tmp 86) (by rfl) (by rfl) (by rfl) HOA.out.1 (by rfl) HKA.out HEA.out HLL.out HOA.out.2.1 ?_
    intro vn wn hap
    obtain ⟨An9, cn9, rfl⟩ : ∃ A c, vn = .slice A (L.length + 1) c := by have h := hap.2.2; simpa using h
    have HON := hHd (HOA.out.app hap)
    have HBN := hHd ((HVA.out.mono HBR.out).trans (hap.below HOA.out.1 HOA.out.2.1))
    clear hap
    refine hK.out _ _ ?sr_j (fun hS => ?_)
    case sr_j => (exact HBN.out)
    clear hK K
    (try simp only [Act.put, layS])
    refine tkH 16 hS ?_
    refine wpAnyH_done (by kernel_rfl) ?_ _
    refine NoPanic.normal ?_
    clear hS
    go_wp2
    go_roundw
    case rel => exact ⟨i + 1, g.len, L ++ [delE (way ++ [stp a1]) (a1, k1)], by omega, by omega, by go_num, by go_num, hHd HLS.out, HON, hHd (HX.out.below HBN.out HP0.out), hHd (HY0.out.below HBN.out HP1.out), hHd (HB.out.trans (HBN.out.mono (Nat.le_add_right _ _)))⟩
    case measure => simp [intOf]; omega
   ·obtain rfl : i = f.len := by omega
    have ia2 : ¬ (f.len : Int) < (f.len : Int) := by omega
    have HF : Hid (edF f g way = L) := hHd (by rw [← HE.out, Fr.drop_all, Fr.drop_all, edF_nil, List.append_nil])
    clear hi2
    go_wp2
    go_ret
    rw [HF.out]
    exact ⟨_, rfl, HO.out.end_ (Nat.le_add_right _ _), HB.out⟩
theorem redits16_any : ∀ n, REdP n := by
 intro n
 induction n with
 | zero => exact fun f g h => absurd h (Nat.not_lt_zero _)
 | succ n ih => exact redits16_step n ih
end
end Go.Proofs.YtleidkpdpabkpaaGreatDoor
