/- DfvL -/
import Derived.Test.YthdhchhpjoghlaaAM0
import Derived.Test.YthdhchhpjoghlaaAM25
set_option linter.unusedSimpArgs false
set_option linter.unusedVariables false
namespace Go.Proofs.Ythdhchhpjoghlaa
open Go.RowKit
attribute [local go_sem] Oper.semAt_some
theorem told_back {b : Nat} {S : Nat → Prop} {W W1 W2 : World} {v u u' : Value} {M E : List EdD} {l : List Stp} {s : Stp} {r : Ending} (h : StE b S W v M u l) (hp : WayP (b + 6) W u l s u' W1) (k : ToldP b S W1 v M E u' (l ++ [s]) r W2) : ToldP b S W v M E u l r W2 := by
 obtain ⟨h0, v2, S2, h1, h2, h3, h4⟩ := k
 exact ⟨h0, v2, S2, StE.back h hp h1 h2 h3 h4⟩
def KepW (b : Nat) (W w : World) : Prop := (∀ g, g < b → w.heap[g]? = W.heap[g]?) ∧ Blk w (b + 3) 46 #[.func (.func 23) #[] #[.pointer (some ⟨b + 2, 0, none⟩)]] ∧ Blk w (b + 5) 50 #[.func (.func 24) #[] #[.pointer (some ⟨b + 3, 0, none⟩), .pointer (some ⟨b + 4, 0, none⟩)]]
theorem KepW.of {b : Nat} {S S1 : Nat → Prop} {W w : World} {v v1 u u1 : Value} {M M1 : List EdD} {l l1 : List Stp} (h : StE b S1 w v1 M1 u1 l1) (ht : TrK b v u W w) (h0 : StE b S W v M u l) : KepW b W w :=
 ⟨fun g hg => ht.2.2.2.2 g (by have := h0.size; omega) (by omega) (fun e => by have := (h0.vlt g e.symm).1; omega) (fun e => by have := (h0.ult g e.symm).1; omega), h.env.1, h.env.2.2⟩
theorem KepW.below {b : Nat} {W w w' : World} (h : KepW b W w) (hb : Below w.heap.size w w') (hbw : b ≤ w.heap.size) : KepW b W w' :=
 ⟨fun g hg => (hb.block g (by omega)).trans (h.1 g hg), h.2.1.below hb h.2.1.lt, h.2.2.below hb h.2.2.lt⟩
theorem KepW.step {b : Nat} {S : Nat → Prop} {W w w' : World} {v u u' : Value} {M : List EdD} {l : List Stp} {s : Stp} (h : KepW b W w) (h0 : StE b S w v M u l) (hp : WayP (b + 6) w u l s u' w') : KepW b W w' :=
 ⟨fun g hg => (hp.grown.block g (by have := h0.size; omega) (fun e => by have := (h0.ult g e.symm).1; omega)).trans (h.1 g hg), (h0.step hp).env.1, (h0.step hp).env.2.2⟩
def lenV16 : Value → Nat
 | .slice _ n _ => n
 | _ => 0
theorem edK_few (x y : Nd) (w : List Stp) : (edK x y w).length ≤ x.2.size + y.2.size + 2 := by
 unfold edK
 split
 ·simp
 ·split
  ·simp
  ·split
   ·have := ed_len x.2 y.2 w; omega
   ·simp
set_option maxRecDepth 100000 in
set_option maxHeartbeats 40000000 in
theorem beside_step (n : Nat) (ih : BesAt n) : BesAt (n + 1) := by
 intro f g hn b S W v u M l A B c d h hf hg hl hM
 obtain ⟨Au, cu, rfl⟩ := OwnK.shape h.way
 have HST := Lib.hid h
 have HIH := Lib.hid ih
 have HN := Lib.hid hn
 have HL := Lib.hid hl
 have HM := Lib.hid hM
 have H0 := Lib.hid (PrgE.start h)
 have HF0 := Lib.hid hf
 have HG0 := Lib.hid hg
 clear h ih hn hl hM hf hg
 go_enter Try.func30, Try.ntmps30
 go_wp2
 go_loopw [1, 2] (fun va vb wr => ∃ (f' g' : NdF) (A' B' : Option Addr) (c' d' : Nat) (E : List EdD) (v' : Value) (S' : Nat → Prop), va = .slice A' f'.len c' ∧ vb = .slice B' g'.len d' ∧ Hid (E ++ edF f' g' l = edF f g l) ∧ Hid (RowS (fun k => k < b) W (.slice A' f'.len c') f') ∧ Hid (RowS (fun k => k < b) W (.slice B' g'.len d') g') ∧
  Hid (PrgE b S W v M (.slice Au l.length cu) l E wr v' S') ∧ Hid (E.length + (f'.size + g'.size) ≤ f.size + g.size)) (fun va vb _ => lenV16 va + lenV16 vb)
 case atStart => exact ⟨f, g, A, B, c, d, [], v, S, rfl, rfl, Lib.hid rfl, HF0, HG0, H0, Lib.hid (by simp)⟩
 case round =>
  obtain ⟨f', g', A', B', c', d', E, v', S', rfl, rfl, HE, HRF, HRG, HP, HS⟩ := hrel
  have lf : (f'.len : Int) ≤ 1000000 := by have := Fr.len_size f'; have := HS.out; have := HL.out; omega
  have lg : (g'.len : Int) ≤ 1000000 := by have := Fr.len_size g'; have := HS.out; have := HL.out; omega
  have HBW : Hid (b ≤ wr.heap.size) := Lib.hid (by have := HP.out.1.size; omega)
  have HK := Lib.hid (KepW.of HP.out.1 HP.out.2.1 HST.out)
  have CA : Hid (∀ w1, Below wr.heap.size wr w1 → Calls Try.prog 31 #[.slice A' f'.len c', .slice B' g'.len d'] w1 (Ans9 (.bool (ahdX f' g')) w1)) := Lib.hid fun w1 hb => ahead_any f' g' A' B' c' d' w1 (RowS.keep HRF.out (HK.out.below hb HBW.out).1 (fun g hg => Nat.lt_of_lt_of_le hg (Nat.le_trans HBW.out hb.size))) (RowS.keep HRG.out (HK.out.below hb HBW.out).1 (fun g hg => Nat.lt_of_lt_of_le hg (Nat.le_trans HBW.out hb.size)))
  have CB : Hid (∀ w1, Below wr.heap.size wr w1 → Calls Try.prog 31 #[.slice B' g'.len d', .slice A' f'.len c'] w1 (Ans9 (.bool (ahdX g' f')) w1)) := Lib.hid fun w1 hb => ahead_any g' f' B' A' d' c' w1 (RowS.keep HRG.out (HK.out.below hb HBW.out).1 (fun g hg => Nat.lt_of_lt_of_le hg (Nat.le_trans HBW.out hb.size))) (RowS.keep HRF.out (HK.out.below hb HBW.out).1 (fun g hg => Nat.lt_of_lt_of_le hg (Nat.le_trans HBW.out hb.size)))
  have hfirst : ∀ (a : NdD) (k r : NdF) (X : Option Addr) (m cx : Nat), RowS (fun k => k < b) W (.slice X m cx) (.cons a k r) → 0 < m ∧ m ≤ cx ∧ m = r.len + 1 := fun a k r X m cx h => by obtain ⟨_, _, _, _, _, _, h1, h2, _⟩ := RowS.first h; omega
  cases f' with
  | nil =>
   cases g' with
   | nil =>
    have HF : Hid (edF f g l = E) := Lib.hid (by rw [← HE.out, edF_nil, List.append_nil])
    rw [show (Fr.nil : NdF).len = 0 from rfl] at *
    go_wp2
    go_end0
    rw [HF.out]
    exact HP.out.told _
   | cons a2 q s =>
    have HRF' : Hid (RowS (fun k => k < b) W (.slice A' (Fr.nil : NdF).len c') .nil) := HRF
    obtain ⟨gb, ob, B1, d1, rfl, hsb, hnb, hcb, hrb, hclb⟩ := RowS.first HRG.out
    have HKB : Hid (gb < b ∧ ∀ j u, (ndC a2 (.slice B1 q.len d1))[j]? = some u → W.cell? ⟨gb, ob + j, none⟩ = some u) := Lib.hid ⟨hsb, hclb⟩
    have HRB := Lib.hid hrb
    have HTB := Lib.hid (RowS.rest HRG.out)
    obtain ⟨K, hK⟩ : ∃ K, K = (Fr.cons a2 q s).len := ⟨_, rfl⟩
    have HNB : Hid (K = s.len + 1) := Lib.hid (by rw [hK]; exact hnb)
    have b1 : 0 < K := by omega
    have b2 : (0 : Int) < (K : Int) := by omega
    have b3 : K ≤ d' := by omega
    have b4 : ((1 : Int) ≤ (K : Int)) := by omega
    have b5 : 1 ≤ K := by omega
    have HKK : Hid (K = (Fr.cons a2 q s).len) := Lib.hid hK
    rw [← hK] at CA CB HRG HTB lg ⊢
    clear hsb hclb hrb hnb hcb hK
    rw [show (Fr.nil : NdF).len = 0 from rfl] at CA CB lf ⊢
    have HSX : Hid (q.size ≤ 1000000 ∧ l.length + 1 ≤ 1000000) := Lib.hid (by have h1 := HS.out; have h2 := HL.out; simp only [Fr.size] at h1; omega)
    have HE2 : Hid ((E ++ [newE (l ++ [stp a2]) (a2, q)]) ++ edF (Fr.nil) s l = edF f g l) := Lib.hid (by rw [← HE.out, List.append_assoc, edF_new]; rfl)
    have HS2 : Hid ((E ++ [newE (l ++ [stp a2]) (a2, q)]).length + ((Fr.nil : NdF).size + s.size) ≤ f.size + g.size) := Lib.hid (by have := HS.out; rw [List.length_append]; simp only [Fr.size, List.length_cons, List.length_nil] at this ⊢; omega)
    have hah : ahdX (Fr.nil) (.cons a2 q s) = false := rfl
    have hbh : ahdX (.cons a2 q s) (Fr.nil) = true := rfl
    rw [hah] at CA
    rw [hbh] at CB
    clear hah hbh
    go_wp2_with fail
    refine (CA.out _ (Below.refl _ _)).mono ?_
    rintro r9 w2 ⟨rfl, hb⟩
    have HP2 := Lib.hid (HP.out.below hb)
    have HB2 := Lib.hid hb
    clear hb
    go_wp2_with fail
    refine (CB.out _ HB2.out).mono ?_
    rintro r9 w3 ⟨rfl, hb⟩
    have HP3 := Lib.hid (HP2.out.below hb)
    clear hb
    go_wp2_with fail
    have HPD := Lib.hid (HP3.out.below (Below.refl _ _).drew)
    have HKD := Lib.hid (KepW.of HPD.out.1 HPD.out.2.1 HST.out)
    refine wp_region_noPanic ?_
    refine wp_region_held_drew (S := fun _ => True) (by kernel_rfl) trivial (fun hS => ?_)
    refine held_more (S' := fun w' => KepW b W w') (fun _ _ => trivial) _ _ _ _ ?_
    replace hS := HKD.out
    refine tkH 0 hS ?_ (hy := fun w hSw => by have p0 := (hSw.2.1.cell 0).trans rfl; (go_simp <;> with_reducible rfl))
    refine tkH 1 hS ?_
    refine tkH 2 hS ?_
    refine tkH 3 hS ?_
    refine tkH 4 hS ?_ (hy := fun w hSw => by have y0 : w.cell? ⟨gb, ob, none⟩ = _ := (World.cell?_of_block (hSw.1 _ HKB.out.1)).trans (HKB.out.2 0 _ rfl); have y1 : w.cell? ⟨gb, ob + 1, none⟩ = _ := (World.cell?_of_block (hSw.1 _ HKB.out.1)).trans (HKB.out.2 1 _ rfl); have y2 : w.cell? ⟨gb, ob + 2, none⟩ = _ := (World.cell?_of_block (hSw.1 _ HKB.out.1)).trans (HKB.out.2 2 _ rfl); have y3 : w.cell? ⟨gb, ob + 3, none⟩ = _ := (World.cell?_of_block (hSw.1 _ HKB.out.1)).trans (HKB.out.2 3 _ rfl); have y4 : w.cell? ⟨gb, ob + 4, none⟩ = _ := (World.cell?_of_block (hSw.1 _ HKB.out.1)).trans (HKB.out.2 4 _ rfl); have y5 : w.cell? ⟨gb, ob + 5, none⟩ = _ := (World.cell?_of_block (hSw.1 _ HKB.out.1)).trans (HKB.out.2 5 _ rfl); (go_simp <;> with_reducible rfl))
    refine tkH 6 hS ?_
    refine tkH 7 hS ?_
    refine tkH 8 hS ?_ (hy := fun w hSw => by have y0 : w.cell? ⟨gb, ob, none⟩ = _ := (World.cell?_of_block (hSw.1 _ HKB.out.1)).trans (HKB.out.2 0 _ rfl); have y1 : w.cell? ⟨gb, ob + 1, none⟩ = _ := (World.cell?_of_block (hSw.1 _ HKB.out.1)).trans (HKB.out.2 1 _ rfl); have y2 : w.cell? ⟨gb, ob + 2, none⟩ = _ := (World.cell?_of_block (hSw.1 _ HKB.out.1)).trans (HKB.out.2 2 _ rfl); have y3 : w.cell? ⟨gb, ob + 3, none⟩ = _ := (World.cell?_of_block (hSw.1 _ HKB.out.1)).trans (HKB.out.2 3 _ rfl); have y4 : w.cell? ⟨gb, ob + 4, none⟩ = _ := (World.cell?_of_block (hSw.1 _ HKB.out.1)).trans (HKB.out.2 4 _ rfl); have y5 : w.cell? ⟨gb, ob + 5, none⟩ = _ := (World.cell?_of_block (hSw.1 _ HKB.out.1)).trans (HKB.out.2 5 _ rfl); (go_simp <;> with_reducible rfl))
    refine wpAnyH_ready (rs := [5]) (by kernel_rfl) (by simp) ?_
    refine (AllReadyH.cons (o := ?or_0) ?ir_0 (fun K hK => ?str_0) AllReadyH.nil)
    case ir_0 => simp only [layG]; rfl
    rw [if_pos (by rfl)]
    go_simp
    refine (wayto_any (b + 6) l _ a2 _ w3.drew HPD.out.1.way (by have := HL.out; omega) HPD.out.1.size).mono ?_
    rintro r w4 ⟨u4, rfl, hw4⟩
    obtain ⟨Aw, cw, rfl⟩ := hw4.shape
    have HWP := Lib.hid hw4
    have HS4 := Lib.hid (HPD.out.1.step hw4)
    have HK4 := Lib.hid (HKD.out.step HPD.out.1 hw4)
    clear hw4
    go_wp2_with fail
    refine hK.out _ _ ?sr_0 (fun hS => ?_)
    case sr_0 => (exact HK4.out)
    clear hK K
    (try simp only [Act.put, layS])
    refine wpAnyH_ready (rs := [9]) (by kernel_rfl) (by simp) ?_
    refine (AllReadyH.cons (o := ?or_1) ?ir_1 (fun K hK => ?str_1) AllReadyH.nil)
    case ir_1 => simp only [layG]; rfl
    rw [if_pos (by rfl)]
    go_simp
    have hc := created_any (l ++ [stp a2]) (.slice Aw (l.length + 1) cw) (a2, q) B1 d1 w4 (OwnS.way HS4.out.way) (by have := HSX.out.2; simp; omega) (RowS.lie (RowS.keep HRB.out HK4.out.1 (fun g hg => Nat.lt_of_lt_of_le hg (by have := HS4.out.size; omega)))) (by have := HSX.out.1; unfold Few9; omega)
    refine hc.mono ?_
    rintro r w5 ⟨A9, c9, A8, c8, A7, c7, hr, hE, hb⟩
    have hr2 : r = .returned (.agg #[.int .i64 1, .slice A9 (l.length + 1) c9, .string (txt a2.name), .string (txt a2.key), .int .i64 a2.kind, .int .u64 (a2.num : Int), .string (txt a2.text), .slice A8 q.len c8, .string ⟨#[]⟩, .string ⟨#[]⟩, .int .i64 0, .int .u64 0, .string ⟨#[]⟩, .slice A7 0 c7]) := by rw [hr, show l.length + 1 = (l ++ [stp a2]).length by simp]; rfl
    subst hr2
    have HK5 := Lib.hid (HK4.out.below hb (by have := HS4.out.size; omega))
    have hadd := addat_any (newE (l ++ [stp a2]) (a2, q)) A9 A8 A7 c9 c8 c7 (PrgE.start HS4.out) hE hb (by have := HM.out; have := HS.out; rw [List.length_append]; simp; omega)
    have HADD : Hid (Calls Try.prog 23 #[.agg #[.int .i64 1, .slice A9 (l.length + 1) c9, .string (txt a2.name), .string (txt a2.key), .int .i64 a2.kind, .int .u64 (a2.num : Int), .string (txt a2.text), .slice A8 q.len c8, .string ⟨#[]⟩, .string ⟨#[]⟩, .int .i64 0, .int .u64 0, .string ⟨#[]⟩, .slice A7 0 c7], .pointer (some ⟨b + 2, 0, none⟩)] w5 fun r W' => (∃ x, r = .returned x) ∧ ∃ v2 S2, PrgE b S' w4 v' (M ++ E) (.slice Aw (l.length + 1) cw) (l ++ [stp a2]) ([] ++ [newE (l ++ [stp a2]) (a2, q)]) W' v2 S2 ∧ TrK b v' (.slice Aw (l.length + 1) cw) w5 W') := Lib.hid (by have h9 := hadd; rw [show (newE (l ++ [stp a2]) (a2, q)).way.length = l.length + 1 by simp] at h9; exact h9)
    clear hr hE hb hadd hc
    go_wp2_with fail
    refine hK.out _ _ ?sr_1 (fun hS => ?_)
    case sr_1 => (exact HK5.out)
    clear hK K
    (try simp only [Act.put, layS])
    refine wpAnyH_ready (rs := [10]) (by kernel_rfl) (by simp) ?_
    refine (AllReadyH.cons (o := ?or_2) ?ir_2 (fun K hK => ?str_2) AllReadyH.nil)
    case ir_2 => simp only [layG]; rfl
    rw [if_pos (by rfl)]
    go_simp
    refine HADD.out.mono ?_
    rintro r w6 ⟨⟨xr, rfl⟩, v6, S6, hp6, ht6⟩
    obtain ⟨v7, S7, hp7⟩ := HPD.out.call (told_back HPD.out.1 HWP.out (hp6.told xr))
    have HP6 := Lib.hid hp7
    have HK6 := Lib.hid (KepW.of hp7.1 hp7.2.1 HST.out)
    clear hp6 ht6 hp7
    go_wp2_with fail
    refine hK.out _ _ ?sr_2 (fun hS => ?_)
    case sr_2 => (exact HK6.out)
    clear hK K
    (try simp only [Act.put, layS])
    refine wpAnyH_done (by kernel_rfl) ?_ _
    refine NoPanic.normal ?_
    clear hS
    obtain ⟨QB, hQB⟩ : ∃ Q, Q = (if d' = 1 then (some ⟨gb, ob, none⟩ : Option Addr) else some ⟨gb, ob + 6, none⟩) := ⟨_, rfl⟩
    have hqb : (if d' = 1 then (some ⟨gb, ob, none⟩ : Option Addr) else some ⟨gb, ob + 6, none⟩) = QB := hQB.symm
    have HTB2 : Hid (RowS (fun k => k < b) W (.slice QB (K - 1) (d' - 1)) s) := Lib.hid (by rw [hQB]; exact HTB.out)
    clear hQB
    go_wp2
    go_roundw
    case rel => exact ⟨Fr.nil, s, A', QB, c', d' - 1, _, v7, S7, rfl, by rw [HNB.out]; rfl, HE2, HRF', by have h9 := HTB2.out; rw [HNB.out] at h9; exact Lib.hid h9, HP6, HS2⟩
    case measure => simp [lenV16]; omega
  | cons a k r =>
   have HRF' : Hid (RowS (fun k => k < b) W (.slice A' (Fr.cons a k r).len c') (.cons a k r)) := HRF
   obtain ⟨ga, oa, A1, c1, rfl, hsa, hna, hca, hra, hcla⟩ := RowS.first HRF.out
   have HKA : Hid (ga < b ∧ ∀ j u, (ndC a (.slice A1 k.len c1))[j]? = some u → W.cell? ⟨ga, oa + j, none⟩ = some u) := Lib.hid ⟨hsa, hcla⟩
   have HRA := Lib.hid hra
   have HTA := Lib.hid (RowS.rest HRF.out)
   obtain ⟨N, hN⟩ : ∃ N, N = (Fr.cons a k r).len := ⟨_, rfl⟩
   have HNA : Hid (N = r.len + 1) := Lib.hid (by rw [hN]; exact hna)
   have a1 : 0 < N := by omega
   have a2 : (0 : Int) < (N : Int) := by omega
   have a3 : N ≤ c' := by omega
   have a4 : ((1 : Int) ≤ (N : Int)) := by omega
   have a5 : 1 ≤ N := by omega
   have HNN : Hid (N = (Fr.cons a k r).len) := Lib.hid hN
   rw [← hN] at CA CB HRF HTA lf ⊢
   clear hsa hcla hra hna hca hN
   cases g' with
   | nil =>
    have HRG' : Hid (RowS (fun k => k < b) W (.slice B' (Fr.nil : NdF).len d') .nil) := HRG
    have HSX : Hid (k.size ≤ 1000000 ∧ l.length + 1 ≤ 1000000) := Lib.hid (by have h1 := HS.out; have h2 := HL.out; simp only [Fr.size] at h1; omega)
    have HE2 : Hid ((E ++ [delE (l ++ [stp a]) (a, k)]) ++ edF r Fr.nil l = edF f g l) := Lib.hid (by rw [← HE.out, List.append_assoc, edF_del]; rfl)
    have HS2 : Hid ((E ++ [delE (l ++ [stp a]) (a, k)]).length + (r.size + (Fr.nil : NdF).size) ≤ f.size + g.size) := Lib.hid (by have := HS.out; rw [List.length_append]; simp only [Fr.size, List.length_cons, List.length_nil] at this ⊢; omega)
    have hah : ahdX (.cons a k r) (.nil : NdF) = true := rfl
    rw [hah] at CA
    clear hah
    go_wp2_with fail
    refine (CA.out _ (Below.refl _ _)).mono ?_
    rintro r9 w2 ⟨rfl, hb⟩
    have HP2 := Lib.hid (HP.out.below hb)
    clear hb
    go_wp2_with fail
    have HPD := Lib.hid (HP2.out.below (Below.refl _ _).drew)
    have HKD := Lib.hid (KepW.of HPD.out.1 HPD.out.2.1 HST.out)
    refine wp_region_noPanic ?_
    refine wp_region_held_drew (S := fun _ => True) (by kernel_rfl) trivial (fun hS => ?_)
    refine held_more (S' := fun w' => KepW b W w') (fun _ _ => trivial) _ _ _ _ ?_
    replace hS := HKD.out
    refine tkH 0 hS ?_ (hy := fun w hSw => by have p0 := (hSw.2.1.cell 0).trans rfl; (go_simp <;> with_reducible rfl))
    refine tkH 1 hS ?_
    refine tkH 2 hS ?_
    refine tkH 3 hS ?_
    refine tkH 4 hS ?_ (hy := fun w hSw => by have x0 : w.cell? ⟨ga, oa, none⟩ = _ := (World.cell?_of_block (hSw.1 _ HKA.out.1)).trans (HKA.out.2 0 _ rfl); have x1 : w.cell? ⟨ga, oa + 1, none⟩ = _ := (World.cell?_of_block (hSw.1 _ HKA.out.1)).trans (HKA.out.2 1 _ rfl); have x2 : w.cell? ⟨ga, oa + 2, none⟩ = _ := (World.cell?_of_block (hSw.1 _ HKA.out.1)).trans (HKA.out.2 2 _ rfl); have x3 : w.cell? ⟨ga, oa + 3, none⟩ = _ := (World.cell?_of_block (hSw.1 _ HKA.out.1)).trans (HKA.out.2 3 _ rfl); have x4 : w.cell? ⟨ga, oa + 4, none⟩ = _ := (World.cell?_of_block (hSw.1 _ HKA.out.1)).trans (HKA.out.2 4 _ rfl); have x5 : w.cell? ⟨ga, oa + 5, none⟩ = _ := (World.cell?_of_block (hSw.1 _ HKA.out.1)).trans (HKA.out.2 5 _ rfl); (go_simp <;> with_reducible rfl))
    refine tkH 6 hS ?_
    refine tkH 7 hS ?_
    refine tkH 8 hS ?_ (hy := fun w hSw => by have x0 : w.cell? ⟨ga, oa, none⟩ = _ := (World.cell?_of_block (hSw.1 _ HKA.out.1)).trans (HKA.out.2 0 _ rfl); have x1 : w.cell? ⟨ga, oa + 1, none⟩ = _ := (World.cell?_of_block (hSw.1 _ HKA.out.1)).trans (HKA.out.2 1 _ rfl); have x2 : w.cell? ⟨ga, oa + 2, none⟩ = _ := (World.cell?_of_block (hSw.1 _ HKA.out.1)).trans (HKA.out.2 2 _ rfl); have x3 : w.cell? ⟨ga, oa + 3, none⟩ = _ := (World.cell?_of_block (hSw.1 _ HKA.out.1)).trans (HKA.out.2 3 _ rfl); have x4 : w.cell? ⟨ga, oa + 4, none⟩ = _ := (World.cell?_of_block (hSw.1 _ HKA.out.1)).trans (HKA.out.2 4 _ rfl); have x5 : w.cell? ⟨ga, oa + 5, none⟩ = _ := (World.cell?_of_block (hSw.1 _ HKA.out.1)).trans (HKA.out.2 5 _ rfl); (go_simp <;> with_reducible rfl))
    refine wpAnyH_ready (rs := [5]) (by kernel_rfl) (by simp) ?_
    refine (AllReadyH.cons (o := ?or_3) ?ir_3 (fun K hK => ?str_3) AllReadyH.nil)
    case ir_3 => simp only [layG]; rfl
    rw [if_pos (by rfl)]
    go_simp
    refine (wayto_any (b + 6) l _ a _ w2.drew HPD.out.1.way (by have := HL.out; omega) HPD.out.1.size).mono ?_
    rintro r w4 ⟨u4, rfl, hw4⟩
    obtain ⟨Aw, cw, rfl⟩ := hw4.shape
    have HWP := Lib.hid hw4
    have HS4 := Lib.hid (HPD.out.1.step hw4)
    have HK4 := Lib.hid (HKD.out.step HPD.out.1 hw4)
    clear hw4
    go_wp2_with fail
    refine hK.out _ _ ?sr_3 (fun hS => ?_)
    case sr_3 => (exact HK4.out)
    clear hK K
    (try simp only [Act.put, layS])
    refine wpAnyH_ready (rs := [9]) (by kernel_rfl) (by simp) ?_
    refine (AllReadyH.cons (o := ?or_4) ?ir_4 (fun K hK => ?str_4) AllReadyH.nil)
    case ir_4 => simp only [layG]; rfl
    rw [if_pos (by rfl)]
    go_simp
    have hc := deleted_any (l ++ [stp a]) (.slice Aw (l.length + 1) cw) (a, k) A1 c1 w4 (OwnS.way HS4.out.way) (by have := HSX.out.2; simp; omega) (RowS.lie (RowS.keep HRA.out HK4.out.1 (fun g hg => Nat.lt_of_lt_of_le hg (by have := HS4.out.size; omega)))) (by have := HSX.out.1; unfold Few9; omega)
    refine hc.mono ?_
    rintro r w5 ⟨A9, c9, A8, c8, A7, c7, hr, hE, hb⟩
    have hr2 : r = .returned (.agg #[.int .i64 2, .slice A9 (l.length + 1) c9, .string ⟨#[]⟩, .string ⟨#[]⟩, .int .i64 0, .int .u64 0, .string ⟨#[]⟩, .slice A8 0 c8, .string (txt a.name), .string (txt a.key), .int .i64 a.kind, .int .u64 (a.num : Int), .string (txt a.text), .slice A7 k.len c7]) := by rw [hr, show l.length + 1 = (l ++ [stp a]).length by simp]; rfl
    subst hr2
    have HK5 := Lib.hid (HK4.out.below hb (by have := HS4.out.size; omega))
    have hadd := addat_any (delE (l ++ [stp a]) (a, k)) A9 A8 A7 c9 c8 c7 (PrgE.start HS4.out) hE hb (by have := HM.out; have := HS.out; rw [List.length_append]; simp; omega)
    have HADD : Hid (Calls Try.prog 23 #[.agg #[.int .i64 2, .slice A9 (l.length + 1) c9, .string ⟨#[]⟩, .string ⟨#[]⟩, .int .i64 0, .int .u64 0, .string ⟨#[]⟩, .slice A8 0 c8, .string (txt a.name), .string (txt a.key), .int .i64 a.kind, .int .u64 (a.num : Int), .string (txt a.text), .slice A7 k.len c7], .pointer (some ⟨b + 2, 0, none⟩)] w5 fun r W' => (∃ x, r = .returned x) ∧ ∃ v2 S2, PrgE b S' w4 v' (M ++ E) (.slice Aw (l.length + 1) cw) (l ++ [stp a]) ([] ++ [delE (l ++ [stp a]) (a, k)]) W' v2 S2 ∧ TrK b v' (.slice Aw (l.length + 1) cw) w5 W') := Lib.hid (by have h9 := hadd; rw [show (delE (l ++ [stp a]) (a, k)).way.length = l.length + 1 by simp] at h9; exact h9)
    clear hr hE hb hadd hc
    go_wp2_with fail
    refine hK.out _ _ ?sr_4 (fun hS => ?_)
    case sr_4 => (exact HK5.out)
    clear hK K
    (try simp only [Act.put, layS])
    refine wpAnyH_ready (rs := [10]) (by kernel_rfl) (by simp) ?_
    refine (AllReadyH.cons (o := ?or_5) ?ir_5 (fun K hK => ?str_5) AllReadyH.nil)
    case ir_5 => simp only [layG]; rfl
    rw [if_pos (by rfl)]
    go_simp
    refine HADD.out.mono ?_
    rintro r w6 ⟨⟨xr, rfl⟩, v6, S6, hp6, ht6⟩
    obtain ⟨v7, S7, hp7⟩ := HPD.out.call (told_back HPD.out.1 HWP.out (hp6.told xr))
    have HP6 := Lib.hid hp7
    have HK6 := Lib.hid (KepW.of hp7.1 hp7.2.1 HST.out)
    clear hp6 ht6 hp7
    go_wp2_with fail
    refine hK.out _ _ ?sr_5 (fun hS => ?_)
    case sr_5 => (exact HK6.out)
    clear hK K
    (try simp only [Act.put, layS])
    refine wpAnyH_done (by kernel_rfl) ?_ _
    refine NoPanic.normal ?_
    clear hS
    obtain ⟨QA, hQA⟩ : ∃ Q, Q = (if c' = 1 then (some ⟨ga, oa, none⟩ : Option Addr) else some ⟨ga, oa + 6, none⟩) := ⟨_, rfl⟩
    have hqa : (if c' = 1 then (some ⟨ga, oa, none⟩ : Option Addr) else some ⟨ga, oa + 6, none⟩) = QA := hQA.symm
    have HTA2 : Hid (RowS (fun k => k < b) W (.slice QA (N - 1) (c' - 1)) r) := Lib.hid (by rw [hQA]; exact HTA.out)
    clear hQA
    go_wp2
    go_roundw
    case rel => exact ⟨r, Fr.nil, QA, B', c' - 1, d', _, v7, S7, by rw [HNA.out]; rfl, rfl, HE2, by have h9 := HTA2.out; rw [HNA.out] at h9; exact Lib.hid h9, HRG', HP6, HS2⟩
    case measure => simp [lenV16]; omega
   | cons a2 q s =>
    have HRG' : Hid (RowS (fun k => k < b) W (.slice B' (Fr.cons a2 q s).len d') (.cons a2 q s)) := HRG
    obtain ⟨gb, ob, B1, d1, rfl, hsb, hnb, hcb, hrb, hclb⟩ := RowS.first HRG.out
    have HKB : Hid (gb < b ∧ ∀ j u, (ndC a2 (.slice B1 q.len d1))[j]? = some u → W.cell? ⟨gb, ob + j, none⟩ = some u) := Lib.hid ⟨hsb, hclb⟩
    have HRB := Lib.hid hrb
    have HTB := Lib.hid (RowS.rest HRG.out)
    obtain ⟨K, hK⟩ : ∃ K, K = (Fr.cons a2 q s).len := ⟨_, rfl⟩
    have HNB : Hid (K = s.len + 1) := Lib.hid (by rw [hK]; exact hnb)
    have b1 : 0 < K := by omega
    have b2 : (0 : Int) < (K : Int) := by omega
    have b3 : K ≤ d' := by omega
    have b4 : ((1 : Int) ≤ (K : Int)) := by omega
    have b5 : 1 ≤ K := by omega
    have HKK : Hid (K = (Fr.cons a2 q s).len) := Lib.hid hK
    rw [← hK] at CA CB HRG HTB lg ⊢
    clear hsb hclb hrb hnb hcb hK
    cases hab : lessX a a2 with
    | true =>
     have HSX : Hid (k.size ≤ 1000000 ∧ l.length + 1 ≤ 1000000) := Lib.hid (by have h1 := HS.out; have h2 := HL.out; simp only [Fr.size] at h1; omega)
     have HE2 : Hid ((E ++ [delE (l ++ [stp a]) (a, k)]) ++ edF r (.cons a2 q s) l = edF f g l) := Lib.hid (by rw [← HE.out, List.append_assoc, edF_lt hab]; rfl)
     have HS2 : Hid ((E ++ [delE (l ++ [stp a]) (a, k)]).length + (r.size + (Fr.cons a2 q s : NdF).size) ≤ f.size + g.size) := Lib.hid (by have := HS.out; rw [List.length_append]; simp only [Fr.size, List.length_cons, List.length_nil] at this ⊢; omega)
     have hah : ahdX (.cons a k r) (.cons a2 q s) = true := hab
     rw [hah] at CA
     clear hah hab
     go_wp2_with fail
     refine (CA.out _ (Below.refl _ _)).mono ?_
     rintro r9 w2 ⟨rfl, hb⟩
     have HP2 := Lib.hid (HP.out.below hb)
     clear hb
     go_wp2_with fail
     have HPD := Lib.hid (HP2.out.below (Below.refl _ _).drew)
     have HKD := Lib.hid (KepW.of HPD.out.1 HPD.out.2.1 HST.out)
     refine wp_region_noPanic ?_
     refine wp_region_held_drew (S := fun _ => True) (by kernel_rfl) trivial (fun hS => ?_)
     refine held_more (S' := fun w' => KepW b W w') (fun _ _ => trivial) _ _ _ _ ?_
     replace hS := HKD.out
     refine tkH 0 hS ?_ (hy := fun w hSw => by have p0 := (hSw.2.1.cell 0).trans rfl; (go_simp <;> with_reducible rfl))
     refine tkH 1 hS ?_
     refine tkH 2 hS ?_
     refine tkH 3 hS ?_
     refine tkH 4 hS ?_ (hy := fun w hSw => by have x0 : w.cell? ⟨ga, oa, none⟩ = _ := (World.cell?_of_block (hSw.1 _ HKA.out.1)).trans (HKA.out.2 0 _ rfl); have x1 : w.cell? ⟨ga, oa + 1, none⟩ = _ := (World.cell?_of_block (hSw.1 _ HKA.out.1)).trans (HKA.out.2 1 _ rfl); have x2 : w.cell? ⟨ga, oa + 2, none⟩ = _ := (World.cell?_of_block (hSw.1 _ HKA.out.1)).trans (HKA.out.2 2 _ rfl); have x3 : w.cell? ⟨ga, oa + 3, none⟩ = _ := (World.cell?_of_block (hSw.1 _ HKA.out.1)).trans (HKA.out.2 3 _ rfl); have x4 : w.cell? ⟨ga, oa + 4, none⟩ = _ := (World.cell?_of_block (hSw.1 _ HKA.out.1)).trans (HKA.out.2 4 _ rfl); have x5 : w.cell? ⟨ga, oa + 5, none⟩ = _ := (World.cell?_of_block (hSw.1 _ HKA.out.1)).trans (HKA.out.2 5 _ rfl); (go_simp <;> with_reducible rfl))
     refine tkH 6 hS ?_
     refine tkH 7 hS ?_
     refine tkH 8 hS ?_ (hy := fun w hSw => by have x0 : w.cell? ⟨ga, oa, none⟩ = _ := (World.cell?_of_block (hSw.1 _ HKA.out.1)).trans (HKA.out.2 0 _ rfl); have x1 : w.cell? ⟨ga, oa + 1, none⟩ = _ := (World.cell?_of_block (hSw.1 _ HKA.out.1)).trans (HKA.out.2 1 _ rfl); have x2 : w.cell? ⟨ga, oa + 2, none⟩ = _ := (World.cell?_of_block (hSw.1 _ HKA.out.1)).trans (HKA.out.2 2 _ rfl); have x3 : w.cell? ⟨ga, oa + 3, none⟩ = _ := (World.cell?_of_block (hSw.1 _ HKA.out.1)).trans (HKA.out.2 3 _ rfl); have x4 : w.cell? ⟨ga, oa + 4, none⟩ = _ := (World.cell?_of_block (hSw.1 _ HKA.out.1)).trans (HKA.out.2 4 _ rfl); have x5 : w.cell? ⟨ga, oa + 5, none⟩ = _ := (World.cell?_of_block (hSw.1 _ HKA.out.1)).trans (HKA.out.2 5 _ rfl); (go_simp <;> with_reducible rfl))
     refine wpAnyH_ready (rs := [5]) (by kernel_rfl) (by simp) ?_
     refine (AllReadyH.cons (o := ?or_6) ?ir_6 (fun K hK => ?str_6) AllReadyH.nil)
     case ir_6 => simp only [layG]; rfl
     rw [if_pos (by rfl)]
     go_simp
     refine (wayto_any (b + 6) l _ a _ w2.drew HPD.out.1.way (by have := HL.out; omega) HPD.out.1.size).mono ?_
     rintro r w4 ⟨u4, rfl, hw4⟩
     obtain ⟨Aw, cw, rfl⟩ := hw4.shape
     have HWP := Lib.hid hw4
     have HS4 := Lib.hid (HPD.out.1.step hw4)
     have HK4 := Lib.hid (HKD.out.step HPD.out.1 hw4)
     clear hw4
     go_wp2_with fail
     refine hK.out _ _ ?sr_6 (fun hS => ?_)
     case sr_6 => (exact HK4.out)
     clear hK K
     (try simp only [Act.put, layS])
     refine wpAnyH_ready (rs := [9]) (by kernel_rfl) (by simp) ?_
     refine (AllReadyH.cons (o := ?or_7) ?ir_7 (fun K hK => ?str_7) AllReadyH.nil)
     case ir_7 => simp only [layG]; rfl
     rw [if_pos (by rfl)]
     go_simp
     have hc := deleted_any (l ++ [stp a]) (.slice Aw (l.length + 1) cw) (a, k) A1 c1 w4 (OwnS.way HS4.out.way) (by have := HSX.out.2; simp; omega) (RowS.lie (RowS.keep HRA.out HK4.out.1 (fun g hg => Nat.lt_of_lt_of_le hg (by have := HS4.out.size; omega)))) (by have := HSX.out.1; unfold Few9; omega)
     refine hc.mono ?_
     rintro r w5 ⟨A9, c9, A8, c8, A7, c7, hr, hE, hb⟩
     have hr2 : r = .returned (.agg #[.int .i64 2, .slice A9 (l.length + 1) c9, .string ⟨#[]⟩, .string ⟨#[]⟩, .int .i64 0, .int .u64 0, .string ⟨#[]⟩, .slice A8 0 c8, .string (txt a.name), .string (txt a.key), .int .i64 a.kind, .int .u64 (a.num : Int), .string (txt a.text), .slice A7 k.len c7]) := by rw [hr, show l.length + 1 = (l ++ [stp a]).length by simp]; rfl
     subst hr2
     have HK5 := Lib.hid (HK4.out.below hb (by have := HS4.out.size; omega))
     have hadd := addat_any (delE (l ++ [stp a]) (a, k)) A9 A8 A7 c9 c8 c7 (PrgE.start HS4.out) hE hb (by have := HM.out; have := HS.out; rw [List.length_append]; simp; omega)
     have HADD : Hid (Calls Try.prog 23 #[.agg #[.int .i64 2, .slice A9 (l.length + 1) c9, .string ⟨#[]⟩, .string ⟨#[]⟩, .int .i64 0, .int .u64 0, .string ⟨#[]⟩, .slice A8 0 c8, .string (txt a.name), .string (txt a.key), .int .i64 a.kind, .int .u64 (a.num : Int), .string (txt a.text), .slice A7 k.len c7], .pointer (some ⟨b + 2, 0, none⟩)] w5 fun r W' => (∃ x, r = .returned x) ∧ ∃ v2 S2, PrgE b S' w4 v' (M ++ E) (.slice Aw (l.length + 1) cw) (l ++ [stp a]) ([] ++ [delE (l ++ [stp a]) (a, k)]) W' v2 S2 ∧ TrK b v' (.slice Aw (l.length + 1) cw) w5 W') := Lib.hid (by have h9 := hadd; rw [show (delE (l ++ [stp a]) (a, k)).way.length = l.length + 1 by simp] at h9; exact h9)
     clear hr hE hb hadd hc
     go_wp2_with fail
     refine hK.out _ _ ?sr_7 (fun hS => ?_)
     case sr_7 => (exact HK5.out)
     clear hK K
     (try simp only [Act.put, layS])
     refine wpAnyH_ready (rs := [10]) (by kernel_rfl) (by simp) ?_
     refine (AllReadyH.cons (o := ?or_8) ?ir_8 (fun K hK => ?str_8) AllReadyH.nil)
     case ir_8 => simp only [layG]; rfl
     rw [if_pos (by rfl)]
     go_simp
     refine HADD.out.mono ?_
     rintro r w6 ⟨⟨xr, rfl⟩, v6, S6, hp6, ht6⟩
     obtain ⟨v7, S7, hp7⟩ := HPD.out.call (told_back HPD.out.1 HWP.out (hp6.told xr))
     have HP6 := Lib.hid hp7
     have HK6 := Lib.hid (KepW.of hp7.1 hp7.2.1 HST.out)
     clear hp6 ht6 hp7
     go_wp2_with fail
     refine hK.out _ _ ?sr_8 (fun hS => ?_)
     case sr_8 => (exact HK6.out)
     clear hK K
     (try simp only [Act.put, layS])
     refine wpAnyH_done (by kernel_rfl) ?_ _
     refine NoPanic.normal ?_
     clear hS
     obtain ⟨QA, hQA⟩ : ∃ Q, Q = (if c' = 1 then (some ⟨ga, oa, none⟩ : Option Addr) else some ⟨ga, oa + 6, none⟩) := ⟨_, rfl⟩
     have hqa : (if c' = 1 then (some ⟨ga, oa, none⟩ : Option Addr) else some ⟨ga, oa + 6, none⟩) = QA := hQA.symm
     have HTA2 : Hid (RowS (fun k => k < b) W (.slice QA (N - 1) (c' - 1)) r) := Lib.hid (by rw [hQA]; exact HTA.out)
     clear hQA
     go_wp2
     go_roundw
     case rel => exact ⟨r, Fr.cons a2 q s, QA, (some ⟨gb, ob, none⟩), c' - 1, d', _, v7, S7, by rw [HNA.out]; rfl, by rw [HKK.out], HE2, by have h9 := HTA2.out; rw [HNA.out] at h9; exact Lib.hid h9, HRG', HP6, HS2⟩
     case measure => simp [lenV16]; omega
    | false =>
     cases hba : lessX a2 a with
     | true =>
      have HSX : Hid (q.size ≤ 1000000 ∧ l.length + 1 ≤ 1000000) := Lib.hid (by have h1 := HS.out; have h2 := HL.out; simp only [Fr.size] at h1; omega)
      have HE2 : Hid ((E ++ [newE (l ++ [stp a2]) (a2, q)]) ++ edF (Fr.cons a k r) s l = edF f g l) := Lib.hid (by rw [← HE.out, List.append_assoc, edF_gt hab hba]; rfl)
      have HS2 : Hid ((E ++ [newE (l ++ [stp a2]) (a2, q)]).length + ((Fr.cons a k r : NdF).size + s.size) ≤ f.size + g.size) := Lib.hid (by have := HS.out; rw [List.length_append]; simp only [Fr.size, List.length_cons, List.length_nil] at this ⊢; omega)
      have hah : ahdX (Fr.cons a k r) (.cons a2 q s) = false := hab
      have hbh : ahdX (.cons a2 q s) (Fr.cons a k r) = true := hba
      rw [hah] at CA
      rw [hbh] at CB
      clear hah hbh hab hba
      go_wp2_with fail
      refine (CA.out _ (Below.refl _ _)).mono ?_
      rintro r9 w2 ⟨rfl, hb⟩
      have HP2 := Lib.hid (HP.out.below hb)
      have HB2 := Lib.hid hb
      clear hb
      go_wp2_with fail
      refine (CB.out _ HB2.out).mono ?_
      rintro r9 w3 ⟨rfl, hb⟩
      have HP3 := Lib.hid (HP2.out.below hb)
      clear hb
      go_wp2_with fail
      have HPD := Lib.hid (HP3.out.below (Below.refl _ _).drew)
      have HKD := Lib.hid (KepW.of HPD.out.1 HPD.out.2.1 HST.out)
      refine wp_region_noPanic ?_
      refine wp_region_held_drew (S := fun _ => True) (by kernel_rfl) trivial (fun hS => ?_)
      refine held_more (S' := fun w' => KepW b W w') (fun _ _ => trivial) _ _ _ _ ?_
      replace hS := HKD.out
      refine tkH 0 hS ?_ (hy := fun w hSw => by have p0 := (hSw.2.1.cell 0).trans rfl; (go_simp <;> with_reducible rfl))
      refine tkH 1 hS ?_
      refine tkH 2 hS ?_
      refine tkH 3 hS ?_
      refine tkH 4 hS ?_ (hy := fun w hSw => by have y0 : w.cell? ⟨gb, ob, none⟩ = _ := (World.cell?_of_block (hSw.1 _ HKB.out.1)).trans (HKB.out.2 0 _ rfl); have y1 : w.cell? ⟨gb, ob + 1, none⟩ = _ := (World.cell?_of_block (hSw.1 _ HKB.out.1)).trans (HKB.out.2 1 _ rfl); have y2 : w.cell? ⟨gb, ob + 2, none⟩ = _ := (World.cell?_of_block (hSw.1 _ HKB.out.1)).trans (HKB.out.2 2 _ rfl); have y3 : w.cell? ⟨gb, ob + 3, none⟩ = _ := (World.cell?_of_block (hSw.1 _ HKB.out.1)).trans (HKB.out.2 3 _ rfl); have y4 : w.cell? ⟨gb, ob + 4, none⟩ = _ := (World.cell?_of_block (hSw.1 _ HKB.out.1)).trans (HKB.out.2 4 _ rfl); have y5 : w.cell? ⟨gb, ob + 5, none⟩ = _ := (World.cell?_of_block (hSw.1 _ HKB.out.1)).trans (HKB.out.2 5 _ rfl); (go_simp <;> with_reducible rfl))
      refine tkH 6 hS ?_
      refine tkH 7 hS ?_
      refine tkH 8 hS ?_ (hy := fun w hSw => by have y0 : w.cell? ⟨gb, ob, none⟩ = _ := (World.cell?_of_block (hSw.1 _ HKB.out.1)).trans (HKB.out.2 0 _ rfl); have y1 : w.cell? ⟨gb, ob + 1, none⟩ = _ := (World.cell?_of_block (hSw.1 _ HKB.out.1)).trans (HKB.out.2 1 _ rfl); have y2 : w.cell? ⟨gb, ob + 2, none⟩ = _ := (World.cell?_of_block (hSw.1 _ HKB.out.1)).trans (HKB.out.2 2 _ rfl); have y3 : w.cell? ⟨gb, ob + 3, none⟩ = _ := (World.cell?_of_block (hSw.1 _ HKB.out.1)).trans (HKB.out.2 3 _ rfl); have y4 : w.cell? ⟨gb, ob + 4, none⟩ = _ := (World.cell?_of_block (hSw.1 _ HKB.out.1)).trans (HKB.out.2 4 _ rfl); have y5 : w.cell? ⟨gb, ob + 5, none⟩ = _ := (World.cell?_of_block (hSw.1 _ HKB.out.1)).trans (HKB.out.2 5 _ rfl); (go_simp <;> with_reducible rfl))
      refine wpAnyH_ready (rs := [5]) (by kernel_rfl) (by simp) ?_
      refine (AllReadyH.cons (o := ?or_9) ?ir_9 (fun K hK => ?str_9) AllReadyH.nil)
      case ir_9 => simp only [layG]; rfl
      rw [if_pos (by rfl)]
      go_simp
      refine (wayto_any (b + 6) l _ a2 _ w3.drew HPD.out.1.way (by have := HL.out; omega) HPD.out.1.size).mono ?_
      rintro r w4 ⟨u4, rfl, hw4⟩
      obtain ⟨Aw, cw, rfl⟩ := hw4.shape
      have HWP := Lib.hid hw4
      have HS4 := Lib.hid (HPD.out.1.step hw4)
      have HK4 := Lib.hid (HKD.out.step HPD.out.1 hw4)
      clear hw4
      go_wp2_with fail
      refine hK.out _ _ ?sr_9 (fun hS => ?_)
      case sr_9 => (exact HK4.out)
      clear hK K
      (try simp only [Act.put, layS])
      refine wpAnyH_ready (rs := [9]) (by kernel_rfl) (by simp) ?_
      refine (AllReadyH.cons (o := ?or_a) ?ir_a (fun K hK => ?str_a) AllReadyH.nil)
      case ir_a => simp only [layG]; rfl
      rw [if_pos (by rfl)]
      go_simp
      have hc := created_any (l ++ [stp a2]) (.slice Aw (l.length + 1) cw) (a2, q) B1 d1 w4 (OwnS.way HS4.out.way) (by have := HSX.out.2; simp; omega) (RowS.lie (RowS.keep HRB.out HK4.out.1 (fun g hg => Nat.lt_of_lt_of_le hg (by have := HS4.out.size; omega)))) (by have := HSX.out.1; unfold Few9; omega)
      refine hc.mono ?_
      rintro r w5 ⟨A9, c9, A8, c8, A7, c7, hr, hE, hb⟩
      have hr2 : r = .returned (.agg #[.int .i64 1, .slice A9 (l.length + 1) c9, .string (txt a2.name), .string (txt a2.key), .int .i64 a2.kind, .int .u64 (a2.num : Int), .string (txt a2.text), .slice A8 q.len c8, .string ⟨#[]⟩, .string ⟨#[]⟩, .int .i64 0, .int .u64 0, .string ⟨#[]⟩, .slice A7 0 c7]) := by rw [hr, show l.length + 1 = (l ++ [stp a2]).length by simp]; rfl
      subst hr2
      have HK5 := Lib.hid (HK4.out.below hb (by have := HS4.out.size; omega))
      have hadd := addat_any (newE (l ++ [stp a2]) (a2, q)) A9 A8 A7 c9 c8 c7 (PrgE.start HS4.out) hE hb (by have := HM.out; have := HS.out; rw [List.length_append]; simp; omega)
      have HADD : Hid (Calls Try.prog 23 #[.agg #[.int .i64 1, .slice A9 (l.length + 1) c9, .string (txt a2.name), .string (txt a2.key), .int .i64 a2.kind, .int .u64 (a2.num : Int), .string (txt a2.text), .slice A8 q.len c8, .string ⟨#[]⟩, .string ⟨#[]⟩, .int .i64 0, .int .u64 0, .string ⟨#[]⟩, .slice A7 0 c7], .pointer (some ⟨b + 2, 0, none⟩)] w5 fun r W' => (∃ x, r = .returned x) ∧ ∃ v2 S2, PrgE b S' w4 v' (M ++ E) (.slice Aw (l.length + 1) cw) (l ++ [stp a2]) ([] ++ [newE (l ++ [stp a2]) (a2, q)]) W' v2 S2 ∧ TrK b v' (.slice Aw (l.length + 1) cw) w5 W') := Lib.hid (by have h9 := hadd; rw [show (newE (l ++ [stp a2]) (a2, q)).way.length = l.length + 1 by simp] at h9; exact h9)
      clear hr hE hb hadd hc
      go_wp2_with fail
      refine hK.out _ _ ?sr_a (fun hS => ?_)
      case sr_a => (exact HK5.out)
      clear hK K
      (try simp only [Act.put, layS])
      refine wpAnyH_ready (rs := [10]) (by kernel_rfl) (by simp) ?_
      refine (AllReadyH.cons (o := ?or_b) ?ir_b (fun K hK => ?str_b) AllReadyH.nil)
      case ir_b => simp only [layG]; rfl
      rw [if_pos (by rfl)]
      go_simp
      refine HADD.out.mono ?_
      rintro r w6 ⟨⟨xr, rfl⟩, v6, S6, hp6, ht6⟩
      obtain ⟨v7, S7, hp7⟩ := HPD.out.call (told_back HPD.out.1 HWP.out (hp6.told xr))
      have HP6 := Lib.hid hp7
      have HK6 := Lib.hid (KepW.of hp7.1 hp7.2.1 HST.out)
      clear hp6 ht6 hp7
      go_wp2_with fail
      refine hK.out _ _ ?sr_b (fun hS => ?_)
      case sr_b => (exact HK6.out)
      clear hK K
      (try simp only [Act.put, layS])
      refine wpAnyH_done (by kernel_rfl) ?_ _
      refine NoPanic.normal ?_
      clear hS
      obtain ⟨QB, hQB⟩ : ∃ Q, Q = (if d' = 1 then (some ⟨gb, ob, none⟩ : Option Addr) else some ⟨gb, ob + 6, none⟩) := ⟨_, rfl⟩
      have hqb : (if d' = 1 then (some ⟨gb, ob, none⟩ : Option Addr) else some ⟨gb, ob + 6, none⟩) = QB := hQB.symm
      have HTB2 : Hid (RowS (fun k => k < b) W (.slice QB (K - 1) (d' - 1)) s) := Lib.hid (by rw [hQB]; exact HTB.out)
      clear hQB
      go_wp2
      go_roundw
      case rel => exact ⟨Fr.cons a k r, s, (some ⟨ga, oa, none⟩), QB, c', d' - 1, _, v7, S7, by rw [HNN.out], by rw [HNB.out]; rfl, HE2, HRF', by have h9 := HTB2.out; rw [HNB.out] at h9; exact Lib.hid h9, HP6, HS2⟩
      case measure => simp [lenV16]; omega
     | false =>
      have HSX : Hid (k.size + q.size < n ∧ l.length + 1 + (k.size + q.size) ≤ 1000000 ∧ (M ++ E).length + (k.size + q.size + 2) ≤ 90000000) := Lib.hid (by have h1 := HS.out; have h2 := HL.out; have h3 := HN.out; have h4 := HM.out; rw [List.length_append]; simp only [Fr.size] at h1; omega)
      have HE2 : Hid ((E ++ edK (a, k) (a2, q) (l ++ [stp a])) ++ edF r s l = edF f g l) := Lib.hid (by rw [← HE.out, List.append_assoc, edF_eq hab hba])
      have HS2 : Hid ((E ++ edK (a, k) (a2, q) (l ++ [stp a])).length + (r.size + s.size) ≤ f.size + g.size) := Lib.hid (by have h1 := HS.out; have h2 := edK_few (a, k) (a2, q) (l ++ [stp a]); rw [List.length_append]; simp only [Fr.size] at h1 h2 ⊢; omega)
      have hah : ahdX (.cons a k r) (.cons a2 q s) = false := hab
      have hbh : ahdX (.cons a2 q s) (.cons a k r) = false := hba
      rw [hah] at CA
      rw [hbh] at CB
      clear hah hbh hab hba
      go_wp2_with fail
      refine (CA.out _ (Below.refl _ _)).mono ?_
      rintro r9 w2 ⟨rfl, hb⟩
      have HP2 := Lib.hid (HP.out.below hb)
      have HB2 := Lib.hid hb
      clear hb
      go_wp2_with fail
      refine (CB.out _ HB2.out).mono ?_
      rintro r9 w3 ⟨rfl, hb⟩
      have HPD := Lib.hid ((HP2.out.below hb).below (Below.refl _ _).drew)
      have HKD := Lib.hid (KepW.of HPD.out.1 HPD.out.2.1 HST.out)
      clear hb
      go_wp2_with fail
      refine wp_region_noPanic ?_
      refine wp_region_held_drew (S := fun _ => True) (by kernel_rfl) trivial (fun hS => ?_)
      refine held_more (S' := fun w' => KepW b W w') (fun _ _ => trivial) _ _ _ _ ?_
      replace hS := HKD.out
      refine tkH 0 hS ?_ (hy := fun w hSw => by have p0 := (hSw.2.2.cell 0).trans rfl; (go_simp <;> with_reducible rfl))
      refine tkH 1 hS ?_
      refine tkH 2 hS ?_
      refine tkH 3 hS ?_
      refine tkH 4 hS ?_ (hy := fun w hSw => by have x0 : w.cell? ⟨ga, oa, none⟩ = _ := (World.cell?_of_block (hSw.1 _ HKA.out.1)).trans (HKA.out.2 0 _ rfl); have x1 : w.cell? ⟨ga, oa + 1, none⟩ = _ := (World.cell?_of_block (hSw.1 _ HKA.out.1)).trans (HKA.out.2 1 _ rfl); have x2 : w.cell? ⟨ga, oa + 2, none⟩ = _ := (World.cell?_of_block (hSw.1 _ HKA.out.1)).trans (HKA.out.2 2 _ rfl); have x3 : w.cell? ⟨ga, oa + 3, none⟩ = _ := (World.cell?_of_block (hSw.1 _ HKA.out.1)).trans (HKA.out.2 3 _ rfl); have x4 : w.cell? ⟨ga, oa + 4, none⟩ = _ := (World.cell?_of_block (hSw.1 _ HKA.out.1)).trans (HKA.out.2 4 _ rfl); have x5 : w.cell? ⟨ga, oa + 5, none⟩ = _ := (World.cell?_of_block (hSw.1 _ HKA.out.1)).trans (HKA.out.2 5 _ rfl); (go_simp <;> with_reducible rfl))
      refine tkH 6 hS ?_
      refine tkH 7 hS ?_
      refine tkH 8 hS ?_ (hy := fun w hSw => by have x0 : w.cell? ⟨ga, oa, none⟩ = _ := (World.cell?_of_block (hSw.1 _ HKA.out.1)).trans (HKA.out.2 0 _ rfl); have x1 : w.cell? ⟨ga, oa + 1, none⟩ = _ := (World.cell?_of_block (hSw.1 _ HKA.out.1)).trans (HKA.out.2 1 _ rfl); have x2 : w.cell? ⟨ga, oa + 2, none⟩ = _ := (World.cell?_of_block (hSw.1 _ HKA.out.1)).trans (HKA.out.2 2 _ rfl); have x3 : w.cell? ⟨ga, oa + 3, none⟩ = _ := (World.cell?_of_block (hSw.1 _ HKA.out.1)).trans (HKA.out.2 3 _ rfl); have x4 : w.cell? ⟨ga, oa + 4, none⟩ = _ := (World.cell?_of_block (hSw.1 _ HKA.out.1)).trans (HKA.out.2 4 _ rfl); have x5 : w.cell? ⟨ga, oa + 5, none⟩ = _ := (World.cell?_of_block (hSw.1 _ HKA.out.1)).trans (HKA.out.2 5 _ rfl); (go_simp <;> with_reducible rfl))
      refine tkH 9 hS ?_
      refine tkH 10 hS ?_
      refine tkH 11 hS ?_ (hy := fun w hSw => by have y0 : w.cell? ⟨gb, ob, none⟩ = _ := (World.cell?_of_block (hSw.1 _ HKB.out.1)).trans (HKB.out.2 0 _ rfl); have y1 : w.cell? ⟨gb, ob + 1, none⟩ = _ := (World.cell?_of_block (hSw.1 _ HKB.out.1)).trans (HKB.out.2 1 _ rfl); have y2 : w.cell? ⟨gb, ob + 2, none⟩ = _ := (World.cell?_of_block (hSw.1 _ HKB.out.1)).trans (HKB.out.2 2 _ rfl); have y3 : w.cell? ⟨gb, ob + 3, none⟩ = _ := (World.cell?_of_block (hSw.1 _ HKB.out.1)).trans (HKB.out.2 3 _ rfl); have y4 : w.cell? ⟨gb, ob + 4, none⟩ = _ := (World.cell?_of_block (hSw.1 _ HKB.out.1)).trans (HKB.out.2 4 _ rfl); have y5 : w.cell? ⟨gb, ob + 5, none⟩ = _ := (World.cell?_of_block (hSw.1 _ HKB.out.1)).trans (HKB.out.2 5 _ rfl); (go_simp <;> with_reducible rfl))
      refine wpAnyH_ready (rs := [5]) (by kernel_rfl) (by simp) ?_
      refine (AllReadyH.cons (o := ?or_c) ?ir_c (fun K hK => ?str_c) AllReadyH.nil)
      case ir_c => simp only [layG]; rfl
      rw [if_pos (by rfl)]
      go_simp
      refine (wayto_any (b + 6) l _ a _ w3.drew HPD.out.1.way (by have := HL.out; omega) HPD.out.1.size).mono ?_
      rintro r w4 ⟨u4, rfl, hw4⟩
      obtain ⟨Aw, cw, rfl⟩ := hw4.shape
      have HWP := Lib.hid hw4
      have HS4 := Lib.hid (HPD.out.1.step hw4)
      have HK4 := Lib.hid (HKD.out.step HPD.out.1 hw4)
      clear hw4
      go_wp2_with fail
      refine hK.out _ _ ?sr_c (fun hS => ?_)
      case sr_c => (exact HK4.out)
      clear hK K
      (try simp only [Act.put, layS])
      refine wpAnyH_ready (rs := [12]) (by kernel_rfl) (by simp) ?_
      refine (AllReadyH.cons (o := ?or_d) ?ir_d (fun K hK => ?str_d) AllReadyH.nil)
      case ir_d => simp only [layG]; rfl
      rw [if_pos (by rfl)]
      go_simp
      have hc := both_any n HIH.out (a, k) (a2, q) HSX.out.1 b S' w4 v' (.slice Aw (l.length + 1) cw) (M ++ E) (l ++ [stp a]) A1 B1 c1 d1 HS4.out (RowS.keep HRA.out HK4.out.1 (fun _ h => h)) (RowS.keep HRB.out HK4.out.1 (fun _ h => h)) (by have := HSX.out.2.1; simp; omega) HSX.out.2.2
      refine hc.mono ?_
      intro r9 w6 hr9
      obtain ⟨xr, rfl⟩ := hr9.1
      obtain ⟨v7, S7, hp7⟩ := HPD.out.call (told_back HPD.out.1 HWP.out hr9)
      have HP6 := Lib.hid hp7
      have HK6 := Lib.hid (KepW.of hp7.1 hp7.2.1 HST.out)
      clear hr9 hp7 hc
      go_wp2_with fail
      refine hK.out _ _ ?sr_d (fun hS => ?_)
      case sr_d => (exact HK6.out)
      clear hK K
      (try simp only [Act.put, layS])
      refine wpAnyH_done (by kernel_rfl) ?_ _
      refine NoPanic.normal ?_
      clear hS
      obtain ⟨QA, hQA⟩ : ∃ Q, Q = (if c' = 1 then (some ⟨ga, oa, none⟩ : Option Addr) else some ⟨ga, oa + 6, none⟩) := ⟨_, rfl⟩
      have hqa : (if c' = 1 then (some ⟨ga, oa, none⟩ : Option Addr) else some ⟨ga, oa + 6, none⟩) = QA := hQA.symm
      have HTA2 : Hid (RowS (fun k => k < b) W (.slice QA (N - 1) (c' - 1)) r) := Lib.hid (by rw [hQA]; exact HTA.out)
      clear hQA
      obtain ⟨QB, hQB⟩ : ∃ Q, Q = (if d' = 1 then (some ⟨gb, ob, none⟩ : Option Addr) else some ⟨gb, ob + 6, none⟩) := ⟨_, rfl⟩
      have hqb : (if d' = 1 then (some ⟨gb, ob, none⟩ : Option Addr) else some ⟨gb, ob + 6, none⟩) = QB := hQB.symm
      have HTB2 : Hid (RowS (fun k => k < b) W (.slice QB (K - 1) (d' - 1)) s) := Lib.hid (by rw [hQB]; exact HTB.out)
      clear hQB
      have HP7 := Lib.hid (HP6.out.below (Below.refl _ _).drew)
      go_wp2_with fail
      refine wp_region_noPanic ?_
      refine wp_region_held_drew (S := fun _ => True) (by kernel_rfl) trivial (fun hS => ?_)
      refine tkH 0 hS ?_
      refine tkH 1 hS ?_
      refine tkH 2 hS ?_
      refine tkH 3 hS ?_
      refine tkH 4 hS ?_
      refine tkH 5 hS ?_
      refine wpAnyH_done (by kernel_rfl) ?_ _
      refine NoPanic.normal ?_
      clear hS
      go_wp2
      go_roundw
      case rel => exact ⟨r, s, QA, QB, c' - 1, d' - 1, _, v7, S7, by rw [HNA.out]; rfl, by rw [HNB.out]; rfl, HE2, by have h9 := HTA2.out; rw [HNA.out] at h9; exact Lib.hid h9, by have h9 := HTB2.out; rw [HNB.out] at h9; exact Lib.hid h9, HP7, HS2⟩
      case measure => simp [lenV16]; omega
theorem beside_any : ∀ n, BesAt n := by
 intro n
 induction n with
 | zero => exact fun f g h => absurd h (Nat.not_lt_zero _)
 | succ n ih => exact beside_step n ih
end Go.Proofs.Ythdhchhpjoghlaa
