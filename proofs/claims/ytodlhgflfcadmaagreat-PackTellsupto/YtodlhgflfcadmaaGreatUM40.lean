/- PakRef PakInj VadRefA -/
import Derived.Test.YtodlhgflfcadmaaGreatUM38
import Derived.Test.YtodlhgflfcadmaaGreatUM39
set_option linter.unusedSimpArgs false
set_option linter.unusedVariables false
set_option maxRecDepth 100000
set_option maxHeartbeats 8000000
namespace Go.Proofs.YtodlhgflfcadmaaGreat
open Go.RowKit
def RItsP (F : Fo) (w : World) (r : Ending) (w' : World) : Prop := ∃ v, r = .returned v ∧ OwnF DataR 57 w' w.heap.size v F ∧ Below w.heap.size w w'
def RItemsAt (q : SpF) : Prop := ∀ (sd : SpD) (cs : List Value) (a : NdD) (f : NdF) (Ak : Option Addr) (ck : Nat) (w : World), SpL w.heap.size w cs (sd, q) → SpOk q → q.len ≤ 1000000 → RowT w.heap.size w (.slice Ak f.len ck) f → f.size ≤ 1000000 → OkF f →
 Calls Tryz.prog 28 #[.agg cs.toArray, .agg (cN a (.slice Ak f.len ck))] w (RItsP (itF q 0 f) w)
theorem rit_end {b0 xb base : Nat} {u v' : Value} {F G : Fo} {cs : Array Value} {W0 WA w' : World} (hown : OwnF DataR 57 WA base u F) (hx : Blk WA xb 67 cs) (hB : Below base W0 WA) (hb : base ≤ WA.heap.size) (hap : AppF DataR 57 WA base u G v' w') :
  OwnF DataR 57 w' base v' G ∧ Blk w' xb 67 cs ∧ Below base W0 w' :=
 ⟨hap.1, hx.grown hap.2.1 (fun e => hown.ne hx (by decide) e.symm), hB.trans (hap.below hown hb)⟩
theorem ritems_any (q : SpF) : RItemsAt q := by
 refine Fr.byKids (P := RItemsAt) ?_ q
 clear q
 intro q IH sd cs a f Ak ck w hsp hq hql hrow hks hok
 have hsp0 := hsp
 obtain ⟨B, m, A, c, d, rfl, hv, -, hkv⟩ := SpN.shape hsp
 obtain ⟨nm, kd, ty, lo, hi, ns, mu, mo⟩ := sd
 have hfl : f.len ≤ 1000000 := Nat.le_trans f.len_size hks
 have hb2 : Below w.heap.size w ((w.alloc (.cells (cT nm kd ty lo hi ns mu mo B m A q.len c) 67)).alloc (.cells (cN a (.slice Ak f.len ck)) 27)) := bAl.alloc (by simp) _
 have HX2 := hHd hb2
 have HBK : Hid (Blk ((w.alloc (.cells (cT nm kd ty lo hi ns mu mo B m A q.len c) 67)).alloc (.cells (cN a (.slice Ak f.len ck)) 27)) w.heap.size 67 (cT nm kd ty lo hi ns mu mo B m A q.len c) ∧ Blk ((w.alloc (.cells (cT nm kd ty lo hi ns mu mo B m A q.len c) 67)).alloc (.cells (cN a (.slice Ak f.len ck)) 27)) (w.heap.size + 1) 27 (cN a (.slice Ak f.len ck))) := hHd ⟨(Blk.new w 67 (cT nm kd ty lo hi ns mu mo B m A q.len c)).alloc _, Blk.newA (w := w.alloc (.cells (cT nm kd ty lo hi ns mu mo B m A q.len c) 67)) (by simp) _ _⟩
 have HO0 : Hid (OwnF DataR 57 ((w.alloc (.cells (cT nm kd ty lo hi ns mu mo B m A q.len c) 67)).alloc (.cells (cN a (.slice Ak f.len ck)) 27)) (w.heap.size + 1 + 1) (.slice none 0 0) (itF (Fr.take 0 q) 0 f)) := hHd (by rw [show Fr.take 0 q = .nil from rfl]; exact OwnF.nil _ _)
 have HW2 : Hid (((w.alloc (.cells (cT nm kd ty lo hi ns mu mo B m A q.len c) 67)).alloc (.cells (cN a (.slice Ak f.len ck)) 27)).heap.size = (w.heap.size + 1 + 1)) := hHd (by simp)
 have y8 := (HBK.out.1.cell 8).trans rfl
 have HSP := hHd (And.intro hsp0 hkv)
 have HQ := hHd (And.intro hq (And.intro hql hfl))
 have HF := hHd (And.intro hrow (And.intro hks hok))
 have HIH := hHd IH
 clear hsp hsp0 hv hkv hq hrow hks hok IH hb2
 go_enter Tryz.func28, Tryz.ntmps28
 go_wp2
 go_loopw [5, 6] (fun va i wr => ∃ (p : Nat) (u : Value), p ≤ q.len ∧ u = va ∧ i = .int .i64 (p : Int) ∧ Hid (OwnF DataR 57 wr (w.heap.size + 1 + 1) u (itF (Fr.take p q) 0 f)) ∧ Hid (Below (w.heap.size + 1 + 1) ((w.alloc (.cells (cT nm kd ty lo hi ns mu mo B m A q.len c) 67)).alloc (.cells (cN a (.slice Ak f.len ck)) 27)) wr)) (fun _ i _ => q.len - (intOf i).toNat)
 case atStart => exact ⟨0, _, Nat.zero_le _, rfl, rfl, HO0, hHd (Below.refl _ _)⟩
 case round =>
  obtain ⟨p, uo, hp, rfl, rfl, HO, HB⟩ := hrel
  obtain ⟨wo, hwo⟩ : ∃ wo, wo = wr := ⟨_, rfl⟩
  subst hwo
  clear y8 HO0
  have HBw : Hid (Below w.heap.size w wo) := hHd (HX2.out.trans (HB.out.mono (by omega)))
  have HBX := hHd (And.intro (HBK.out.1.below HB.out (by omega)) (HBK.out.2.below HB.out (by omega)))
  have HBS : Hid ((w.heap.size + 1 + 1) ≤ wo.heap.size) := hHd (by have := HB.out.size; have := HW2.out; omega)
  by_cases hlt : p < q.len
  ·obtain ⟨⟨nm', kd', ty', lo', hi', ns', mu', mo'⟩, q', hg⟩ : ∃ d s, q.get? p = some (d, s) := Fr.get_some hlt
   obtain ⟨gb, go_, cr, cs', ev, hcr, hSg, hN, hcl⟩ := HSP.out.2.at hg
   injection ev with e1 e2 e3
   subst e1 e3
   obtain ⟨B', m', A', c'', d', rfl, hv', hN', hk'⟩ := SpN.shape (x := (⟨nm', kd', ty', lo', hi', ns', mu', mo'⟩, q')) hN
   have hsi : SpL w.heap.size w (cT nm' kd' ty' lo' hi' ns' mu' mo' B' m' A' q'.len c'').toList (⟨nm', kd', ty', lo', hi', ns', mu', mo'⟩, q') := hN
   have hqok := HQ.out.1.at hg
   have HIQ := hHd (HIH.out p _ _ hg)
   have HVS : Hid (∀ W, Below w.heap.size w W → Vals W d' (.slice B' ns'.length m') (txts ns')) := hHd (fun W hW => hv'.heap (fun h0 => hW.block d' (by obtain ⟨_, _, _, _, h2⟩ := hv'; exact (h2 h0).1)))
   have hcw : ∀ j u, (cT nm' kd' ty' lo' hi' ns' mu' mo' B' m' A' q'.len c'').toList[j]? = some u → wo.cell? ⟨gb, go_ + p * 9 + j, none⟩ = some u := fun j u hu => (HBw.out.cell (p := ⟨gb, go_ + p * 9 + j, none⟩) hSg).trans (hcl j u hu)
   have htg : tagX q (p : Int) = tgW ⟨nm', kd', ty', lo', hi', ns', mu', mo'⟩ p := tag_in hg
   obtain ⟨t, ht⟩ : ∃ t, t = tgW ⟨nm', kd', ty', lo', hi', ns', mu', mo'⟩ p := ⟨_, rfl⟩
   have HST : Hid (itF (Fr.take (p + 1) q) 0 f = (itF (Fr.take p q) 0 f).app (collW (fun x => itF q' 0 x) ⟨nm', kd', ty', lo', hi', ns', mu', mo'⟩ t f)) := hHd (by rw [ht]; exact it_step hg)
   obtain ⟨F0, hF0⟩ : ∃ F, F = itF (Fr.take p q) 0 f := ⟨_, rfl⟩
   have hF0l : F0.len + 1000000 ≤ 1000000000000 := by
    rw [hF0]
    have h1 := it_take_len q f p hp HQ.out.2.1 HQ.out.2.2
    have h2 := HQ.out.2.1
    have h3 : p * 1000000 + 1000000 ≤ 1000000 * 1000000 := by omega
    omega
   have HFL := hHd hF0l
   have HT64 : Hid (t < 18446744073709551616) := hHd (by rw [ht]; unfold tgW; have := HQ.out.2.1; split <;> omega)
   rw [← hF0] at HO HST
   have hal : Below wo.heap.size wo (wo.alloc (.cells (cT nm' kd' ty' lo' hi' ns' mu' mo' B' m' A' q'.len c'') 67)) := bAl
   have hBx : Below w.heap.size w (wo.alloc (.cells (cT nm' kd' ty' lo' hi' ns' mu' mo' B' m' A' q'.len c'') 67)) := HBw.out.trans (hal.mono HBw.out.size)
   have hspx : SpL w.heap.size (wo.alloc (.cells (cT nm' kd' ty' lo' hi' ns' mu' mo' B' m' A' q'.len c'') 67)) ((cS (txt nm) kd ty lo hi (.slice B ns.length m) mu mo (.slice (some ⟨gb, go_, none⟩) q.len c)) : Array Value).toList (⟨nm, kd, ty, lo, hi, ns, mu, mo⟩, q) := HSP.out.1.keep (fun g hg => hBx.block g hg) (Nat.le_refl _)
   have htc : Calls Tryz.prog 48 #[.agg (cS (txt nm) kd ty lo hi (.slice B ns.length m) mu mo (.slice (some ⟨gb, go_, none⟩) q.len c)), .int .i64 (p : Int)] (wo.alloc (.cells (cT nm' kd' ty' lo' hi' ns' mu' mo' B' m' A' q'.len c'') 67)) (AnsP (.int .u64 (tagX q (p : Int) : Int)) (wo.alloc (.cells (cT nm' kd' ty' lo' hi' ns' mu' mo' B' m' A' q'.len c'') 67))) := rtag_any (p : Int) (fun g => g < w.heap.size) (fun g => g < w.heap.size) _ (⟨nm, kd, ty, lo, hi, ns, mu, mo⟩, q) (wo.alloc (.cells (cT nm' kd' ty' lo' hi' ns' mu' mo' B' m' A' q'.len c'') 67)) (by omega) (by have := HQ.out.2.1; omega) hspx (fun g hg => Nat.lt_of_lt_of_le hg hBx.size) HQ.out.2.1
   rw [htg, ← ht] at htc
   have HTC := hHd htc
   have HSI := hHd (And.intro hsi hqok)
   have HXB : Hid (Blk (wo.alloc (.cells (cT nm' kd' ty' lo' hi' ns' mu' mo' B' m' A' q'.len c'') 67)) wo.heap.size 67 (cT nm' kd' ty' lo' hi' ns' mu' mo' B' m' A' q'.len c'')) := hHd (Blk.new _ _ _)
   have hyb := HBX.out.1.below hal HBX.out.1.lt
   obtain ⟨y0, y1, y2, y3, y4, y5, y6, y7, y8⟩ := cl9 hyb
   have z8 := (HBX.out.1.cell 8).trans rfl
   have x0 : wo.cell? ⟨gb, go_ + p * 9, none⟩ = _ := hcw 0 _ rfl
   have x1 := hcw 1 _ rfl
   have x2 := hcw 2 _ rfl
   have x3 := hcw 3 _ rfl
   have x4 := hcw 4 _ rfl
   have x5 := hcw 5 _ rfl
   have x6 := hcw 6 _ rfl
   have x7 := hcw 7 _ rfl
   have x8 := hcw 8 _ rfl
   have HAL := hHd hal
   have i1 : (0 : Int) ≤ (p : Int) := by omega
   have i2 : (p : Int) < (q.len : Int) := by omega
   clear hN hcl hv' hN' hk' hsi hqok hcw htg ht hF0 hF0l hg e2 hSg hcr hlt HIH HSP htc hal hBx hyb hspx
   go_wp2_with fail
   refine HTC.out.mono ?_
   rintro r w2 ⟨rfl, hb2⟩
   have HO2 : Hid (OwnF DataR 57 w2 (w.heap.size + 1 + 1) uo F0) := hHd ((HO.out.below stays_R HAL.out).below stays_R hb2)
   have HB2 := hHd (HB.out.trans ((HAL.out.trans (hb2.mono HAL.out.size)).mono HBS.out))
   have HXB2 : Hid (Blk w2 wo.heap.size 67 (cT nm' kd' ty' lo' hi' ns' mu' mo' B' m' A' q'.len c'')) := hHd (HXB.out.below hb2 HXB.out.lt)
   have p5 := ((HBK.out.2.below HB2.out (by omega)).cell 5).trans rfl
   clear hb2 HTC HXB y0 y1 y2 y3 y4 y5 y6 y7 y8 z8 x0 x1 x2 x3 x4 x5 x6 x7 x8
   go_wp2
   obtain ⟨G, hG⟩ : ∃ G : NdF → Fo, G = collW (fun x => itF q' 0 x) ⟨nm', kd', ty', lo', hi', ns', mu', mo'⟩ t := ⟨_, rfl⟩
   rw [← hG] at HST
   have HG := hHd hG
   clear hG
   go_loopw [5, 9] (fun va i wr => ∃ (j : Nat) (u : Value), j ≤ f.len ∧ u = va ∧ i = .int .i64 (j : Int) ∧ Hid (OwnF DataR 57 wr (w.heap.size + 1 + 1) u (F0.app (G (Fr.take j f)))) ∧ Hid (Blk wr wo.heap.size 67 (cT nm' kd' ty' lo' hi' ns' mu' mo' B' m' A' q'.len c'')) ∧ Hid (Below (w.heap.size + 1 + 1) ((w.alloc (.cells (cS (txt nm) kd ty lo hi (.slice B ns.length m) mu mo (.slice (some ⟨gb, go_, none⟩) q.len c)) 67)).alloc (.cells (cN a (.slice Ak f.len ck)) 27)) wr)) (fun _ i _ => f.len - (intOf i).toNat)
   case atStart => exact ⟨0, _, Nat.zero_le _, rfl, rfl, (by rw [HG.out, show Fr.take 0 f = .nil from rfl]; simp only [collW, Fo.app_nil]; exact HO2), HXB2, HB2⟩
   case round =>
    clear p5
    obtain ⟨j, u, hj, rfl, rfl, HOj, HXj, HBj⟩ := hrel
    obtain ⟨wi, hwi⟩ : ∃ wi, wi = wr := ⟨_, rfl⟩
    subst hwi
    have HBwj : Hid (Below w.heap.size w wi) := hHd (HX2.out.trans (HBj.out.mono (by omega)))
    have HSZ : Hid ((w.heap.size + 1 + 1) ≤ wi.heap.size) := hHd (by have := HBj.out.size; have := HW2.out; simp only [World.size_alloc] at *; omega)
    have p5 := ((HBK.out.2.below HBj.out (by omega)).cell 5).trans rfl
    by_cases hlt2 : j < f.len
    ·obtain ⟨ka, kf, hgk⟩ := Fr.get_some hlt2
     obtain ⟨gk, gok, Aj, cj, rfl, -, hck, hgk2, hrk, hclk⟩ := HF.out.1.at hgk
     have hokk := HF.out.2.2.at hgk
     have hszk : kf.size ≤ 1000000 := by have h1 := Fr.size_get hgk; have h2 := HF.out.2.1; omega
     have c0 : wi.cell? ⟨gk, gok + j * 6, none⟩ = _ := (HBwj.out.cell (p := ⟨gk, gok + j * 6 + 0, none⟩) hgk2).trans (hclk 0 _ rfl)
     have c1 := (HBwj.out.cell (p := ⟨gk, gok + j * 6 + 1, none⟩) hgk2).trans (hclk 1 _ rfl)
     have c2 := (HBwj.out.cell (p := ⟨gk, gok + j * 6 + 2, none⟩) hgk2).trans (hclk 2 _ rfl)
     have c3 := (HBwj.out.cell (p := ⟨gk, gok + j * 6 + 3, none⟩) hgk2).trans (hclk 3 _ rfl)
     have c4 := (HBwj.out.cell (p := ⟨gk, gok + j * 6 + 4, none⟩) hgk2).trans (hclk 4 _ rfl)
     have c5 := (HBwj.out.cell (p := ⟨gk, gok + j * 6 + 5, none⟩) hgk2).trans (hclk 5 _ rfl)
     have hal : Below wi.heap.size wi (wi.alloc (.cells (cN ka (.slice Aj kf.len cj)) 27)) := bAl
     have hws : (wi.alloc (.cells (cN ka (.slice Aj kf.len cj)) 27)).heap.size = (wi.heap.size + 1) := by simp
     have HALL : Hid (∀ W, Below (wi.heap.size + 1) (wi.alloc (.cells (cN ka (.slice Aj kf.len cj)) 27)) W → OwnF DataR 57 W (w.heap.size + 1 + 1) u (F0.app (G (Fr.take j f))) ∧ Blk W wo.heap.size 67 (cT nm' kd' ty' lo' hi' ns' mu' mo' B' m' A' q'.len c'') ∧ Below (w.heap.size + 1 + 1) ((w.alloc (.cells (cS (txt nm) kd ty lo hi (.slice B ns.length m) mu mo (.slice (some ⟨gb, go_, none⟩) q.len c)) 67)).alloc (.cells (cN a (.slice (some ⟨gk, gok, none⟩) f.len ck)) 27)) W) := hHd (fun W h0 => by
      have h : Below (wi.alloc (.cells (cN ka (.slice Aj kf.len cj)) 27)).heap.size (wi.alloc (.cells (cN ka (.slice Aj kf.len cj)) 27)) W := by rw [hws]; exact h0
      exact ⟨(HOj.out.below stays_R hal).below stays_R h, (HXj.out.below hal HXj.out.lt).below h (Nat.lt_of_lt_of_le HXj.out.lt hal.size), HBj.out.trans ((hal.trans (h.mono hal.size)).mono HSZ.out)⟩)
     have HBAK : Hid (Below w.heap.size w (wi.alloc (.cells (cN ka (.slice Aj kf.len cj)) 27))) := hHd (HBwj.out.trans (hal.mono HBwj.out.size))
     have HBA1 : Hid (w.heap.size ≤ (wi.heap.size + 1)) := hHd (Nat.le_trans HBwj.out.size (Nat.le_succ _))
     have HKB : Hid (Blk (wi.alloc (.cells (cN ka (.slice Aj kf.len cj)) 27)) wi.heap.size 27 (cN ka (.slice Aj kf.len cj))) := hHd (Blk.new wi 27 (cN ka (.slice Aj kf.len cj)))
     have HRK := hHd (And.intro hrk (And.intro hszk hokk))
     have HUB : Hid (∀ g, u.ownBlock = some g → g < (wi.heap.size + 1)) := hHd (fun g hg => Nat.lt_succ_of_lt (HOj.out.lt g hg).2)
     have HSK : Hid ((w.heap.size + 1 + 1) ≤ (wi.alloc (.cells (cN ka (.slice Aj kf.len cj)) 27)).heap.size) := hHd (Nat.le_trans HSZ.out hal.size)
     have hst : F0.app (G (Fr.take (j + 1) f)) = (F0.app (G (Fr.take j f))).app (if ka.name = nm' then .cons t (dtW ⟨nm', kd', ty', lo', hi', ns', mu', mo'⟩ ka) (kdW (fun x => itF q' 0 x) ⟨nm', kd', ty', lo', hi', ns', mu', mo'⟩ ka kf) .nil else .nil) := by
      rw [take_kid hgk, HG.out, coll_app, ← HG.out, Fo.app_assoc, HG.out]
      rfl
     have HLQ : Hid ((F0.app (G (Fr.take j f))).len ≤ 1000000000000) := hHd (by
      rw [Fo.len_app, HG.out]
      have h1 := coll_len (fun x => itF q' 0 x) ⟨nm', kd', ty', lo', hi', ns', mu', mo'⟩ t (Fr.take j f)
      rw [Fr.len_take j f hj] at h1
      have := HFL.out
      omega)
     have HLN : Hid ((itF q' 0 kf).len ≤ 1000000000000) := hHd (by
      have h1 := it_len q' kf 0
      have h2 := kf.len_size
      have h3 : q'.len * kf.len ≤ 1000000 * 1000000 := Nat.mul_le_mul HSI.out.2.2.1 (by omega)
      omega)
     obtain ⟨Fj, hFj⟩ : ∃ F, F = F0.app (G (Fr.take j f)) := ⟨_, rfl⟩
     rw [← hFj] at HALL hst HLQ
     have j1 : (0 : Int) ≤ (j : Int) := by omega
     have j2 : (j : Int) < (f.len : Int) := by omega
     have hx0 := (((HXj.out.below hal HXj.out.lt)).cell 0).trans rfl
     have hx1 := (((HXj.out.below hal HXj.out.lt)).cell 1).trans rfl
     have kb0 := (HKB.out.cell 0).trans rfl
     have ta : (txt ka.name).toList = ka.name := txt_toList _
     have tb : (txt nm').toList = nm' := txt_toList _
     clear hgk hck hgk2 hrk hclk hokk hszk hal hFj HOj HXj HBj
     by_cases hnm : ka.name = nm'
     ·rw [if_pos hnm] at hst
      have HKD := hHd hst
      clear hst
      have hq1 : (ka.name == nm') = true := beq_iff_eq.2 hnm
      clear hnm
      by_cases h1 : kd' = 1
      ·have n1 : ((kd' : Int) == 1) = true := by rw [h1]; rfl
       obtain ⟨D, hD⟩ : ∃ D, D = dataX ⟨nm', kd', ty', lo', hi', ns', mu', mo'⟩ (vlOf ka) := ⟨_, rfl⟩
       have hdt : Calls Tryz.prog 49 #[.agg (cT nm' kd' ty' lo' hi' ns' mu' mo' B' m' A' q'.len c''), .agg #[.int .i64 ka.kind, .int .u64 (ka.num : Int), .string (txt ka.text)]] (wi.alloc (.cells (cN ka (.slice Aj kf.len cj)) 27)) (AnsP (.string (txt (dataX ⟨nm', kd', ty', lo', hi', ns', mu', mo'⟩ (vlOf ka)))) (wi.alloc (.cells (cN ka (.slice Aj kf.len cj)) 27))) := rdata_any ⟨nm', kd', ty', lo', hi', ns', mu', mo'⟩ (vlOf ka) B' m' d' A' q'.len c'' (wi.alloc (.cells (cN ka (.slice Aj kf.len cj)) 27)) (HVS.out (wi.alloc (.cells (cN ka (.slice Aj kf.len cj)) 27)) HBAK.out) HSI.out.2.1 (HRK.out.2.2.1 : OkD ka).vl
       rw [← hD] at hdt
       have HDT := hHd hdt
       have HKE : Hid (F0.app (G (Fr.take (j + 1) f)) = Fj.app (.cons t D .nil .nil)) := hHd (by rw [HKD.out]; unfold dtW kdW; rw [if_pos (show (⟨nm', kd', ty', lo', hi', ns', mu', mo'⟩ : SpD).kind = 1 from h1), if_pos (show (⟨nm', kd', ty', lo', hi', ns', mu', mo'⟩ : SpD).kind = 1 from h1), hD])
       clear hdt hD h1
       have hz : Hid (Below (wi.heap.size + 1) (wi.alloc (.cells (cN ka (.slice Aj kf.len cj)) 27)) (wi.alloc (.cells (cN ka (.slice Aj kf.len cj)) 27))) := hHd (Below.refl _ _)
       have hxw := HALL.out (wi.alloc (.cells (cN ka (.slice Aj kf.len cj)) 27)) hz.out
       have hkw := HKB.out.below hz.out (Nat.lt_succ_self _)
       obtain ⟨x0, x1, x2, x3, x4, x5, x6, x7, x8⟩ := cl9 hxw.2.1
       obtain ⟨k0, k1, k2, k3, k4, k5⟩ := cl6 hkw
       clear hxw hkw
       clear kb0 hx0 hx1
       go_wp2_with fail
       refine HDT.out.mono ?_
       rintro r w3 ⟨rfl, hb3⟩
       have hKA : Below (wi.heap.size + 1) (wi.alloc (.cells (cN ka (.slice Aj kf.len cj)) 27)) (w3.alloc (.cells #[.int .u64 (t : Int), .string (txt D), .slice none 0 0] 57)) := (hb3.mono (by simp)).alloc (Nat.le_trans (by simp) hb3.size) _
       have HOA := hHd (HALL.out (w3.alloc (.cells #[.int .u64 (t : Int), .string (txt D), .slice none 0 0] 57)) hKA)
       have HBL : Hid (Blk (w3.alloc (.cells #[.int .u64 (t : Int), .string (txt D), .slice none 0 0] 57)) w3.heap.size 57 #[.int .u64 (t : Int), .string (txt D), .slice none 0 0]) := hHd (Blk.new _ _ _)
       have HSA : Hid ((w.heap.size + 1 + 1) ≤ (w3.alloc (.cells #[.int .u64 (t : Int), .string (txt D), .slice none 0 0] 57)).heap.size) := hHd (Nat.le_trans HSK.out hKA.size)
       clear hKA hb3
       clear x0 x1 x2 x3 x4 x5 x6 x7 x8 k0 k1 k2 k3 k4 k5
       go_wp2_with (at_builtin; refine wpList_append_it stays_R one_R Tryz.underlying37 Tryz.infoJ zeroI rfl (.tmp 47) (.tmp 54) rfl rfl (w.heap.size + 1 + 1) u Fj rfl HOA.out.1 w3.heap.size rfl t D .nil (.string (txt D)) (.slice none 0 0) HBL.out HT64.out rfl (FV.nil _ _) ?h1 ?h2 ?h3 ?_)
       case h1 => have := HLQ.out; omega
       case h2 => have := HLQ.out; omega
       case h3 => exact HSA.out
       intro v9 w9 hap
       rw [← HKE.out] at hap
       have he := rit_end (b0 := 0) HOA.out.1 HOA.out.2.1 HOA.out.2.2 HSA.out hap
       have H1 := hHd he.1
       have H2 := hHd he.2.1
       have H3 := hHd he.2.2
       clear he hap HOA HBL HSA
       go_wp2
       go_roundw
       case rel => exact ⟨j + 1, _, by omega, rfl, by go_num, H1, H2, H3⟩
       case measure => simp [intOf]; omega
      ·have n1 : ((kd' : Int) == 1) = false := beq_eq_false_iff_ne.2 (by omega)
       by_cases h3 : kd' = 3
       ·have n3 : ((kd' : Int) == 3) = true := by rw [h3]; rfl
        obtain ⟨F6, hF6⟩ : ∃ F, F = Fo.cons 0 ka.key .nil .nil := ⟨_, rfl⟩
        have HKD : Hid (F0.app (G (Fr.take (j + 1) f)) = Fj.app (.cons t [] (F6.app (itF q' 0 kf)) .nil)) := hHd (by rw [HKD.out, hF6]; unfold dtW kdW; rw [if_neg (show ¬ (⟨nm', kd', ty', lo', hi', ns', mu', mo'⟩ : SpD).kind = 1 from h1), if_neg (show ¬ (⟨nm', kd', ty', lo', hi', ns', mu', mo'⟩ : SpD).kind = 1 from h1), if_pos (show (⟨nm', kd', ty', lo', hi', ns', mu', mo'⟩ : SpD).kind = 3 from h3)]; rfl)
        have HE6 := hHd hF6
        clear hF6 h1 h3
        have hz : Hid (Below (wi.heap.size + 1) (wi.alloc (.cells (cN ka (.slice Aj kf.len cj)) 27)) (wi.alloc (.cells (cN ka (.slice Aj kf.len cj)) 27))) := hHd (Below.refl _ _)
        have HBL : Hid (Blk ((wi.alloc (.cells (cN ka (.slice Aj kf.len cj)) 27)).alloc (.cells #[.int .u64 0, .string (txt ka.key), .slice none 0 0] 57)) (wi.heap.size + 1) 57 #[.int .u64 ((0 : Nat) : Int), .string (txt ka.key), .slice none 0 0]) := hHd (Blk.newA (w := (wi.alloc (.cells (cN ka (.slice Aj kf.len cj)) 27))) (by simp) _ _)
        have hxw := HALL.out (wi.alloc (.cells (cN ka (.slice Aj kf.len cj)) 27)) hz.out
        have hkw := HKB.out.below hz.out (Nat.lt_succ_self _)
        obtain ⟨x0, x1, x2, x3, x4, x5, x6, x7, x8⟩ := cl9 hxw.2.1
        obtain ⟨k0, k1, k2, k3, k4, k5⟩ := cl6 hkw
        clear hxw hkw
        clear kb0 hx0 hx1
        go_wp2_with (at_builtin; refine wpList_append_it stays_R one_R Tryz.underlying37 Tryz.infoJ zeroI rfl (.tmp 59) (.tmp 63) rfl rfl (wi.heap.size + 1) (.slice none 0 0) .nil rfl (OwnF.nil _ _) (wi.heap.size + 1) rfl 0 ka.key .nil (.string (txt ka.key)) (.slice none 0 0) HBL.out (by decide) rfl (FV.nil _ _) (by decide) (by decide) ?h0 ?_)
        intro v6 w6 hap
        have hl6 : (wi.heap.size + 1) ≤ ((wi.alloc (.cells (cN ka (.slice Aj kf.len cj)) 27)).alloc (.cells #[.int .u64 0, .string (txt ka.key), .slice none 0 0] 57)).heap.size := by simp
        have HO6 : Hid (OwnF DataR 57 w6 (wi.heap.size + 1) v6 F6) := hHd (by rw [HE6.out]; exact hap.1)
        have hb6 := hap.below (f0 := .nil) (OwnF.nil _ _) hl6
        have HK6 : Hid (Below (wi.heap.size + 1) (wi.alloc (.cells (cN ka (.slice Aj kf.len cj)) 27)) w6) := hHd (((Below.refl _ _).alloc (by simp) _).trans hb6)
        have HL6 : Hid ((wi.heap.size + 1) ≤ w6.heap.size) := hHd (Nat.le_trans hl6 hb6.size)
        have HF6 : Hid (F6.len ≤ 1) := hHd (by rw [HE6.out]; exact Nat.le_refl 1)
        have HBW6 : Hid (Below w.heap.size w w6) := hHd (HBAK.out.trans (HK6.out.mono HBA1.out))
        clear hap hb6 hl6 HBL
        clear x0 x1 x2 x3 x4 x5 x6 x7 x8 k0 k1 k2 k3 k4 k5
        have HI := hHd (HIQ.out ⟨nm', kd', ty', lo', hi', ns', mu', mo'⟩ (cT nm' kd' ty' lo' hi' ns' mu' mo' B' m' A' q'.len c'').toList ka kf Aj cj w6 (HSI.out.1.keep (fun g hg => HBW6.out.block g hg) HBW6.out.size) HSI.out.2.2.2 HSI.out.2.2.1 (HRK.out.1.under HBW6.out (Nat.le_refl _) HBW6.out.size) HRK.out.2.1 HRK.out.2.2.2)
        have hxw := HALL.out w6 HK6.out
        have hkw := HKB.out.below HK6.out (Nat.lt_succ_self _)
        obtain ⟨x0, x1, x2, x3, x4, x5, x6, x7, x8⟩ := cl9 hxw.2.1
        obtain ⟨k0, k1, k2, k3, k4, k5⟩ := cl6 hkw
        clear hxw hkw
        go_wp2_with fail
        refine HI.out.mono ?_
        rintro r w7 ⟨v7, rfl, hv7, hb7⟩
        have HV7 := hHd hv7
        have HK7 : Hid (Below (wi.heap.size + 1) (wi.alloc (.cells (cN ka (.slice Aj kf.len cj)) 27)) w7) := hHd (HK6.out.trans (hb7.mono HL6.out))
        have HO7 : Hid (OwnF DataR 57 w7 (wi.heap.size + 1) v6 F6) := hHd (HO6.out.below stays_R hb7)
        have HLT : Hid (∀ b, (v6).ownBlock = some b → b < (w6).heap.size) := hHd (fun b hb => (HO6.out.lt b hb).2)
        have HS7 : Hid ((w6).heap.size ≤ w7.heap.size) := hHd hb7.size
        clear hv7 hb7 HI
        clear x0 x1 x2 x3 x4 x5 x6 x7 x8 k0 k1 k2 k3 k4 k5
        go_wp2_with (at_builtin; refine wpList_append_many stays_R one_R Tryz.underlying37 Tryz.infoJ zeroI rfl (.tmp 65) (.tmp 68) rfl rfl (wi.heap.size + 1) (w6).heap.size (v6) v7 (F6) (itF q' 0 kf) rfl HO7.out rfl HV7.out HLT.out HL6.out ?h1 ?h2 ?h3 ?_)
        case h1 => have := HLN.out; have := HF6.out; omega
        case h2 => have := HLN.out; have := HF6.out; omega
        case h3 => exact Nat.le_trans HL6.out HS7.out
        intro v8 w8 hap
        have HK8 : Hid (Below (wi.heap.size + 1) (wi.alloc (.cells (cN ka (.slice Aj kf.len cj)) 27)) w8) := hHd (HK7.out.trans (hap.below HO7.out (Nat.le_trans HL6.out HS7.out)))
        have HO8 := hHd hap.1
        obtain ⟨A8, c8, h8⟩ := hap.1.shape
        obtain ⟨K8, hK8⟩ : ∃ K, K = Fo.app (F6) (itF q' 0 kf) := ⟨_, rfl⟩
        rw [← hK8] at h8 HO8 HKD
        obtain ⟨n8, hn8⟩ : ∃ n, n = K8.len := ⟨_, rfl⟩
        rw [← hn8] at h8
        subst h8
        clear hap hn8 hK8
        have hKA : Below (wi.heap.size + 1) (wi.alloc (.cells (cN ka (.slice Aj kf.len cj)) 27)) (w8.alloc (.cells #[.int .u64 (t : Int), .string ⟨#[]⟩, .slice A8 n8 c8] 57)) := HK8.out.alloc (Nat.le_trans (by simp) HK8.out.size) _
        have HOA := hHd (HALL.out (w8.alloc (.cells #[.int .u64 (t : Int), .string ⟨#[]⟩, .slice A8 n8 c8] 57)) hKA)
        have HBL : Hid (Blk (w8.alloc (.cells #[.int .u64 (t : Int), .string ⟨#[]⟩, .slice A8 n8 c8] 57)) w8.heap.size 57 #[.int .u64 (t : Int), .string ⟨#[]⟩, .slice A8 n8 c8]) := hHd (Blk.new _ _ _)
        have HFV : Hid (FV DataR (w8.alloc (.cells #[.int .u64 (t : Int), .string ⟨#[]⟩, .slice A8 n8 c8] 57)) (ItsI (w.heap.size + 1 + 1) (w8.alloc (.cells #[.int .u64 (t : Int), .string ⟨#[]⟩, .slice A8 n8 c8] 57)) u) (.slice A8 n8 c8) K8) := hHd ((HO8.out.fv stays_R).kept stays_R (fun g hg => Below.heap_alloc _ _ _ hg.2) (fun g hg => ⟨by have := hg.1; have := HSZ.out; omega, Nat.lt_of_lt_of_le hg.2 (by simp), fun e => by have := HUB.out g e.symm; have := hg.1; omega⟩))
        have HSA : Hid ((w.heap.size + 1 + 1) ≤ (w8.alloc (.cells #[.int .u64 (t : Int), .string ⟨#[]⟩, .slice A8 n8 c8] 57)).heap.size) := hHd (by
         have h1 := HSZ.out
         have h2 := hKA.size
         have h3 : (wi.alloc (.cells (cN ka (.slice Aj kf.len cj)) 27)).heap.size = (wi.heap.size + 1) := by simp
         omega)
        clear hKA
        go_wp2_with (at_builtin; refine wpList_append_it stays_R one_R Tryz.underlying37 Tryz.infoJ zeroI rfl (.tmp 70) (.tmp 74) rfl rfl (w.heap.size + 1 + 1) u Fj rfl HOA.out.1 w8.heap.size rfl t [] K8 (.string ⟨#[]⟩) (.slice A8 n8 c8) HBL.out HT64.out rfl HFV.out ?h1 ?h2 ?h3 ?_)
        case h1 => have := HLQ.out; omega
        case h2 => have := HLQ.out; omega
        case h3 => exact HSA.out
        intro v9 w9 hap
        rw [show Fj.app (.cons t [] K8 .nil) = F0.app (G (Fr.take (j + 1) f)) from HKD.out.symm] at hap
        have he := rit_end (b0 := 0) HOA.out.1 HOA.out.2.1 HOA.out.2.2 HSA.out hap
        have H1 := hHd he.1
        have H2 := hHd he.2.1
        have H3 := hHd he.2.2
        clear he hap HOA HBL HFV HSA
        go_wp2
        go_roundw
        case rel => exact ⟨j + 1, _, by omega, rfl, by go_num, H1, H2, H3⟩
        case measure => simp [intOf]; omega
       ·have n3 : ((kd' : Int) == 3) = false := beq_eq_false_iff_ne.2 (by omega)
        have HKD : Hid (F0.app (G (Fr.take (j + 1) f)) = Fj.app (.cons t [] (Fo.nil.app (itF q' 0 kf)) .nil)) := hHd (by rw [HKD.out]; unfold dtW kdW; rw [if_neg (show ¬ (⟨nm', kd', ty', lo', hi', ns', mu', mo'⟩ : SpD).kind = 1 from h1), if_neg (show ¬ (⟨nm', kd', ty', lo', hi', ns', mu', mo'⟩ : SpD).kind = 1 from h1), if_neg (show ¬ (⟨nm', kd', ty', lo', hi', ns', mu', mo'⟩ : SpD).kind = 3 from h3)]; rfl)
        clear h1 h3
        have HO6 : Hid (OwnF DataR 57 (wi.alloc (.cells (cN ka (.slice Aj kf.len cj)) 27)) (wi.heap.size + 1) (.slice none 0 0) Fo.nil) := hHd (OwnF.nil _ _)
        have HK6 : Hid (Below (wi.heap.size + 1) (wi.alloc (.cells (cN ka (.slice Aj kf.len cj)) 27)) (wi.alloc (.cells (cN ka (.slice Aj kf.len cj)) 27))) := hHd (Below.refl _ _)
        have HL6 : Hid ((wi.heap.size + 1) ≤ ((wi.alloc (.cells (cN ka (.slice Aj kf.len cj)) 27))).heap.size) := hHd (by simp)
        have HF6 : Hid (Fo.nil.len ≤ 1) := hHd (by decide)
        have HBW6 : Hid (Below w.heap.size w (wi.alloc (.cells (cN ka (.slice Aj kf.len cj)) 27))) := hHd (HBAK.out.trans (HK6.out.mono HBA1.out))
        clear kb0 hx0 hx1
        have HI := hHd (HIQ.out ⟨nm', kd', ty', lo', hi', ns', mu', mo'⟩ (cT nm' kd' ty' lo' hi' ns' mu' mo' B' m' A' q'.len c'').toList ka kf Aj cj (wi.alloc (.cells (cN ka (.slice Aj kf.len cj)) 27)) (HSI.out.1.keep (fun g hg => HBW6.out.block g hg) HBW6.out.size) HSI.out.2.2.2 HSI.out.2.2.1 (HRK.out.1.under HBW6.out (Nat.le_refl _) HBW6.out.size) HRK.out.2.1 HRK.out.2.2.2)
        have hxw := HALL.out (wi.alloc (.cells (cN ka (.slice Aj kf.len cj)) 27)) HK6.out
        have hkw := HKB.out.below HK6.out (Nat.lt_succ_self _)
        obtain ⟨x0, x1, x2, x3, x4, x5, x6, x7, x8⟩ := cl9 hxw.2.1
        obtain ⟨k0, k1, k2, k3, k4, k5⟩ := cl6 hkw
        clear hxw hkw
        go_wp2_with fail
        refine HI.out.mono ?_
        rintro r w7 ⟨v7, rfl, hv7, hb7⟩
        have HV7 := hHd hv7
        have HK7 : Hid (Below (wi.heap.size + 1) (wi.alloc (.cells (cN ka (.slice Aj kf.len cj)) 27)) w7) := hHd (HK6.out.trans (hb7.mono HL6.out))
        have HO7 : Hid (OwnF DataR 57 w7 (wi.heap.size + 1) (Value.slice none 0 0) Fo.nil) := hHd (HO6.out.below stays_R hb7)
        have HLT : Hid (∀ b, ((Value.slice none 0 0)).ownBlock = some b → b < ((wi.alloc (.cells (cN ka (.slice Aj kf.len cj)) 27))).heap.size) := hHd (fun b hb => (HO6.out.lt b hb).2)
        have HS7 : Hid (((wi.alloc (.cells (cN ka (.slice Aj kf.len cj)) 27))).heap.size ≤ w7.heap.size) := hHd hb7.size
        clear hv7 hb7 HI
        clear x0 x1 x2 x3 x4 x5 x6 x7 x8 k0 k1 k2 k3 k4 k5
        go_wp2_with (at_builtin; refine wpList_append_many stays_R one_R Tryz.underlying37 Tryz.infoJ zeroI rfl (.tmp 65) (.tmp 68) rfl rfl (wi.heap.size + 1) ((wi.alloc (.cells (cN ka (.slice Aj kf.len cj)) 27))).heap.size ((Value.slice none 0 0)) v7 (Fo.nil) (itF q' 0 kf) rfl HO7.out rfl HV7.out HLT.out HL6.out ?h1 ?h2 ?h3 ?_)
        case h1 => have := HLN.out; have := HF6.out; omega
        case h2 => have := HLN.out; have := HF6.out; omega
        case h3 => exact Nat.le_trans HL6.out HS7.out
        intro v8 w8 hap
        have HK8 : Hid (Below (wi.heap.size + 1) (wi.alloc (.cells (cN ka (.slice Aj kf.len cj)) 27)) w8) := hHd (HK7.out.trans (hap.below HO7.out (Nat.le_trans HL6.out HS7.out)))
        have HO8 := hHd hap.1
        obtain ⟨A8, c8, h8⟩ := hap.1.shape
        obtain ⟨K8, hK8⟩ : ∃ K, K = Fo.app (Fo.nil) (itF q' 0 kf) := ⟨_, rfl⟩
        rw [← hK8] at h8 HO8 HKD
        obtain ⟨n8, hn8⟩ : ∃ n, n = K8.len := ⟨_, rfl⟩
        rw [← hn8] at h8
        subst h8
        clear hap hn8 hK8
        have hKA : Below (wi.heap.size + 1) (wi.alloc (.cells (cN ka (.slice Aj kf.len cj)) 27)) (w8.alloc (.cells #[.int .u64 (t : Int), .string ⟨#[]⟩, .slice A8 n8 c8] 57)) := HK8.out.alloc (Nat.le_trans (by simp) HK8.out.size) _
        have HOA := hHd (HALL.out (w8.alloc (.cells #[.int .u64 (t : Int), .string ⟨#[]⟩, .slice A8 n8 c8] 57)) hKA)
        have HBL : Hid (Blk (w8.alloc (.cells #[.int .u64 (t : Int), .string ⟨#[]⟩, .slice A8 n8 c8] 57)) w8.heap.size 57 #[.int .u64 (t : Int), .string ⟨#[]⟩, .slice A8 n8 c8]) := hHd (Blk.new _ _ _)
        have HFV : Hid (FV DataR (w8.alloc (.cells #[.int .u64 (t : Int), .string ⟨#[]⟩, .slice A8 n8 c8] 57)) (ItsI (w.heap.size + 1 + 1) (w8.alloc (.cells #[.int .u64 (t : Int), .string ⟨#[]⟩, .slice A8 n8 c8] 57)) u) (.slice A8 n8 c8) K8) := hHd ((HO8.out.fv stays_R).kept stays_R (fun g hg => Below.heap_alloc _ _ _ hg.2) (fun g hg => ⟨by have := hg.1; have := HSZ.out; omega, Nat.lt_of_lt_of_le hg.2 (by simp), fun e => by have := HUB.out g e.symm; have := hg.1; omega⟩))
        have HSA : Hid ((w.heap.size + 1 + 1) ≤ (w8.alloc (.cells #[.int .u64 (t : Int), .string ⟨#[]⟩, .slice A8 n8 c8] 57)).heap.size) := hHd (by
         have h1 := HSZ.out
         have h2 := hKA.size
         have h3 : (wi.alloc (.cells (cN ka (.slice Aj kf.len cj)) 27)).heap.size = (wi.heap.size + 1) := by simp
         omega)
        clear hKA
        go_wp2_with (at_builtin; refine wpList_append_it stays_R one_R Tryz.underlying37 Tryz.infoJ zeroI rfl (.tmp 70) (.tmp 74) rfl rfl (w.heap.size + 1 + 1) u Fj rfl HOA.out.1 w8.heap.size rfl t [] K8 (.string ⟨#[]⟩) (.slice A8 n8 c8) HBL.out HT64.out rfl HFV.out ?h1 ?h2 ?h3 ?_)
        case h1 => have := HLQ.out; omega
        case h2 => have := HLQ.out; omega
        case h3 => exact HSA.out
        intro v9 w9 hap
        rw [show Fj.app (.cons t [] K8 .nil) = F0.app (G (Fr.take (j + 1) f)) from HKD.out.symm] at hap
        have he := rit_end (b0 := 0) HOA.out.1 HOA.out.2.1 HOA.out.2.2 HSA.out hap
        have H1 := hHd he.1
        have H2 := hHd he.2.1
        have H3 := hHd he.2.2
        clear he hap HOA HBL HFV HSA
        go_wp2
        go_roundw
        case rel => exact ⟨j + 1, _, by omega, rfl, by go_num, H1, H2, H3⟩
        case measure => simp [intOf]; omega
     ·rw [if_neg hnm, Fo.app_nil] at hst
      have hq1 : (ka.name == nm') = false := beq_eq_false_iff_ne.2 hnm
      have h9 := HALL.out (wi.alloc (.cells (cN ka (.slice Aj kf.len cj)) 27)) (Below.refl _ _)
      rw [← hst] at h9
      have H1 := hHd h9.1
      have H2 := hHd h9.2.1
      have H3 := hHd h9.2.2
      clear hst h9 hnm
      go_wp2
      go_roundw
      case rel => exact ⟨j + 1, _, by omega, rfl, by go_num, H1, H2, H3⟩
      case measure => simp [intOf]; omega
    ·obtain rfl : j = f.len := by omega
     rw [Fr.take_all] at HOj
     rw [← HST.out] at HOj
     clear hlt2
     go_wp2
     go_roundw
     case rel => exact ⟨p + 1, _, by omega, rfl, by go_num, HOj, HBj⟩
     case measure => simp [intOf]; omega
  ·obtain rfl : p = q.len := by omega
   rw [Fr.take_all] at HO
   have z8 := (HBX.out.1.cell 8).trans rfl
   clear hlt
   go_wp2
   go_ret
   exact ⟨_, rfl, HO.out.mono stays_R (by omega), HBw.out⟩
def memF (x : Nd) (f : NdF) : Prop := ∃ i, f.get? i = some x
theorem mem_cons {x : Nd} {a : NdD} {k r : NdF} : memF x (.cons a k r) ↔ x = (a, k) ∨ memF x r := by
 constructor
 ·rintro ⟨i, hi⟩
  cases i with
  | zero => injection hi with hi; exact .inl hi.symm
  | succ i => exact .inr ⟨i, hi⟩
 ·rintro (rfl | ⟨i, hi⟩)
  ·exact ⟨0, rfl⟩
  ·exact ⟨i + 1, hi⟩
theorem right_coll {g : NdF → Fo} {d : SpD} {i deep : Nat} (hk : d.kind = 1 ∨ d.kind = 3) (hd : deep ≤ 5) (hg : ∀ k, Fo.right (deep + 1) (g k) = true) : ∀ f : NdF, Fo.right deep (collW g d (tgW d i) f) = true := by
 intro f
 induction f with
 | nil => rfl
 | cons a k r _ ih =>
  simp only [collW]
  split
  ·have hdd : decide (deep ≤ 6) = true := decide_eq_true (by omega)
   have hdd2 : decide (deep + 1 ≤ 6) = true := decide_eq_true (by omega)
   rcases hk with h1 | h3
   ·have ht : ¬ tgW d i % 2 = 1 := by unfold tgW; rw [if_pos h1]; omega
    simp only [Fo.right, hdd, if_neg ht, kdW, if_pos h1, ih, Bool.and_true]
    rfl
   ·have h1 : ¬ d.kind = 1 := by omega
    have ht : tgW d i % 2 = 1 := by unfold tgW; rw [if_neg h1]; omega
    have hs : (dtW d a).isEmpty = true := by unfold dtW; rw [if_neg h1]; rfl
    simp only [Fo.right, hdd, if_pos ht, hs, kdW, if_neg h1, if_pos h3, ih, hdd2, hg k, Bool.and_true, Bool.true_and]
    rfl
  ·exact ih
theorem right_it (s : SpF) : ∀ (i deep : Nat) (f : NdF), plB s = true → deep + s.deep ≤ 6 → Fo.right deep (itF s i f) = true := by
 induction s with
 | nil => intro i deep f _ _; rfl
 | cons d k r ihk ihr =>
  intro i deep f hp hd
  simp only [plB, Bool.and_eq_true, Bool.or_eq_true, decide_eq_true_eq] at hp
  simp only [Fr.deep] at hd
  simp only [itF, Fo.right_app, Bool.and_eq_true]
  refine ⟨?_, ihr (i + 1) deep f hp.2 (by omega)⟩
  rcases hp.1.1 with h1 | ⟨h3, hq⟩
  ·-- a leaf has nothing within
   have : ∀ g : NdF → Fo, collW g d (tgW d i) f = collW (fun _ => .nil) d (tgW d i) f := by
    intro g
    induction f with
    | nil => rfl
    | cons a q t _ ih => simp only [collW, kdW, if_pos h1, ih]
   rw [this]
   exact right_coll (.inl h1) (by omega) (fun _ => rfl) f
  ·exact right_coll (.inr h3) (by omega) (fun q => ihk 0 (deep + 1) q hq (by omega)) f
theorem root_deep (v : Int) : 1 + (rootX v).1.2.deep ≤ 6 := by
 unfold rootX
 split
 ·decide
 ·rename_i h
  have h' : v = 1 ∨ v = 2 ∨ v = 3 := by omega
  rcases h' with rfl | rfl | rfl <;> decide
theorem right_items (v : Int) (x : Nd) : Fo.right 1 (ItemsX v x) = true := by
 unfold ItemsX
 split
 ·exact right_it _ 0 1 _ (root_pl v) (root_deep v)
 ·rfl
theorem rway10_any (l : List Stp) (v : Value) (a : NdD) (u : Value) (w : World) (hv : WayV w.heap.size w v l) (hl : l.length ≤ 1000000) :
  Calls Tryz.prog 62 #[v, .agg (cN a u)] w fun r w' => ∃ v', r = .returned v' ∧ OwnS w.heap.size w' v' (l ++ [stp a]) ∧ Below w.heap.size w w' := by
 obtain ⟨A, c, rfl⟩ := hv.shape
 have hx1 : Below w.heap.size w (w.alloc (.cells (cN a u) 27)) := bAl
 obtain ⟨v1, w1, hr1, hown, hb1⟩ := app_way (w.alloc (.cells (cN a u) 27)) (.slice A l.length c) l (hv.below hx1) hl
 obtain ⟨A1, c1, rfl⟩ := hown.shape
 have HB1 : Hid (Below w.heap.size w w1) := hHd (hx1.trans (hb1.mono hx1.size))
 have HOW := hHd (hown.mono hx1.size)
 have HNB := hHd ((Blk.new w 27 (cN a u)).below hb1 (Blk.new w 27 (cN a u)).lt)
 obtain ⟨v2, w2, hr2, hap⟩ := run_append_k (P := Tryz.prog) (ts := 50) Tryz.underlying50 Tryz.cellsSt szeroN (by omega) (w1.alloc (.cells #[.string (txt a.name), .string (txt a.key)] 125)) w.heap.size (.slice A1 l.length c1) l.length (stC l) ((HOW.out.below bAl : OwnS w.heap.size (w1.alloc (.cells #[.string (txt a.name), .string (txt a.key)] 125)) (.slice A1 l.length c1) l)) w1.heap.size [.string (txt a.name), .string (txt a.key)] (Blk.new w1 125 _) rfl (by simp [Value.oneCell']) (by omega) (by omega) (Nat.le_trans HB1.out.size (by simp))
 have HR1 := hHd hr1
 have HR2 := hHd hr2
 have HAP := hHd hap
 clear hx1 hr1 hown hb1 hr2 hap hv
 obtain ⟨q0, q1, q2, q3, q4, q5⟩ := cl6 HNB.out
 go_enter Tryz.func62, Tryz.ntmps62
 go_wp2_with (at_builtin; first | (refine Lib.wpList_append_run _ rfl (.tmp 6) (.tmp 7) 50 50 rfl _ _ rfl rfl _ _ HR1.out ?_) | (refine Lib.wpList_append_run _ rfl (.tmp 9) (.tmp 15) 50 50 rfl _ _ rfl rfl _ _ HR2.out ?_))
 go_ret
 have hst : stC l ++ [.string (txt a.name), .string (txt a.key)] = stC (l ++ [stp a]) := (stC_app l [stp a]).symm
 refine ⟨v2, rfl, ?_, HB1.out.trans (((Below.refl _ _).alloc HB1.out.size _).trans (HAP.out.below (HOW.out.below bAl) (Nat.le_trans HB1.out.size (by simp))))⟩
 have h := HAP.out.1
 rw [hst] at h
 show OwnK 125 2 w2 w.heap.size v2 (l ++ [stp a]).length (stC (l ++ [stp a]))
 rw [List.length_append]
 exact h
end Go.Proofs.YtodlhgflfcadmaaGreat
