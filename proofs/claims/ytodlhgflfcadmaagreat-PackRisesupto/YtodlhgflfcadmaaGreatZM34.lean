/- What PackRises stands on: PakIts, PakByt, Law13A. -/
import Derived.Test.YtodlhgflfcadmaaGreatZM0
import Derived.Test.YtodlhgflfcadmaaGreatZM33
import Derived.Test.YtodlhgflfcadmaaGreatZM29
import Derived.Test.YtodlhgflfcadmaaGreatZM30
import Derived.Test.YtodlhgflfcadmaaGreatZM3
set_option linter.unusedSimpArgs false
set_option linter.unusedVariables false
namespace Go.Proofs.YtodlhgflfcadmaaGreat
open Go.RowKit
theorem coll_any13 (b : Nat) (sd : SpD) (cs : List Value) (q : SpF) (ka : NdD) (kf : NdF) (Aj : Option Addr) (cj ib lb tb t : Nat) (v : Value) (F : Fo) (w : World) (IH : ItemsAt q) (hsp : SpL b w cs (sd, q)) (hn : sd.names.length ≤ 1000000) (hq : SpOk q) (hql : q.len ≤ 1000000) (hrow : RowT b w (.slice Aj kf.len cj) kf) (hb : b ≤ w.heap.size) (hks : kf.size ≤ 1000000) (hok : OkD ka ∧ OkF kf)
  (hib : Blk w ib 61 cs.toArray) (htb : Blk w tb 22 #[.int .u64 (t : Int)]) (hlb : Blk w lb 39 #[v]) (hown : OwnF DataI 48 w (lb + 1) v F) (hF : F.len ≤ 1000000000000) (ht : t < 18446744073709551616) (hil : ib ≠ lb) (htl : tb ≠ lb) :
  Calls Tryz.prog 44 #[.agg (cN ka (.slice Aj kf.len cj)), .pointer (some ⟨ib, 0, none⟩), .pointer (some ⟨lb, 0, none⟩), .pointer (some ⟨tb, 0, none⟩)] w (ColP lb v (F.app (collW (fun x => itF q 0 x) sd t (.cons ka kf .nil))) w) := by
 have hC : ∀ W, Below w.heap.size w W → Calls Tryz.prog 45 #[.agg cs.toArray, .int .u64 (t : Int), .agg (cN ka (.slice Aj kf.len cj))] W (ItmP t (dtW sd ka) (kdW (fun x => itF q 0 x) sd ka kf) W) := fun W hW =>
  itemOf_any t sd cs ka q kf Aj cj W IH (hsp.keep (fun g hg => hW.block g (by omega)) (by have := hW.size; omega)) hn hq hql (hrow.under hW hb (by have := hW.size; omega)) hks hok
 obtain ⟨B, m, A, c, d, rfl, -, -, -⟩ := SpN.shape hsp
 obtain ⟨nm, kd, ty, lo, hi, ns, mu, mo⟩ := sd
 simp only [collW]
 by_cases h : ka.name = nm
 ·rw [if_pos h]
  exact coll_yes nm kd ty lo hi ns mu mo B m A q c ka kf Aj cj ib lb tb t _ _ v F w hib htb hlb hown hF ht hil htl h hC
 ·rw [if_neg h, Fo.app_nil]
  exact coll_not nm kd ty lo hi ns mu mo B m A q c ka kf Aj cj ib lb tb v F w hib hlb hown h
structure ColR (lb : Nat) (csS csN : Array Value) (F : Fo) (w wr : World) : Prop where
 own : ∃ v, Blk wr lb 39 #[v] ∧ OwnF DataI 48 wr (lb + 1) v F
 bel : Below w.heap.size w wr
 s : Blk wr w.heap.size 61 csS
 n : Blk wr (w.heap.size + 1) 27 csN
 lb : lb = w.heap.size + 1 + 1
theorem ColR.below {lb : Nat} {csS csN : Array Value} {F : Fo} {w wr w2 : World} (h : ColR lb csS csN F w wr) (hb : Below wr.heap.size wr w2) : ColR lb csS csN F w w2 := by
 obtain ⟨v, h1, h2⟩ := h.own
 exact ⟨⟨v, h1.below hb h1.lt, h2.below stays_I hb⟩, h.bel.trans (hb.mono h.bel.size), h.s.below hb h.s.lt, h.n.below hb h.n.lt, h.lb⟩
theorem ColR.step {lb ib tb : Nat} {csS csN csI csT : Array Value} {v : Value} {F F' : Fo} {w wr w2 : World} {r : Ending} (h : ColR lb csS csN F w wr) (hlb : Blk wr lb 39 #[v]) (hown : OwnF DataI 48 wr (lb + 1) v F) (hib : Blk wr ib 61 csI) (htb : Blk wr tb 22 csT) (hil : ib ≠ lb) (htl : tb ≠ lb) (hc : ColP lb v F' wr r w2) :
  ColR lb csS csN F' w w2 ∧ Blk w2 ib 61 csI ∧ Blk w2 tb 22 csT := by
 obtain ⟨-, v', h1, h2, h3, h4⟩ := hc
 have hl := h.lb
 have hlo := hown.lt
 refine ⟨⟨⟨v', h1, h2⟩, h.bel.trans (h3.mono (by omega)), h.s.below h3 (by omega), h.n.below h3 (by omega), hl⟩, (h4 ib hib.lt hil (hown.ne hib (by decide))).trans hib, (h4 tb htb.lt htl (hown.ne htb (by decide))).trans htb⟩
theorem take_kid {α : Type} {f : Fr α} {j : Nat} {a : α} {k : Fr α} (h : f.get? j = some (a, k)) : Fr.take (j + 1) f = (Fr.take j f).app (.cons a k .nil) := (Fr.get_drop h).2
theorem it_step {q : SpF} {p : Nat} {d : SpD} {s : SpF} {f : NdF} (h : q.get? p = some (d, s)) : itF (Fr.take (p + 1) q) 0 f = (itF (Fr.take p q) 0 f).app (collW (fun x => itF s 0 x) d (tgW d p) f) := by
 have hp := Fr.get_lt h
 rw [take_kid h, it_app, Fr.len_take p q (by omega), Nat.zero_add]
 simp only [itF, Fo.app_nil]
theorem it_take_len (q : SpF) (f : NdF) (p : Nat) (hp : p ≤ q.len) (hq : q.len ≤ 1000000) (hf : f.len ≤ 1000000) : (itF (Fr.take p q) 0 f).len ≤ p * 1000000 := by
 have h := it_len (Fr.take p q) f 0
 rw [Fr.len_take p q hp] at h
 exact Nat.le_trans h (Nat.mul_le_mul_left p hf)
set_option maxRecDepth 100000 in
set_option maxHeartbeats 8000000 in
theorem itemsOf_any (q : SpF) : ItemsAt q := by
 refine Fr.byKids (P := ItemsAt) ?_ q
 clear q
 intro q IH sd cs a f Ak ck w hsp hq hql hrow hks hok
 have hsp0 := hsp
 obtain ⟨B, m, A, c, d, rfl, hv, -, hkv⟩ := SpN.shape hsp
 obtain ⟨nm, kd, ty, lo, hi, ns, mu, mo⟩ := sd
 have hfl : f.len ≤ 1000000 := Nat.le_trans f.len_size hks
 have hmf : ∀ (fn : Fn) (first cap : Array Value) (w : World), (Instr.makeFunc fn first cap).run Tryz.prog w = .ok (.func fn first cap) w := fun _ _ _ _ => rfl
 have hb3 : Below w.heap.size w (((w.alloc (.cells (cS (txt nm) kd ty lo hi (.slice B ns.length m) mu mo (.slice A q.len c)) 61)).alloc (.cells (cN a (.slice Ak f.len ck)) 27)).alloc (.cells #[.slice none 0 0] 39)) := (((Below.refl _ _).alloc (Nat.le_refl _) _).alloc (by simp) _).alloc (by simp; omega) _
 have HR0 : Hid (ColR (w.heap.size + 1 + 1) (cS (txt nm) kd ty lo hi (.slice B ns.length m) mu mo (.slice A q.len c)) (cN a (.slice Ak f.len ck)) .nil w (((w.alloc (.cells (cS (txt nm) kd ty lo hi (.slice B ns.length m) mu mo (.slice A q.len c)) 61)).alloc (.cells (cN a (.slice Ak f.len ck)) 27)).alloc (.cells #[.slice none 0 0] 39))) := Lib.hid ⟨⟨_, Blk.newA (w := (w.alloc (.cells (cS (txt nm) kd ty lo hi (.slice B ns.length m) mu mo (.slice A q.len c)) 61)).alloc (.cells (cN a (.slice Ak f.len ck)) 27)) (by simp) _ _, OwnF.nil _ _⟩, hb3, ((Blk.new w 61 (cS (txt nm) kd ty lo hi (.slice B ns.length m) mu mo (.slice A q.len c))).alloc _).alloc _, (Blk.newA (w := w.alloc (.cells (cS (txt nm) kd ty lo hi (.slice B ns.length m) mu mo (.slice A q.len c)) 61)) (by simp) _ _).alloc _, rfl⟩
 have y8 := (HR0.out.s.cell 8).trans rfl
 have HSP := Lib.hid (And.intro hsp0 hkv)
 have HQ := Lib.hid (And.intro hq (And.intro hql hfl))
 have HF := Lib.hid (And.intro hrow (And.intro hks hok))
 have HIH := Lib.hid IH
 clear hsp hsp0 hv hkv hq hrow hks hok IH hb3
 go_enter Tryz.func26, Tryz.ntmps26
 go_wp2
 go_loopw [15] (fun i wr => ∃ p : Nat, p ≤ q.len ∧ i = .int .i64 (p : Int) ∧ Hid (ColR (w.heap.size + 1 + 1) (cS (txt nm) kd ty lo hi (.slice B ns.length m) mu mo (.slice A q.len c)) (cN a (.slice Ak f.len ck)) (itF (Fr.take p q) 0 f) w wr)) (fun i _ => q.len - (intOf i).toNat)
 case atStart => exact ⟨0, Nat.zero_le _, rfl, HR0⟩
 case round =>
  obtain ⟨p, hp, rfl, HR⟩ := hrel
  obtain ⟨wo, hwo⟩ : ∃ wo, wo = wr := ⟨_, rfl⟩
  subst hwo
  clear y8 HR0
  by_cases hlt : p < q.len
  ·obtain ⟨⟨nm', kd', ty', lo', hi', ns', mu', mo'⟩, q', hg⟩ : ∃ d s, q.get? p = some (d, s) := Fr.get_some hlt
   obtain ⟨gb, go_, cr, cs', ev, hcr, hSg, hN, hcl⟩ := HSP.out.2.at hg
   injection ev with e1 e2 e3
   subst e3
   obtain ⟨B', m', A', c'', d', rfl, hv', hN', hk'⟩ := SpN.shape (x := (⟨nm', kd', ty', lo', hi', ns', mu', mo'⟩, q')) hN
   have hsi : SpL w.heap.size w (cS (txt nm') kd' ty' lo' hi' (.slice B' ns'.length m') mu' mo' (.slice A' q'.len c'')).toList (⟨nm', kd', ty', lo', hi', ns', mu', mo'⟩, q') := hN
   have hqok := HQ.out.1.at hg
   have hbw := HR.out.bel
   have HIQ := Lib.hid (HIH.out p _ _ hg)
   have hcw : ∀ j u, (cS (txt nm') kd' ty' lo' hi' (.slice B' ns'.length m') mu' mo' (.slice A' q'.len c'')).toList[j]? = some u → wo.cell? ⟨gb, go_ + p * 9 + j, none⟩ = some u := fun j u hu => (hbw.cell (p := ⟨gb, go_ + p * 9 + j, none⟩) hSg).trans (hcl j u hu)
   have htg : tagX q (p : Int) = tgW ⟨nm', kd', ty', lo', hi', ns', mu', mo'⟩ p := tag_in hg
   obtain ⟨t, ht⟩ : ∃ t, t = tgW ⟨nm', kd', ty', lo', hi', ns', mu', mo'⟩ p := ⟨_, rfl⟩
   have hspw : ∀ W, Below wo.heap.size wo W → SpL w.heap.size W ((cS (txt nm) kd ty lo hi (.slice B ns.length m) mu mo (.slice A q.len c)) : Array Value).toList (⟨nm, kd, ty, lo, hi, ns, mu, mo⟩, q) := fun W hW => HSP.out.1.keep (fun g hg => ((hbw.trans (hW.mono hbw.size))).block g hg) (Nat.le_refl _)
   have HNM := Lib.hid (named13_any w.heap.size (w.heap.size + 1 + 1) p t 0 gb go_ 0 nm kd ty lo hi ns mu mo B m A q.len c nm' kd' ty' lo' hi' ns' mu' mo' B' m' A' q' c'' wo HR.out.s e1 (Nat.lt_of_lt_of_le hSg hbw.size) hlt hcr hcw (fun W hW => by
    rw [ht, ← htg]
    exact tag_any (p : Int) _ _ _ (⟨nm, kd, ty, lo, hi, ns, mu, mo⟩, q) W (by omega) (by have := HQ.out.2.1; omega) (hspw W hW) (fun g hg => Nat.lt_of_lt_of_le hg (hbw.trans (hW.mono hbw.size)).size) HQ.out.2.1))
   have HST : Hid (itF (Fr.take (p + 1) q) 0 f = (itF (Fr.take p q) 0 f).app (collW (fun x => itF q' 0 x) ⟨nm', kd', ty', lo', hi', ns', mu', mo'⟩ t f)) := Lib.hid (by rw [ht]; exact it_step hg)
   obtain ⟨F0, hF0⟩ : ∃ F, F = itF (Fr.take p q) 0 f := ⟨_, rfl⟩
   have hF0l : F0.len + 1000000 ≤ 1000000000000 := by
    rw [hF0]
    have h1 := it_take_len q f p hp HQ.out.2.1 HQ.out.2.2
    have h2 := HQ.out.2.1
    have h3 : p * 1000000 + 1000000 ≤ 1000000 * 1000000 := by omega
    omega
   have HFL := Lib.hid hF0l
   have HT64 : Hid (t < 18446744073709551616) := Lib.hid (by rw [ht]; unfold tgW; have := HQ.out.2.1; split <;> omega)
   rw [← hF0] at HR HST
   have HSI := Lib.hid (And.intro hsi hqok)
   have i1 : (0 : Int) ≤ (p : Int) := by omega
   have i2 : (p : Int) < (q.len : Int) := by omega
   clear hN hcl hv' hN' hk' hsi hqok hcw htg ht hspw hF0 hF0l hg e1 e2 hSg hcr hbw hlt HIH HSP
   go_wp2_with fail
   refine HNM.out.mono ?_
   rintro r w2 ⟨ib, tb, rfl, hib, htb, hib2, htb2, hb2⟩
   have HR2 := Lib.hid (HR.out.below hb2)
   have hl1 : (w.heap.size + 1 + 1) < wo.heap.size := by obtain ⟨v, h, _⟩ := HR.out.own; exact h.lt
   have HNB : Hid (ib ≠ (w.heap.size + 1 + 1) ∧ tb ≠ (w.heap.size + 1 + 1)) := Lib.hid ⟨by omega, by omega⟩
   have HIB := Lib.hid (And.intro hib htb)
   have p5 := (HR2.out.n.cell 5).trans rfl
   clear hib htb hib2 htb2 hb2 HNM hl1
   go_wp2
   obtain ⟨G, hG⟩ : ∃ G : NdF → Fo, G = collW (fun x => itF q' 0 x) ⟨nm', kd', ty', lo', hi', ns', mu', mo'⟩ t := ⟨_, rfl⟩
   rw [← hG] at HST
   have HG := Lib.hid hG
   clear hG
   go_loopw [24] (fun i wr => ∃ j : Nat, j ≤ f.len ∧ i = .int .i64 (j : Int) ∧ Hid (ColR (w.heap.size + 1 + 1) (cS (txt nm) kd ty lo hi (.slice B ns.length m) mu mo (.slice A q.len c)) (cN a (.slice Ak f.len ck)) (F0.app (G (Fr.take j f))) w wr) ∧ Hid (Blk wr ib 61 (cS (txt nm') kd' ty' lo' hi' (.slice B' ns'.length m') mu' mo' (.slice A' q'.len c'')) ∧ Blk wr tb 22 #[.int .u64 (t : Int)])) (fun i _ => f.len - (intOf i).toNat)
   case atStart => exact ⟨0, Nat.zero_le _, rfl, (by rw [HG.out, show Fr.take 0 f = .nil from rfl]; simp only [collW, Fo.app_nil]; exact HR2), HIB⟩
   case round =>
    obtain ⟨j, hj, rfl, HRj, HIj⟩ := hrel
    by_cases hlt2 : j < f.len
    ·obtain ⟨ka, kf, hgk⟩ := Fr.get_some hlt2
     have hbj := HRj.out.bel
     obtain ⟨gk, gok, Aj, cj, rfl, -, hck, hgk2, hrk, hclk⟩ := HF.out.1.at hgk
     have hokk := HF.out.2.2.at hgk
     have hszk : kf.size ≤ 1000000 := by have h1 := Fr.size_get hgk; have h2 := HF.out.2.1; omega
     have c0 : wr.cell? ⟨gk, gok + j * 6, none⟩ = _ := (hbj.cell (p := ⟨gk, gok + j * 6 + 0, none⟩) hgk2).trans (hclk 0 _ rfl)
     have c1 := (hbj.cell (p := ⟨gk, gok + j * 6 + 1, none⟩) hgk2).trans (hclk 1 _ rfl)
     have c2 := (hbj.cell (p := ⟨gk, gok + j * 6 + 2, none⟩) hgk2).trans (hclk 2 _ rfl)
     have c3 := (hbj.cell (p := ⟨gk, gok + j * 6 + 3, none⟩) hgk2).trans (hclk 3 _ rfl)
     have c4 := (hbj.cell (p := ⟨gk, gok + j * 6 + 4, none⟩) hgk2).trans (hclk 4 _ rfl)
     have c5 := (hbj.cell (p := ⟨gk, gok + j * 6 + 5, none⟩) hgk2).trans (hclk 5 _ rfl)
     have hal : Below wr.heap.size wr (wr.alloc (.cells (cN ka (.slice Aj kf.len cj)) 27)) := (Below.refl _ _).alloc (Nat.le_refl _) _
     have hK := Blk.new wr 27 (cN ka (.slice Aj kf.len cj))
     have k0 := (hK.cell 0).trans rfl
     have k1 := (hK.cell 1).trans rfl
     have k2 := (hK.cell 2).trans rfl
     have k3 := (hK.cell 3).trans rfl
     have k4 := (hK.cell 4).trans rfl
     have k5 := (hK.cell 5).trans rfl
     have hRA := HRj.out.below hal
     obtain ⟨v, hv1, hv2⟩ := hRA.own
     have hIA := And.intro (HIj.out.1.below hal HIj.out.1.lt) (HIj.out.2.below hal HIj.out.2.lt)
     have HLQ : Hid ((F0.app (G (Fr.take j f))).len ≤ 1000000000000) := Lib.hid (by
      rw [Fo.len_app, HG.out]
      have h1 := coll_len (fun x => itF q' 0 x) ⟨nm', kd', ty', lo', hi', ns', mu', mo'⟩ t (Fr.take j f)
      rw [Fr.len_take j f hj] at h1
      have := HFL.out
      omega)
     have hC := coll_any13 w.heap.size ⟨nm', kd', ty', lo', hi', ns', mu', mo'⟩ (cS (txt nm') kd' ty' lo' hi' (.slice B' ns'.length m') mu' mo' (.slice A' q'.len c'')).toList q' ka kf Aj cj ib (w.heap.size + 1 + 1) tb t v _ (wr.alloc (.cells (cN ka (.slice Aj kf.len cj)) 27)) HIQ.out (HSI.out.1.keep (fun g hg => hRA.bel.block g hg) (Nat.le_refl _)) HSI.out.2.1 HSI.out.2.2.2 HSI.out.2.2.1 (hrk.under hRA.bel (Nat.le_refl _) (Nat.le_refl _)) hRA.bel.size hszk hokk hIA.1 hIA.2 hv1 hv2 HLQ.out HT64.out HNB.out.1 HNB.out.2
     have HC := Lib.hid hC
     have HSTP : Hid (∀ r w2, ColP (w.heap.size + 1 + 1) v ((F0.app (G (Fr.take j f))).app (G (.cons ka kf .nil))) (wr.alloc (.cells (cN ka (.slice Aj kf.len cj)) 27)) r w2 → ColR (w.heap.size + 1 + 1) (cS (txt nm) kd ty lo hi (.slice B ns.length m) mu mo (.slice A q.len c)) (cN a (.slice (some ⟨gk, gok, none⟩) f.len ck)) (F0.app (G (Fr.take (j + 1) f))) w w2 ∧ Blk w2 ib 61 (cS (txt nm') kd' ty' lo' hi' (.slice B' ns'.length m') mu' mo' (.slice A' q'.len c'')) ∧ Blk w2 tb 22 #[.int .u64 (t : Int)]) := Lib.hid (fun r w2 h => by
      have h2 := hRA.step hv1 hv2 hIA.1 hIA.2 HNB.out.1 HNB.out.2 h
      rw [Fo.app_assoc] at h2
      rw [take_kid hgk]
      rw [HG.out, coll_app, ← HG.out]
      exact h2)
     rw [← HG.out] at HC
     have k1' : (0 : Int) ≤ (j : Int) := by omega
     have k2' : (j : Int) < (f.len : Int) := by omega
     clear hal hK hRA hv1 hv2 hIA hC hbj hrk hclk hgk2 hokk hszk hgk hck
     go_wp2_with fail
     refine HC.out.mono ?_
     intro r w5 hp
     obtain ⟨hr5, hib5⟩ := HSTP.out r w5 hp
     obtain ⟨rfl, -⟩ := hp
     have HR5 := Lib.hid hr5
     have HI5 := Lib.hid hib5
     clear hr5 hib5 HC HSTP k0 k1 k2 k3 k4 k5 c0 c1 c2 c3 c4 c5
     go_wp2
     go_roundw
     case rel => exact ⟨j + 1, by omega, by go_num, HR5, HI5⟩
     case measure => simp [intOf]; omega
    ·obtain rfl : j = f.len := by omega
     rw [Fr.take_all] at HRj
     rw [← HST.out] at HRj
     clear HIj hlt2
     go_wp2
     go_roundw
     case rel => exact ⟨p + 1, by omega, by go_num, HRj⟩
     case measure => simp [intOf]; omega
  ·obtain rfl : p = q.len := by omega
   obtain ⟨v, h1, h2⟩ := HR.out.own
   rw [Fr.take_all] at h2
   have HV := Lib.hid h2
   have HB := Lib.hid HR.out.bel
   have lq := (h1.cell 0).trans rfl
   clear h1 h2 HR
   go_wp2
   go_ret
   exact ⟨v, rfl, HV.out.mono stays_I (by omega), HB.out⟩
end Go.Proofs.YtodlhgflfcadmaaGreat
namespace Go.Proofs.YtodlhgflfcadmaaGreat
open Go.RowKit
theorem ItsP.from {F : Fo} {w W : World} {r : Ending} {w' : World} (h : ItsP F W r w') (hb : Below w.heap.size w W) : ItsP F w r w' := by
 obtain ⟨v, h1, h2, h3⟩ := h
 exact ⟨v, h1, h2.mono stays_I hb.size, hb.trans (h3.mono hb.size)⟩
set_option maxRecDepth 100000 in
set_option maxHeartbeats 4000000 in
theorem vitems_any (v : Int) (a : NdD) (f : NdF) (A : Option Addr) (c : Nat) (w : World) (hrow : RowT w.heap.size w (.slice A f.len c) f) (hf : f.size ≤ 1000000) (hok : OkF f) :
  Calls Tryz.prog 13 #[.int .i64 v, .agg (cN a (.slice A f.len c))] w (ItsP (ItemsX v (a, f)) w) := by
 have hal : Below w.heap.size w (w.alloc (.cells (cN a (.slice A f.len c)) 27)) := (Below.refl _ _).alloc (Nat.le_refl _) _
 have HN := Lib.hid (Blk.new w 27 (cN a (.slice A f.len c)))
 have HB := Lib.hid hal
 have HR := Lib.hid (And.intro hrow (And.intro hf hok))
 have HM := Lib.hid (vmay_any v a f A c (w.alloc (.cells (cN a (.slice A f.len c)) 27)) (hrow.below hal) hf hok)
 have HX : Hid (ItemsX v (a, f) = if MayX v (a, f) = true then itF (rootX v).1.2 0 f else .nil) := Lib.hid rfl
 obtain ⟨F, hF⟩ : ∃ F, F = ItemsX v (a, f) := ⟨_, rfl⟩
 rw [← hF] at HX ⊢
 obtain ⟨mb, hmb⟩ : ∃ b, b = MayX v (a, f) := ⟨_, rfl⟩
 rw [← hmb] at HM HX
 have p0 := (HN.out.cell 0).trans rfl
 have p1 := (HN.out.cell 1).trans rfl
 have p2 := (HN.out.cell 2).trans rfl
 have p3 := (HN.out.cell 3).trans rfl
 have p4 := (HN.out.cell 4).trans rfl
 have p5 := (HN.out.cell 5).trans rfl
 clear hal hrow hf hok hF hmb
 go_enter Tryz.func13, Tryz.ntmps13
 go_wp2_with fail
 refine HM.out.mono ?_
 rintro r w2 ⟨rfl, hb2⟩
 have HB2 := Lib.hid (HB.out.trans (hb2.mono HB.out.size))
 have HN2 := Lib.hid (HN.out.below hb2 HN.out.lt)
 clear hb2 p0 p1 p2 p3 p4 p5
 cases mb with
 | false =>
  have HE : Hid (F = .nil) := Lib.hid (by rw [HX.out]; rfl)
  obtain rfl := HE.out
  go_wp2
  go_ret
  exact ⟨_, rfl, OwnF.nil _ _, HB2.out⟩
 | true =>
  have HE : Hid (F = itF (rootX v).1.2 0 f) := Lib.hid (by rw [HX.out]; rfl)
  clear HX
  have HRT := Lib.hid (root_any v w2)
  have HRO := Lib.hid (root_ok v)
  obtain ⟨rx, hrx⟩ : ∃ rx, rx = rootX v := ⟨_, rfl⟩
  rw [← hrx] at HRT HRO HE
  clear hrx
  obtain ⟨⟨⟨nm, kd, ty, lo, hi, ns, mu, mo⟩, sf⟩, er⟩ := rx
  go_wp2_with fail
  refine HRT.out.mono ?_
  rintro r w3 ⟨cs, rfl, hnew, hb3⟩
  have hsl := newSp_l hnew
  obtain ⟨B0, m0, A0, c0, d0, rfl, -, -, -⟩ := SpN.shape (x := (⟨nm, kd, ty, lo, hi, ns, mu, mo⟩, sf)) hsl
  have hb4 : Below w3.heap.size w3 (w3.alloc (.cells (cS (txt nm) kd ty lo hi (.slice B0 ns.length m0) mu mo (.slice A0 sf.len c0)) 61)) := (Below.refl _ _).alloc (Nat.le_refl _) _
  have HB4 := Lib.hid ((HB2.out.trans (hb3.mono HB2.out.size)).trans (hb4.mono (HB2.out.trans (hb3.mono HB2.out.size)).size))
  have HN4 := Lib.hid ((HN2.out.below hb3 HN2.out.lt).below hb4 (Nat.lt_of_lt_of_le HN2.out.lt hb3.size))
  have HI := Lib.hid (itemsOf_any sf ⟨nm, kd, ty, lo, hi, ns, mu, mo⟩ (cS (txt nm) kd ty lo hi (.slice B0 ns.length m0) mu mo (.slice A0 sf.len c0)).toList a f A c (w3.alloc (.cells (cS (txt nm) kd ty lo hi (.slice B0 ns.length m0) mu mo (.slice A0 sf.len c0)) 61)) (hsl.keep (fun g hg => hb4.block g hg) hb4.size) HRO.out.1 HRO.out.2 (HR.out.1.below HB4.out) HR.out.2.1 HR.out.2.2)
  have HRB := Lib.hid (Blk.new w3 61 (cS (txt nm) kd ty lo hi (.slice B0 ns.length m0) mu mo (.slice A0 sf.len c0)))
  have q0 := (HRB.out.cell 0).trans rfl
  have q1 := (HRB.out.cell 1).trans rfl
  have q2 := (HRB.out.cell 2).trans rfl
  have q3 := (HRB.out.cell 3).trans rfl
  have q4 := (HRB.out.cell 4).trans rfl
  have q5 := (HRB.out.cell 5).trans rfl
  have q6 := (HRB.out.cell 6).trans rfl
  have q7 := (HRB.out.cell 7).trans rfl
  have q8 := (HRB.out.cell 8).trans rfl
  have p0 := (HN4.out.cell 0).trans rfl
  have p1 := (HN4.out.cell 1).trans rfl
  have p2 := (HN4.out.cell 2).trans rfl
  have p3 := (HN4.out.cell 3).trans rfl
  have p4 := (HN4.out.cell 4).trans rfl
  have p5 := (HN4.out.cell 5).trans rfl
  clear hnew hb3 hsl hb4 HRT
  go_wp2_with fail
  refine HI.out.mono ?_
  intro r w5 hp
  obtain ⟨u, rfl, hu⟩ := hp.from HB4.out
  have HU := Lib.hid hu
  clear hp hu q0 q1 q2 q3 q4 q5 q6 q7 q8 p0 p1 p2 p3 p4 p5
  go_wp2
  go_ret
  refine ⟨u, rfl, ?_⟩
  rw [HE.out]
  exact HU.out
def EncW (ver : Nat) (F : Fo) (w : World) (r : Ending) (w' : World) : Prop := ∃ u, r = .returned (.tuple #[u, .int .i64 (if F.all.length ≤ 8192 then 0 else 14)]) ∧ Own w' w.heap.size u (if F.all.length ≤ 8192 then encV 9 ver ++ F.all else []) ∧ Below w.heap.size w w'
set_option maxRecDepth 100000 in
set_option maxHeartbeats 4000000 in
theorem encoded_any (ver : Nat) (F : Fo) (v : Value) (w : World) (hv : FV DataI w (Lo w) v F) (hsz : F.sz ≤ 1099511627776) (hc : F.cnt ≤ 60000) (hr : Fo.right 1 F = true) (hver : ver ≤ 9223372036854775807) :
  Calls Tryz.prog 20 #[.int .i64 (ver : Int), v] w (EncW ver F w) := by
 have HS : Hid (Calls Tryz.prog 31 #[v] w (fun r w' => r = .returned (.int .i64 (F.all.length : Int)) ∧ Below w.heap.size w w')) := Lib.hid (size_cnt F w v hv hsz hc)
 have HV := Lib.hid hv
 have HSZ := Lib.hid hsz
 have HVL := Lib.hid (encV_length 9 ver).2
 have hal : F.all.length ≤ 22000000000000 := by have := F.all_le; omega
 have HAL := Lib.hid hal
 have i1 : (0 : Int) ≤ (ver : Int) := by omega
 have i2 : (ver : Int) ≤ 9223372036854775807 := by omega
 have HVV : Hid (ver < 18446744073709551616) := Lib.hid (by omega)
 unfold EncW
 obtain ⟨A, c, rfl⟩ := hv.shape
 by_cases h : F.all.length ≤ 8192
 ·have ho : F.ok = true := by unfold Fo.ok; rw [hr, decide_eq_true h]; rfl
  rw [if_pos h, if_pos h]
  have HP : Hid (∀ (W : World), Below w.heap.size w W → Calls Tryz.prog 32 #[.slice A F.len c] W (fun r w' => ∃ v, r = .returned (.tuple #[v, .int .i64 0]) ∧ Own w' W.heap.size v F.all ∧ Below W.heap.size W w')) := Lib.hid (fun W hW => (putC F W _ (HV.out.kept stays_I (fun g hg => hW.block g hg) (fun _ hg => Nat.lt_of_lt_of_le hg hW.size)) HSZ.out).mono (fun r w' h => by
   unfold PutP at h
   rw [if_pos ho, if_pos ho] at h
   exact h))
  have HW : Hid (∀ W, Calls Tryz.prog 33 #[.int .u64 (ver : Int)] W (PutOwn ver W)) := Lib.hid (fun W => put_own ver HVV.out W)
  obtain ⟨L, hL⟩ : ∃ L, L = F.all := ⟨_, rfl⟩
  rw [← hL] at HS HP h HAL ⊢
  have g1 : ¬ (8192 : Int) < (L.length : Int) := by omega
  obtain ⟨n, hn⟩ : ∃ n, n = L.length := ⟨_, rfl⟩
  have g2 : ¬ (8192 : Int) < (n : Int) := by rw [hn]; exact g1
  rw [← hn] at HS
  obtain ⟨E, hE⟩ : ∃ E, E = encV 9 ver := ⟨_, rfl⟩
  rw [← hE] at HVL ⊢
  have HE := Lib.hid hE
  have HL := Lib.hid hL
  clear hv hsz hc hr ho h hL g1 hn hE hal hver
  go_enter Tryz.func20, Tryz.ntmps20
  go_wp2_with fail
  refine HS.out.mono ?_
  rintro r w2 ⟨rfl, hb2⟩
  have HB2 := Lib.hid hb2
  clear hb2
  go_wp2_with fail
  refine (HP.out _ HB2.out).mono ?_
  rintro r w3 ⟨v3, rfl, ho3, hb3⟩
  have HB3 := Lib.hid (HB2.out.trans (hb3.mono HB2.out.size))
  have HO3 := Lib.hid (ho3.rd' (by have := HAL.out; omega))
  clear hb3 ho3
  go_wp2_with fail
  refine (HW.out _).mono ?_
  rintro r w4 ⟨v4, rfl, ho4, hb4⟩
  have HB4 := Lib.hid (HB3.out.trans (hb4.mono HB3.out.size))
  obtain ⟨d3, -, hr3⟩ := HO3.out
  have HR4 := Lib.hid (hr3.below' hb4)
  rw [← HE.out] at ho4
  have HO4 := Lib.hid (World.ownsRow.mono ho4 HB3.out.size)
  clear ho4 hb4 hr3 HO3
  go_wp2_with (at_builtin; refine wpList_append_rd rfl (.tmp 21) (.tmp 22) rfl rfl w.heap.size _ E rfl HO4.out _ _ L rfl HR4.out ?h1 ?h2 ?_)
  case h1 => have := HVL.out; have := HAL.out; omega
  case h2 => exact HB4.out.size
  intro v5 w5 hap
  have HB5 := Lib.hid (HB4.out.trans (hap.below HO4.out HB4.out.size))
  have HO5 := Lib.hid hap.1
  clear hap
  go_wp2
  go_ret2
  exact ⟨v5, rfl, HO5.out, HB5.out⟩
 ·rw [if_neg h, if_neg h]
  obtain ⟨n, hn⟩ : ∃ n, n = F.all.length := ⟨_, rfl⟩
  have g2 : (8192 : Int) < (n : Int) := by omega
  rw [← hn] at HS
  clear hv hsz hc hr h hn hal hver
  go_enter Tryz.func20, Tryz.ntmps20
  go_wp2_with fail
  refine HS.out.mono ?_
  rintro r w2 ⟨rfl, hb2⟩
  have HB2 := Lib.hid hb2
  clear hb2
  go_wp2
  go_ret2
  exact ⟨_, rfl, Own.nil _ _, HB2.out⟩
def BytW (v : Int) (ver : Nat) (x : Nd) (w : World) (r : Ending) (w' : World) : Prop := if (CheckX v x).1 = 0 then EncW ver (ItemsX v x) w r w' else r = .returned (.tuple #[.slice none 0 0, .int .i64 ((CheckX v x).1 : Int)]) ∧ Below w.heap.size w w'
theorem EncW.from {ver : Nat} {F : Fo} {w W : World} {r : Ending} {w' : World} (h : EncW ver F W r w') (hb : Below w.heap.size w W) : EncW ver F w r w' := by
 obtain ⟨u, h1, h2, h3⟩ := h
 exact ⟨u, h1, World.ownsRow.mono h2 hb.size, hb.trans (h3.mono hb.size)⟩
theorem may_ver {v : Int} {x : Nd} (h : (CheckX v x).1 = 0) : 1 ≤ v ∧ v ≤ 3 := by
 unfold CheckX rootX at h
 by_cases hv : v < 1 ∨ 3 < v
 ·rw [if_pos hv] at h; cases h
 ·omega
set_option maxRecDepth 100000 in
set_option maxHeartbeats 4000000 in
theorem vbytes_any (v : Int) (ver : Nat) (a : NdD) (f : NdF) (A : Option Addr) (c : Nat) (w : World) (hrow : RowT w.heap.size w (.slice A f.len c) f) (hf : f.size ≤ 1000000) (hok : OkF f)
  (hF : (CheckX v (a, f)).1 = 0 → (ItemsX v (a, f)).sz ≤ 1099511627776 ∧ (ItemsX v (a, f)).cnt ≤ 60000 ∧ Fo.right 1 (ItemsX v (a, f)) = true ∧ v = (ver : Int)) :
  Calls Tryz.prog 9 #[.int .i64 v, .agg (cN a (.slice A f.len c))] w (BytW v ver (a, f) w) := by
 have hal : Below w.heap.size w (w.alloc (.cells (cN a (.slice A f.len c)) 27)) := (Below.refl _ _).alloc (Nat.le_refl _) _
 have HN := Lib.hid (Blk.new w 27 (cN a (.slice A f.len c)))
 have HB := Lib.hid hal
 have HC := Lib.hid (vcheck_any v a f A c (w.alloc (.cells (cN a (.slice A f.len c)) 27)) (hrow.below hal) hf hok)
 have HIT : Hid (∀ W, Below w.heap.size w W → Calls Tryz.prog 13 #[.int .i64 v, .agg (cN a (.slice A f.len c))] W (ItsP (ItemsX v (a, f)) W)) := Lib.hid (fun W hW => vitems_any v a f A c W (hrow.below hW) hf hok)
 have HFF := Lib.hid hF
 have hmv := @may_ver v (a, f)
 unfold BytW
 obtain ⟨⟨er, way⟩, hb⟩ : ∃ b, b = CheckX v (a, f) := ⟨_, rfl⟩
 rw [← hb] at HC HFF hmv ⊢
 simp only at HFF hmv ⊢
 obtain ⟨F, hFe⟩ : ∃ F, F = ItemsX v (a, f) := ⟨_, rfl⟩
 rw [← hFe] at HIT HFF ⊢
 have p0 := (HN.out.cell 0).trans rfl
 have p1 := (HN.out.cell 1).trans rfl
 have p2 := (HN.out.cell 2).trans rfl
 have p3 := (HN.out.cell 3).trans rfl
 have p4 := (HN.out.cell 4).trans rfl
 have p5 := (HN.out.cell 5).trans rfl
 clear hal hrow hf hok hF hb hFe
 by_cases he : er = 0
 ·subst he
  obtain ⟨s1, s2, s3, rfl⟩ := HFF.out rfl
  have hv3 := hmv rfl
  have HSS := Lib.hid (And.intro s1 (And.intro s2 (And.intro s3 hv3)))
  clear s1 s2 s3 hmv HFF hv3
  have key : Calls Tryz.prog 9 #[.int .i64 (ver : Int), .agg (cN a (.slice A f.len c))] w (EncW ver F w) := by
   go_enter Tryz.func9, Tryz.ntmps9
   go_wp2_with fail
   refine HC.out.mono ?_
   rintro r w2 ⟨v2, rfl, hv2, hb2⟩
   have HB2 := Lib.hid (HB.out.trans (hb2.mono HB.out.size))
   have HN2 := Lib.hid (HN.out.below hb2 HN.out.lt)
   obtain ⟨A2, c2, rfl⟩ := hv2.shape
   clear hb2 hv2 p0 p1 p2 p3 p4 p5
   have p0 := (HN2.out.cell 0).trans rfl
   have p1 := (HN2.out.cell 1).trans rfl
   have p2 := (HN2.out.cell 2).trans rfl
   have p3 := (HN2.out.cell 3).trans rfl
   have p4 := (HN2.out.cell 4).trans rfl
   have p5 := (HN2.out.cell 5).trans rfl
   go_wp2_with fail
   refine (HIT.out _ HB2.out).mono ?_
   intro r w3 hp
   obtain ⟨u3, rfl, hu3, hb3⟩ := hp
   have HB3 := Lib.hid (HB2.out.trans (hb3.mono HB2.out.size))
   have hfv : FV DataI w3 (Lo w3) u3 F := (hu3.fv stays_I).kept stays_I (fun _ _ => rfl) (fun _ hg => hg.2)
   have HE := Lib.hid (encoded_any ver F u3 w3 hfv HSS.out.1 HSS.out.2.1 HSS.out.2.2.1 (by have := HSS.out.2.2.2; omega))
   clear hb3 hu3 hfv p0 p1 p2 p3 p4 p5
   go_wp2_with fail
   refine HE.out.mono ?_
   intro r w4 hp4
   obtain ⟨u4, hr4, ho4, hb4⟩ := hp4.from HB3.out
   generalize hec : (if F.all.length ≤ 8192 then (0 : Int) else 14) = ec at hr4
   subst hr4
   have HEC := Lib.hid hec
   clear hec
   have HO4 := Lib.hid (And.intro ho4 hb4)
   clear hp4 ho4 hb4
   go_wp2
   go_ret2
   exact ⟨u4, by rw [HEC.out]; rfl, HO4.out.1, HO4.out.2⟩
  exact key.mono (fun r w' h => by rw [if_pos rfl]; exact h)
 ·have key : Calls Tryz.prog 9 #[.int .i64 v, .agg (cN a (.slice A f.len c))] w (fun r w' => r = .returned (.tuple #[.slice none 0 0, .int .i64 (er : Int)]) ∧ Below w.heap.size w w') := by
   have n1 : ((er : Int) != 0) = true := by rw [bne_iff_ne]; omega
   have n2 : ((er : Int) == 0) = false := beq_eq_false_iff_ne.2 (by omega)
   clear HIT HFF hmv he
   go_enter Tryz.func9, Tryz.ntmps9
   go_wp2_with fail
   refine HC.out.mono ?_
   rintro r w2 ⟨v2, rfl, hv2, hb2⟩
   have HB2 := Lib.hid (HB.out.trans (hb2.mono HB.out.size))
   obtain ⟨A2, c2, rfl⟩ := hv2.shape
   clear hb2 hv2 p0 p1 p2 p3 p4 p5
   go_wp2
   go_ret2
   exact ⟨rfl, HB2.out⟩
  exact key.mono (fun r w' h => by rw [if_neg he]; exact h)
end Go.Proofs.YtodlhgflfcadmaaGreat
namespace Go.Proofs.YtodlhgflfcadmaaGreat
open Go.RowKit
set_option maxRecDepth 100000 in
set_option maxHeartbeats 1000000 in
theorem small13_any (a : NdD) (f : NdF) (A : Option Addr) (c : Nat) (w : World) (hk : RowT w.heap.size w (.slice A f.len c) f) (hf : f.size ≤ 1000000) :
  Calls Tryz.prog 8 #[.agg (cN a (.slice A f.len c))] w (Ans9 (.bool (decide (f.size + 1 ≤ 300))) w) := by
 have hB : Below w.heap.size w (w.alloc (.cells (cN a (.slice A f.len c)) 27)) := (Below.refl _ _).alloc (Nat.le_refl _) _
 obtain ⟨z, hz⟩ : ∃ z, z = f.size + 1 := ⟨_, rfl⟩
 have HC : Hid (Calls Tryz.prog 18 #[.agg (cN a (.slice A f.len c))] (w.alloc (.cells (cN a (.slice A f.len c)) 27)) (Ans9 (.int .i64 (z : Int)) (w.alloc (.cells (cN a (.slice A f.len c)) 27)))) := Lib.hid (by
  rw [hz]; exact rsizef_any f a A c _ (hk.under hB (Nat.le_refl _) hB.size) hf)
 have HB := Lib.hid hB
 have HV : Hid (decide ((z : Int) ≤ 300) = decide (f.size + 1 ≤ 300)) := Lib.hid (by rw [hz, Bool.eq_iff_iff]; simp; omega)
 clear hB hk hf hz
 go_enter Tryz.func8, Tryz.ntmps8
 go_wp2_with fail
 refine HC.out.mono ?_
 rintro r w2 ⟨rfl, hb⟩
 have HB2 := Lib.hid (HB.out.trans (hb.mono HB.out.size))
 clear hb
 go_wp2
 go_ret
 exact ⟨congrArg (fun b => Ending.returned (Value.bool b)) HV.out, HB2.out⟩
theorem ris_at : ∀ {f : Fo} {j : Nat} {t : Nat} {d : List UInt8} {k r : Fo}, risB f = true → Fo.drop j f = .cons t d k r → begB t k = true ∧ risB k = true ∧ (0 < j → ∃ t' d' k', Fo.drop (j - 1) f = .cons t' d' k' (.cons t d k r) ∧ begB t' k' = true ∧ linkB t' k' (.cons t d k r) = true) := by
 intro f
 induction f with
 | nil => intro j t d k r _ h; cases j <;> simp [Fo.drop] at h
 | cons t0 d0 k0 r0 _ ih =>
  intro j t d k r hr h
  simp only [risB, Bool.and_eq_true] at hr
  cases j with
  | zero =>
   injection h with e1 e2 e3 e4
   subst e1 e2 e3 e4
   exact ⟨hr.1.1.1, hr.1.1.2, fun h => absurd h (by omega)⟩
  | succ j =>
   have h' : Fo.drop j r0 = .cons t d k r := h
   obtain ⟨g1, g2, g3⟩ := ih hr.2 h'
   refine ⟨g1, g2, fun _ => ?_⟩
   cases j with
   | zero =>
    have h'' : r0 = .cons t d k r := h'
    subst h''
    exact ⟨t0, d0, k0, rfl, hr.1.1.1, hr.1.2⟩
   | succ j => exact g3 (by omega)
def RisAt (f : Fo) : Prop := ∀ (w : World) (v : Value), FV DataI w (Lo w) v f → f.cnt ≤ 1000000000000 → risB f = true → Calls Tryz.prog 17 #[v] w (Ans9 (.bool true) w)
def wgW : SpF → Nat
 | .nil => 0
 | .cons _ s r => (2 + wgW s) + wgW r
theorem cnt_coll (g : NdF → Fo) (d : SpD) (tag m : Nat) (hg : ∀ k, (g k).cnt ≤ m * k.size) (f : NdF) : (collW g d tag f).cnt ≤ (2 + m) * f.size := by
 induction f with
 | nil => exact Nat.zero_le _
 | cons a k r _ ih =>
  have h2 : (2 + m) * (k.size + r.size + 1) = (2 + m) * k.size + (2 + m) * r.size + (2 + m) := by rw [Nat.mul_add, Nat.mul_add, Nat.mul_one]
  have h3 : (2 + m) * k.size = 2 * k.size + m * k.size := Nat.add_mul _ _ _
  have h4 := hg k
  simp only [collW, Fr.size]
  split
  ·have h5 : (kdW g d a k).cnt ≤ 1 + m * k.size := by
    unfold kdW
    split
    ·exact Nat.zero_le _
    ·split
     ·simp only [Fo.cnt]; omega
     ·omega
   simp only [Fo.cnt]
   omega
  ·omega
theorem cnt_it (s : SpF) : ∀ (i : Nat) (f : NdF), (itF s i f).cnt ≤ wgW s * f.size := by
 induction s with
 | nil => intro i f; simp [itF, Fo.cnt]
 | cons d k r ihk ihr =>
  intro i f
  simp only [itF, Fo.cnt_app, wgW, Nat.add_mul (2 + wgW k)]
  have h1 := cnt_coll (fun x => itF k 0 x) d (tgW d i) (wgW k) (fun x => ihk 0 x) f
  have h2 := ihr (i + 1) f
  omega
theorem wg_root (v : Int) : wgW (rootX v).1.2 ≤ 100 := by
 unfold rootX
 split
 ·decide
 ·rename_i h
  have h' : v = 1 ∨ v = 2 ∨ v = 3 := by omega
  rcases h' with rfl | rfl | rfl <;> decide
theorem cnt_items (v : Int) (x : Nd) : (ItemsX v x).cnt ≤ 100 * x.2.size := by
 unfold ItemsX
 split
 ·exact Nat.le_trans (cnt_it _ 0 x.2) (Nat.mul_le_mul_right _ (wg_root v))
 ·exact Nat.zero_le _
end Go.Proofs.YtodlhgflfcadmaaGreat
