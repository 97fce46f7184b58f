/- What PackParts stands on: TlvFnC, TlvPlain, TlvSame, TlvCheck, TlvSpec, TlvFnD. -/
import Derived.Test.YtodlhgflfcadmaaGreatPM33
import Derived.Test.YtodlhgflfcadmaaGreatPM15
import Derived.Test.YtodlhgflfcadmaaGreatPM32
import Derived.Test.YtodlhgflfcadmaaGreatPM1
import Derived.Test.YtodlhgflfcadmaaGreatPM0
import Derived.Test.YtodlhgflfcadmaaGreatPM3
import Derived.Test.YtodlhgflfcadmaaGreatPM5
import Derived.Test.YtodlhgflfcadmaaGreatPM14
import Derived.Deep.DrawnRows
import Derived.Outline
import Derived.WalkLawsBesides
import Derived.Laws.EntriesVeiled
set_option linter.unusedSimpArgs false
set_option linter.unusedVariables false
set_option maxRecDepth 100000
set_option maxHeartbeats 8000000
namespace Go.Proofs.YtodlhgflfcadmaaGreat
open Go.RowKit
def SelfS (w : World) (sb cb : Nat) : Prop := Blk w sb 97 #[.func (.func 54) #[] #[.pointer (some ⟨cb, 0, none⟩), .pointer (some ⟨sb, 0, none⟩)]]
def SizeP (f : Fo) (c0 cb : Nat) (w : World) (r : Ending) (w' : World) : Prop :=
 r = .returned (.int .i64 (f.all.length : Int)) ∧ w.grownBy w' (some cb) ∧ ∃ q, q ≤ c0 + f.cnt ∧ Blk w' cb 3 #[.int .i64 (q : Int)]
def SizeAt (k : Fo) : Prop := ∀ (w : World) (v : Value) (B cb sb deep c0 : Nat) (dI : Int), FV DataI w (Lt B) v k → k.sz ≤ 1099511627776 → deep + k.cnt ≤ 65537 → c0 + k.cnt ≤ 100000 → dI = (deep : Int) → B ≤ cb → B ≤ sb → B ≤ w.heap.size → cb ≠ sb →
  Blk w cb 3 #[.int .i64 (c0 : Int)] → SelfS w sb cb →
  Calls Tryz.prog 54 #[v, .int .i64 dI, .pointer (some ⟨cb, 0, none⟩), .pointer (some ⟨sb, 0, none⟩)] w (SizeP k c0 cb w)
theorem len_at (x : Nat) (xI : Int) (L : Nat) (w : World) (h : x < 18446744073709551616) (e : xI = (x : Int)) (hL : L = (encV 9 x).length) :
  Calls Tryz.prog 56 #[.int .u64 xI] w fun r w' => r = .returned (.int .i64 (L : Int)) ∧ Below w.heap.size w w' := by
 subst e hL
 exact len_any x h w
theorem size1_any (f : Fo) : SizeAt f := by
 refine Fo.byKids (P := SizeAt) ?_ f
 clear f
 intro f hkids w v B cb sb deep c0 dI hv hsz hd hc0 hdI hBc hBs hBw hne hblk hself
 subst hdI
 obtain ⟨A, c, rfl⟩ := hv.shape
 have hws := f.wt_le_sz
 have hlw := f.len_le_wt
 have hal := f.all_le
 have hlen40 : f.len ≤ 1099511627776 := by omega
 have hall : f.all.length ≤ 22000000000000 := by omega
 have HK : Hid (Fo.kidsAll SizeAt f) := hHd hkids
 clear hkids hws hlw hal
 go_enter Tryz.func54, Tryz.ntmps54
 go_wp2
 go_loopw [7, 13] (fun u i wr => ∃ (j q S : Nat), j ≤ f.len ∧ i = .int .i64 (j : Int) ∧ u = .int .i64 (S : Int) ∧ S ≤ 22000000000000 ∧ q ≤ 100000 ∧ Hid (q ≤ c0 + (Fo.take j f).cnt) ∧ Hid (S = (Fo.take j f).all.length) ∧ Hid (Blk wr cb 3 #[.int .i64 (q : Int)]) ∧ Hid (w.grownBy wr (some cb))) (fun _ i _ => f.len - (intOf i).toNat)
 case atStart => exact ⟨0, c0, 0, Nat.zero_le _, rfl, rfl, by omega, by omega, hHd (Nat.le_refl _), hHd rfl, hHd hblk, hHd (World.grownBy.refl _ _)⟩
 case round =>
  obtain ⟨j, q, S, hj, rfl, rfl, hS13, hq4, HQ, HS, HB, HG⟩ := hrel
  by_cases hlt : j < f.len
  ·obtain ⟨b, o, c', t, d, k, hve, hcap, hS, hdr, htk, ht64, hk0, ⟨dv, hk1, db, hdv, hdS⟩, ⟨kv, hk2, hkv⟩⟩ := hv.at hlt
   injection hve with e1 e2 e3
   subst e1 e3
   have hSb : b < B := hS
   obtain ⟨A1, c1, rfl⟩ : ∃ D cd, dv = .slice D d.length cd := by obtain ⟨D, cd, e, _⟩ := hdv; exact ⟨D, cd, e⟩
   have hdl := hdv.len
   obtain ⟨A2, c2, rfl⟩ := hkv.shape
   have hG := HG.out
   have hne0 : b ≠ cb := by omega
   have hcw := hblk.lt
   have z1 := hG.size
   have hC0 : wr.cell? ⟨b, o + j * 3, none⟩ = some (.int .u64 (t : Int)) := hG.cell hk0 (by simpa using hne0)
   have hC1 : wr.cell? ⟨b, o + j * 3 + 1, none⟩ = some (.slice A1 d.length c1) := hG.cell hk1 (by simpa using hne0)
   have hC2 : wr.cell? ⟨b, o + j * 3 + 2, none⟩ = some (.slice A2 k.len c2) := hG.cell hk2 (by simpa using hne0)
   have hdrop : (Fo.drop j f).sz ≤ f.sz := by
    have h := Fo.sz_app (Fo.take j f) (Fo.drop j f)
    rw [Fo.take_app_drop] at h
    omega
   rw [hdr] at hdrop
   simp only [Fo.sz] at hdrop
   have hIH : SizeAt k := by
    have h := Fo.kidsAll_drop j HK.out
    rw [hdr] at h
    exact h.1
   have hks40 : k.sz ≤ 1099511627776 := by omega
   have hct : (Fo.take (j + 1) f).cnt = (Fo.take j f).cnt + (1 + k.cnt) := by rw [htk, Fo.cnt_app]; simp [Fo.cnt]
   have hcl := Fo.cnt_take_le (j + 1) f
   have hcq : q + 1 + k.cnt ≤ c0 + f.cnt := by have := HQ.out; omega
   have hck : k.cnt + 1 ≤ f.cnt := by omega
   have i1 : (0 : Int) ≤ (j : Int) := by omega
   have i2 : (j : Int) < (f.len : Int) := by omega
   obtain ⟨I, hI⟩ : ∃ I, I = (Fo.inn t d k.all).length := ⟨_, rfl⟩
   obtain ⟨L1, hL1⟩ : ∃ L1, L1 = (encV 9 t).length := ⟨_, rfl⟩
   obtain ⟨L2, hL2⟩ : ∃ L2, L2 = (encV 9 I).length := ⟨_, rfl⟩
   obtain ⟨S', hS'⟩ : ∃ S', S' = S + (L1 + L2 + I) := ⟨_, rfl⟩
   have hSt : S' = (Fo.take (j + 1) f).all.length := by rw [Fo.all_take j htk, hS', HS.out, hL1, hL2, hI]; simp only [List.length_append]
   have hSl : S' ≤ f.all.length := by rw [hSt]; exact Fo.all_take_le _ _
   have hI13 : I ≤ 22000000000000 := by omega
   have hL13 : L1 ≤ 22000000000000 := by omega
   have hL23 : L2 ≤ 22000000000000 := by omega
   have hS13' : S' ≤ 22000000000000 := by omega
   have hI64 : I < 18446744073709551616 := by omega
   have HKV := hHd hkv
   have HIH := hHd hIH
   have HCT := hHd hct
   have HNE := hHd hne
   have HT64 := hHd ht64
   have HI64 := hHd hI64
   have HL1 := hHd hL1
   have HL2 := hHd hL2
   have HS' := hHd hS'
   have HST := hHd hSt
   have hbc := HB.out.cell 0
   have hcc : (wr.alloc (.cells #[.int .u64 (t : Int), .slice A1 d.length c1, .slice A2 k.len c2] 48)).cell? ⟨cb, 0, none⟩ = some (.int .i64 (q : Int)) := by rw [(HB.out.alloc _).cell]; rfl
   have hcf : (wr.alloc (.cells #[.int .u64 (t : Int), .slice A1 d.length c1, .slice A2 k.len c2] 48)).frozen? ⟨cb, 0, none⟩ = false := (HB.out.alloc _).frozen 0
   have HBA : Hid (Blk ((wr.alloc (.cells #[.int .u64 (t : Int), .slice A1 d.length c1, .slice A2 k.len c2] 48)).setCell ⟨cb, 0, none⟩ (.int .i64 ((q : Int) + 1))) cb 3 #[.int .i64 ((q : Int) + 1)]) := hHd ((HB.out.alloc _).set_ 0 _)
   have HGA : Hid (w.grownBy ((wr.alloc (.cells #[.int .u64 (t : Int), .slice A1 d.length c1, .slice A2 k.len c2] 48)).setCell ⟨cb, 0, none⟩ (.int .i64 ((q : Int) + 1))) (some cb)) := hHd ((grown_alloc hG _).trans (grown_set _))
   have HIA : Hid (Blk ((wr.alloc (.cells #[.int .u64 (t : Int), .slice A1 d.length c1, .slice A2 k.len c2] 48)).setCell ⟨cb, 0, none⟩ (.int .i64 ((q : Int) + 1))) wr.heap.size 48 #[.int .u64 (t : Int), .slice A1 d.length c1, .slice A2 k.len c2]) := hHd ((Blk.new wr _ _).far (by show wr.heap.size ≠ cb; omega) _)
   have hd1 : decide ((2147483647 : Int) < (q : Int) + 1) = false := decide_eq_false (by omega)
   have hd2 : decide ((65536 : Int) < (deep : Int)) = false := decide_eq_false (by omega)
   have x1 : ((wr.alloc (.cells #[.int .u64 (t : Int), .slice A1 d.length c1, .slice A2 k.len c2] 48)).setCell ⟨cb, 0, none⟩ (.int .i64 ((q : Int) + 1))).cell? ⟨cb, 0, none⟩ = some (.int .i64 ((q : Int) + 1)) := by rw [HBA.out.cell]; rfl
   have y0 : ((wr.alloc (.cells #[.int .u64 (t : Int), .slice A1 d.length c1, .slice A2 k.len c2] 48)).setCell ⟨cb, 0, none⟩ (.int .i64 ((q : Int) + 1))).cell? ⟨wr.heap.size, 0, none⟩ = some (.int .u64 (t : Int)) := by rw [HIA.out.cell]; rfl
   have y1 : ((wr.alloc (.cells #[.int .u64 (t : Int), .slice A1 d.length c1, .slice A2 k.len c2] 48)).setCell ⟨cb, 0, none⟩ (.int .i64 ((q : Int) + 1))).cell? ⟨wr.heap.size, 1, none⟩ = some (.slice A1 d.length c1) := by rw [HIA.out.cell]; rfl
   have y2 : ((wr.alloc (.cells #[.int .u64 (t : Int), .slice A1 d.length c1, .slice A2 k.len c2] 48)).setCell ⟨cb, 0, none⟩ (.int .i64 ((q : Int) + 1))).cell? ⟨wr.heap.size, 2, none⟩ = some (.slice A2 k.len c2) := by rw [HIA.out.cell]; rfl
   have HI := hHd hI
   clear hIH hkv hdr htk hk0 hk1 hk2 e2 hS hdrop hsz hdv hdS ht64 hne hne0 HK hct hcl hI hL1 hL2 hS' hSt hSl hI64 hbc hG hblk
   by_cases hodd : t % 2 = 1
   ·have HIk : Hid (I = k.all.length) := hHd (by have h := HI.out; rw [h]; unfold Fo.inn; rw [if_pos hodd])
    have HC := hHd (fun w => nests_yes t (.slice A1 d.length c1) (.slice A2 k.len c2) w hodd)
    clear hodd HI
    go_wp2_with fail
    refine (HC.out _).mono ?_
    rintro r w1 ⟨rfl, hb1⟩
    have HB1 : Hid (Blk w1 cb 3 #[.int .i64 ((q + 1 : Nat) : Int)]) := hHd (HBA.out.below hb1 HBA.out.lt)
    have HI1 : Hid (Blk w1 wr.heap.size 48 #[.int .u64 (t : Int), .slice A1 d.length c1, .slice A2 k.len c2]) := hHd (HIA.out.below hb1 HIA.out.lt)
    have HG1 : Hid (w.grownBy w1 (some cb)) := hHd (grown_below HGA.out hb1)
    have z3 := HG1.out.size
    have hself1 : SelfS w1 sb cb := hself.grown HG1.out (by intro h; injection h with h; exact HNE.out h.symm)
    have hkv1 : FV DataI w1 (Lt B) (.slice A2 k.len c2) k := HKV.out.kept stays_I (fun g hg => HG1.out.block g (by have : g < B := hg; omega) (by have : g < B := hg; simp; omega)) (fun _ h => h)
    have HII := hHd (HIH.out w1 (.slice A2 k.len c2) B cb sb (deep + 1) (q + 1) ((deep : Int) + 1) hkv1 hks40 (by omega) (by omega) (by omega) hBc hBs (by omega) HNE.out HB1.out hself1)
    have s1 : w1.cell? ⟨sb, 0, none⟩ = some (.func (.func 54) #[] #[.pointer (some ⟨cb, 0, none⟩), .pointer (some ⟨sb, 0, none⟩)]) := by rw [hself1.cell]; rfl
    have v2 : w1.cell? ⟨wr.heap.size, 2, none⟩ = some (.slice A2 k.len c2) := by rw [HI1.out.cell]; rfl
    clear hb1 hself1 hkv1 hcc hcf x1 y0 y1 y2 hC0 hC1 hC2 HBA HIA HGA
    go_wp2_with fail
    refine HII.out.mono ?_
    rintro r w2 ⟨rfl, hg2, QQ, hQQ, hq2⟩
    rw [← HIk.out]
    have HBX : Hid (Blk w2 cb 3 #[.int .i64 ((QQ : Nat) : Int)]) := hHd hq2
    have HGX : Hid (w.grownBy w2 (some cb)) := hHd (HG1.out.trans hg2)
    have v0 : w2.cell? ⟨wr.heap.size, 0, none⟩ = some (.int .u64 (t : Int)) := hg2.cell (by rw [HI1.out.cell]; rfl) (by simp; omega)
    clear hg2 hq2 s1 v2 HG1 HI1 HB1
    go_wp2_with fail
    refine (len_at t _ L1 _ HT64.out rfl HL1.out).mono ?_
    rintro r w3 ⟨rfl, hb3⟩
    go_wp2_with fail
    refine (len_at I _ L2 _ HI64.out rfl HL2.out).mono ?_
    rintro r w4 ⟨rfl, hb4⟩
    have HB4 : Hid (Blk w4 cb 3 #[.int .i64 ((QQ : Nat) : Int)]) := hHd ((HBX.out.below hb3 HBX.out.lt).below hb4 (Nat.lt_of_lt_of_le HBX.out.lt hb3.size))
    have HG4 : Hid (w.grownBy w4 (some cb)) := hHd (grown_below (grown_below HGX.out hb3) hb4)
    clear hb3 hb4
    go_wp2
    go_roundw
    case rel => exact ⟨j + 1, QQ, S', by omega, by go_num, by (show Value.int .i64 _ = Value.int .i64 _; congr 1; have := HS'.out; omega), hS13', by omega, hHd (by have := HCT.out; have := HQ.out; omega), HST, HB4, HG4⟩
    case measure => simp [intOf]; omega
   ·have HIk : Hid (I = d.length) := hHd (by have h := HI.out; rw [h]; unfold Fo.inn; rw [if_neg hodd])
    obtain rfl : I = d.length := HIk.out
    have HC := hHd (fun w => nests_no t (.slice A1 d.length c1) (.slice A2 k.len c2) w hodd)
    clear hodd HI HIk
    go_wp2_with fail
    refine (HC.out _).mono ?_
    rintro r w1 ⟨rfl, hb1⟩
    have HBX : Hid (Blk w1 cb 3 #[.int .i64 ((q + 1 : Nat) : Int)]) := hHd (HBA.out.below hb1 HBA.out.lt)
    have v0 : w1.cell? ⟨wr.heap.size, 0, none⟩ = some (.int .u64 (t : Int)) := by rw [(HIA.out.below hb1 HIA.out.lt).cell]; rfl
    have HGX : Hid (w.grownBy w1 (some cb)) := hHd (grown_below HGA.out hb1)
    obtain ⟨QQ, hQQ⟩ : ∃ QQ, QQ = q + 1 := ⟨_, rfl⟩
    rw [← hQQ] at HBX
    have hQQ : QQ ≤ q + 1 + k.cnt := by omega
    clear hb1 hcc hcf x1 y0 y1 y2 hC0 hC1 hC2 HBA HIA HGA
    go_wp2_with fail
    refine (len_at t _ L1 _ HT64.out rfl HL1.out).mono ?_
    rintro r w3 ⟨rfl, hb3⟩
    go_wp2_with fail
    refine (len_at d.length _ L2 _ HI64.out rfl HL2.out).mono ?_
    rintro r w4 ⟨rfl, hb4⟩
    have HB4 : Hid (Blk w4 cb 3 #[.int .i64 ((QQ : Nat) : Int)]) := hHd ((HBX.out.below hb3 HBX.out.lt).below hb4 (Nat.lt_of_lt_of_le HBX.out.lt hb3.size))
    have HG4 : Hid (w.grownBy w4 (some cb)) := hHd (grown_below (grown_below HGX.out hb3) hb4)
    clear hb3 hb4
    go_wp2
    go_roundw
    case rel => exact ⟨j + 1, QQ, S', by omega, by go_num, by (show Value.int .i64 _ = Value.int .i64 _; congr 1; have := HS'.out; omega), hS13', by omega, hHd (by have := HCT.out; have := HQ.out; omega), HST, HB4, HG4⟩
    case measure => simp [intOf]; omega
  ·obtain rfl : j = f.len := by omega
   have hSe : S = f.all.length := by rw [HS.out, Fo.take_all]
   subst hSe
   have HQ' : Hid (q ≤ c0 + f.cnt) := hHd (by have h := HQ.out; rwa [Fo.take_all] at h)
   clear hlt
   go_wp2
   go_ret
   exact ⟨rfl, HG.out, q, HQ'.out, HB.out⟩
section
attribute [local go_sem ↓] Go.wp_at_zero Go.wp_at_succ
theorem Tryz.infoJ : (Tryz.prog.info? 57).map (fun i => (i.zero, i.size, i.bytes)) = some (some (.agg #[.int .u64 0, .string ⟨#[]⟩, .slice none 0 0]), 3, 48) := by kernel_rfl
theorem zeroI : (Value.agg #[.int .u64 0, .string ⟨#[]⟩, .slice none 0 0]).cells.size = 3 := by kernel_rfl
theorem Rd.keepS {w w' : World} {db B : Nat} {v : Value} {d : List UInt8} (h : Rd w db v d) (hs : 0 < d.length → db < B) (hb : Below B w w') : Rd w' db v d := by
 by_cases h0 : 0 < d.length
 ·exact h.heap (hb.block db (hs h0))
 ·have hd : d = [] := List.eq_nil_of_length_eq_zero (by omega)
  subst hd
  obtain ⟨A, c, rfl, h1, h2, _⟩ := h
  exact ⟨A, c, rfl, h1, h2, fun h => absurd h (by simp)⟩
def PlainPost (f : Fo) (w : World) (r : Ending) (w' : World) : Prop := ∃ v, r = .returned v ∧ FV DataR w' (MineI w.heap.size w') v f ∧ Below w.heap.size w w'
end
section
attribute [local go_sem ↓] Go.wp_at_zero Go.wp_at_succ
def SamePost (a b : Fo) (w : World) (r : Ending) (w' : World) : Prop := r = .returned (.bool (decide (a = b))) ∧ Below w.heap.size w w'
theorem Fo.same_step {a b : Fo} {j t t' : Nat} {d d' : List UInt8} {k k' : Fo} (h1 : Fo.take (j + 1) a = (Fo.take j a).app (.cons t d k .nil)) (h2 : Fo.take (j + 1) b = (Fo.take j b).app (.cons t' d' k' .nil)) (h : Fo.take j a = Fo.take j b) (ht : t = t') (hd : d = d') (hk : k = k') : Fo.take (j + 1) a = Fo.take (j + 1) b := by
 subst ht hd hk
 rw [h1, h2, h]
theorem Fo.same_not {a b : Fo} {j t t' : Nat} {d d' : List UInt8} {k k' : Fo} (h1 : Fo.drop j a = .cons t d k (Fo.drop (j + 1) a)) (h2 : Fo.drop j b = .cons t' d' k' (Fo.drop (j + 1) b)) (h : ¬ (t = t' ∧ d = d' ∧ k = k')) : decide (a = b) = false := by
 refine decide_eq_false (fun e => h ?_)
 subst e
 rw [h1] at h2
 injection h2 with e1 e2 e3
 exact ⟨e1, e2, e3⟩
theorem same_any (a : Fo) : ∀ (b : Fo) (w : World) (va vb : Value), FV DataR w (Lo w) va a → FV DataR w (Lo w) vb b → a.sz ≤ 1099511627776 → Calls Tryz.prog 11 #[va, vb] w (SamePost a b w) := by
 refine Fo.byKids (P := fun a => ∀ (b : Fo) (w : World) (va vb : Value), FV DataR w (Lo w) va a → FV DataR w (Lo w) vb b → a.sz ≤ 1099511627776 → Calls Tryz.prog 11 #[va, vb] w (SamePost a b w)) ?_ a
 clear a
 intro a hkids b w va vb hva hvb hsz
 obtain ⟨A, c, rfl⟩ := hva.shape
 obtain ⟨A', c', rfl⟩ := hvb.shape
 have hws := a.wt_le_sz
 have hlw := a.len_le_wt
 have hlen40 : a.len ≤ 1099511627776 := by omega
 have HK : Hid (Fo.kidsAll (fun a => ∀ (b : Fo) (w : World) (va vb : Value), FV DataR w (Lo w) va a → FV DataR w (Lo w) vb b → a.sz ≤ 1099511627776 → Calls Tryz.prog 11 #[va, vb] w (SamePost a b w)) a) := hHd hkids
 clear hkids hws hlw
 by_cases hll : a.len = b.len
 ·have hlb : ((a.len : Int) == (b.len : Int)) = true := by rw [hll]; simp
  have hlb2 : ((a.len : Int) != (b.len : Int)) = false := by rw [hll]; simp
  have hle : a.len ≤ b.len := by omega
  have hge : b.len ≤ a.len := by omega
  clear hll
  go_enter Tryz.func11, Tryz.ntmps11
  go_wp2
  go_loopw [5] (fun i wr => ∃ (j : Nat), j ≤ a.len ∧ i = .int .i64 (j : Int) ∧ Hid (Fo.take j a = Fo.take j b) ∧ Below w.heap.size w wr) (fun i _ => a.len - (intOf i).toNat)
  case atStart => exact ⟨0, Nat.zero_le _, rfl, hHd rfl, Below.refl _ _⟩
  case round =>
   obtain ⟨j, hj, rfl, HT, hB⟩ := hrel
   by_cases hlt : j < a.len
   ·obtain ⟨g, o, c1', t, d, k, hve, hcap, hS, hdr, htk, ht64, hc0, ⟨dv, hc1, hdv⟩, ⟨kv, hc2, hkv⟩⟩ := hva.at hlt
    obtain ⟨g', o', c2', t', d', k', hve', hcap', hS', hdr', htk', ht64', hc0', ⟨dv', hc1', hdv'⟩, ⟨kv', hc2', hkv'⟩⟩ := hvb.at (show j < b.len by omega)
    injection hve with e1 e2 e3
    injection hve' with e4 e5 e6
    subst e1 e3 e4 e6
    have hSb : g < w.heap.size := hS
    have hSb' : g' < w.heap.size := hS'
    have hdv1 : dv = .string (txt d) := hdv
    have hdv2 : dv' = .string (txt d') := hdv'
    subst hdv1 hdv2
    have hdrop : (Fo.drop j a).sz ≤ a.sz := by
     have h := Fo.sz_app (Fo.take j a) (Fo.drop j a)
     rw [Fo.take_app_drop] at h
     omega
    rw [hdr] at hdrop
    simp only [Fo.sz] at hdrop
    have hIH := Fo.kidsAll_drop j HK.out
    rw [hdr] at hIH
    have hBd := hB.drew
    have hks40 : k.sz ≤ 1099511627776 := by omega
    have hkv2 : FV DataR wr.drew (Lo wr.drew) kv k := hkv.kept stays_R (fun g hg => hBd.block g hg) (fun _ hg => Nat.lt_of_lt_of_le hg hBd.size)
    have hkv3 : FV DataR wr.drew (Lo wr.drew) kv' k' := hkv'.kept stays_R (fun g hg => hBd.block g hg) (fun _ hg => Nat.lt_of_lt_of_le hg hBd.size)
    have HI := hHd (hIH.1 k' wr.drew kv kv' hkv2 hkv3 hks40)
    have HNOT : Hid (¬ (t = t' ∧ d = d' ∧ k = k') → decide (a = b) = false) := hHd (Fo.same_not hdr hdr')
    have HSTEP : Hid (t = t' → d = d' → k = k' → Fo.take (j + 1) a = Fo.take (j + 1) b) := hHd (Fo.same_step htk htk' HT.out)
    have i1 : (0 : Int) ≤ (j : Int) := by omega
    have i2 : (j : Int) < (a.len : Int) := by omega
    have i3 : (j : Int) < (b.len : Int) := by omega
    have q0 : wr.drew.cell? ⟨g, o + j * 3, none⟩ = some (.int .u64 (t : Int)) := (hBd.cell (p := ⟨g, o + j * 3, none⟩) hSb).trans hc0
    have q1 : wr.drew.cell? ⟨g, o + j * 3 + 1, none⟩ = some (.string (txt d)) := (hBd.cell (p := ⟨g, o + j * 3 + 1, none⟩) hSb).trans hc1
    have q2 : wr.drew.cell? ⟨g, o + j * 3 + 2, none⟩ = some kv := (hBd.cell (p := ⟨g, o + j * 3 + 2, none⟩) hSb).trans hc2
    have q3 : wr.drew.cell? ⟨g', o' + j * 3, none⟩ = some (.int .u64 (t' : Int)) := (hBd.cell (p := ⟨g', o' + j * 3, none⟩) hSb').trans hc0'
    have q4 : wr.drew.cell? ⟨g', o' + j * 3 + 1, none⟩ = some (.string (txt d')) := (hBd.cell (p := ⟨g', o' + j * 3 + 1, none⟩) hSb').trans hc1'
    have q5 : wr.drew.cell? ⟨g', o' + j * 3 + 2, none⟩ = some kv' := (hBd.cell (p := ⟨g', o' + j * 3 + 2, none⟩) hSb').trans hc2'
    clear hIH hkv hkv' hkv2 hkv3 hdr hdr' htk htk' hc0 hc1 hc2 hc0' hc1' hc2' e2 e5 hS hS' hdrop hsz hdv hdv' ht64 ht64'
    go_wp2_with fail
    refine wp_region_noPanic ?_
    refine wp_region_held_drew (S := fun _ => True) (by kernel_rfl) trivial (fun hS => ?_)
    refine tkH 0 hS ?_
    refine tkH 1 hS ?_
    refine tkH 2 hS ?_
    refine tkH 3 hS ?_
    refine held_more (S' := fun w' => w'.cell? ⟨g, o + j * 3 + 2, none⟩ = some kv ∧ w'.cell? ⟨g', o' + j * 3 + 2, none⟩ = some kv') (fun _ _ => trivial) _ _ _ _ ?_
    replace hS := And.intro q2 q5
    refine tkH 4 hS ?_ (hy := fun w hSw => by have hc := hSw.1; (go_simp <;> with_reducible rfl))
    refine tkH 5 hS ?_
    refine tkH 6 hS ?_
    refine tkH 7 hS ?_
    refine tkH 8 hS ?_
    refine tkH 9 hS ?_ (hy := fun w hSw => by have hc := hSw.2; (go_simp <;> with_reducible rfl))
    refine rdy1 10 fun K hK => ?_
    go_simp
    refine HI.out.mono ?_
    rintro r w6 ⟨rfl, hb6⟩
    go_wp2_with fail
    refine hK.out _ _ ?s_0 (fun hS => ?_)
    case s_0 => (exact ⟨(hb6.cell (p := ⟨g, o + j * 3 + 2, none⟩) (Nat.lt_of_lt_of_le hSb hBd.size)).trans hS.1, (hb6.cell (p := ⟨g', o' + j * 3 + 2, none⟩) (Nat.lt_of_lt_of_le hSb' hBd.size)).trans hS.2⟩)
    clear hK K
    (try simp only [Act.put, layS])
    refine tkH 11 hS ?_
    refine wpAnyH_done (by kernel_rfl) ?_ _
    refine NoPanic.normal ?_
    have z1 := hBd.size
    have hBe := (hBd.trans (hb6.mono hBd.size)).drew
    have r0 : w6.drew.cell? ⟨g, o + j * 3, none⟩ = some (.int .u64 (t : Int)) := (hb6.drew.cell (p := ⟨g, o + j * 3, none⟩) (Nat.lt_of_lt_of_le hSb hBd.size)).trans q0
    have r1 : w6.drew.cell? ⟨g, o + j * 3 + 1, none⟩ = some (.string (txt d)) := (hb6.drew.cell (p := ⟨g, o + j * 3 + 1, none⟩) (Nat.lt_of_lt_of_le hSb hBd.size)).trans q1
    have r3 : w6.drew.cell? ⟨g', o' + j * 3, none⟩ = some (.int .u64 (t' : Int)) := (hb6.drew.cell (p := ⟨g', o' + j * 3, none⟩) (Nat.lt_of_lt_of_le hSb' hBd.size)).trans q3
    have r4 : w6.drew.cell? ⟨g', o' + j * 3 + 1, none⟩ = some (.string (txt d')) := (hb6.drew.cell (p := ⟨g', o' + j * 3 + 1, none⟩) (Nat.lt_of_lt_of_le hSb' hBd.size)).trans q4
    clear hS q0 q1 q2 q3 q4 q5 hb6 hBd hB
    by_cases htt : t = t'
    ·by_cases hdd : d = d'
     ·by_cases hkk : k = k'
      ·have hkb : decide (k = k') = true := decide_eq_true hkk
       have HZ := hHd (HSTEP.out htt hdd hkk)
       subst htt hdd
       clear hkk
       go_wp2_with fail
       refine wp_region_noPanic ?_
       refine wp_region_held_drew (S := fun _ => True) (by kernel_rfl) trivial (fun hS => ?_)
       refine tkH 0 hS ?_
       refine tkH 1 hS ?_
       refine tkH 2 hS ?_
       refine tkH 3 hS ?_
       refine held_more (S' := fun w' => w'.cell? ⟨g, o + j * 3, none⟩ = some (.int .u64 (t : Int)) ∧ w'.cell? ⟨g', o' + j * 3, none⟩ = some (.int .u64 (t : Int)) ∧ w'.cell? ⟨g, o + j * 3 + 1, none⟩ = some (.string (txt d)) ∧ w'.cell? ⟨g', o' + j * 3 + 1, none⟩ = some (.string (txt d))) (fun _ _ => trivial) _ _ _ _ ?_
       replace hS := And.intro r0 (And.intro r3 (And.intro r1 r4))
       refine tkH 4 hS ?_ (hy := fun w hSw => by have hc := hSw.1; (go_simp <;> with_reducible rfl))
       refine tkH 5 hS ?_
       refine tkH 6 hS ?_
       refine tkH 7 hS ?_
       refine tkH 8 hS ?_
       refine tkH 9 hS ?_ (hy := fun w hSw => by have hc := hSw.2.1; (go_simp <;> with_reducible rfl))
       refine tkH 10 hS ?_
       refine tkH 11 hS ?_
       refine tkH 12 hS ?_
       refine tkH 13 hS ?_
       refine tkH 14 hS ?_
       refine tkH 15 hS ?_
       refine tkH 16 hS ?_ (hy := fun w hSw => by have hc := hSw.2.2.1; (go_simp <;> with_reducible rfl))
       refine tkH 17 hS ?_
       refine tkH 18 hS ?_
       refine tkH 19 hS ?_
       refine tkH 20 hS ?_
       refine tkH 21 hS ?_ (hy := fun w hSw => by have hc := hSw.2.2.2; (go_simp <;> with_reducible rfl))
       refine tkH 22 hS ?_
       refine tkH 23 hS ?_
       refine tkH 24 hS ?_
       refine tkH 25 hS ?_
       refine tkH 26 hS ?_
       refine tkH 27 hS ?_
       refine wpAnyH_done (by kernel_rfl) ?_ _
       refine NoPanic.normal ?_
       clear hS r0 r1 r3 r4
       go_wp2
       go_roundw
       case rel => first | exact ⟨j + 1, by omega, by go_num, HZ, hBe⟩ | ((repeat apply Exists.intro); exact ⟨⟨by omega, by go_num, HZ, hBe⟩, rfl⟩) | (trace_state; fail)
       case measure => simp [intOf]; omega
      ·have hkb : decide (k = k') = false := decide_eq_false hkk
       have HZ := hHd (HNOT.out (fun h => hkk h.2.2))
       subst htt hdd
       clear hkk
       go_wp2_with fail
       refine wp_region_noPanic ?_
       refine wp_region_held_drew (S := fun _ => True) (by kernel_rfl) trivial (fun hS => ?_)
       refine tkH 0 hS ?_
       refine tkH 1 hS ?_
       refine tkH 2 hS ?_
       refine tkH 3 hS ?_
       refine held_more (S' := fun w' => w'.cell? ⟨g, o + j * 3, none⟩ = some (.int .u64 (t : Int)) ∧ w'.cell? ⟨g', o' + j * 3, none⟩ = some (.int .u64 (t : Int)) ∧ w'.cell? ⟨g, o + j * 3 + 1, none⟩ = some (.string (txt d)) ∧ w'.cell? ⟨g', o' + j * 3 + 1, none⟩ = some (.string (txt d))) (fun _ _ => trivial) _ _ _ _ ?_
       replace hS := And.intro r0 (And.intro r3 (And.intro r1 r4))
       refine tkH 4 hS ?_ (hy := fun w hSw => by have hc := hSw.1; (go_simp <;> with_reducible rfl))
       refine tkH 5 hS ?_
       refine tkH 6 hS ?_
       refine tkH 7 hS ?_
       refine tkH 8 hS ?_
       refine tkH 9 hS ?_ (hy := fun w hSw => by have hc := hSw.2.1; (go_simp <;> with_reducible rfl))
       refine tkH 10 hS ?_
       refine tkH 11 hS ?_
       refine tkH 12 hS ?_
       refine tkH 13 hS ?_
       refine tkH 14 hS ?_
       refine tkH 15 hS ?_
       refine tkH 16 hS ?_ (hy := fun w hSw => by have hc := hSw.2.2.1; (go_simp <;> with_reducible rfl))
       refine tkH 17 hS ?_
       refine tkH 18 hS ?_
       refine tkH 19 hS ?_
       refine tkH 20 hS ?_
       refine tkH 21 hS ?_ (hy := fun w hSw => by have hc := hSw.2.2.2; (go_simp <;> with_reducible rfl))
       refine tkH 22 hS ?_
       refine tkH 23 hS ?_
       refine tkH 24 hS ?_
       refine tkH 25 hS ?_
       refine tkH 26 hS ?_
       refine tkH 27 hS ?_
       refine wpAnyH_done (by kernel_rfl) ?_ _
       refine NoPanic.normal ?_
       clear hS r0 r1 r3 r4
       go_wp2
       go_ret
       exact ⟨by rw [HZ.out]; rfl, hBe⟩
     ·have hdb : ((txt d).toList == (txt d').toList) = false := by rw [txt_toList, txt_toList]; exact beq_eq_false_iff_ne.2 hdd
      have HZ := hHd (HNOT.out (fun h => hdd h.2.1))
      have hdb2 : ((txt d).toList != (txt d').toList) = true := by unfold bne; rw [hdb]; rfl
      subst htt
      clear hdd
      go_wp2_with fail
      refine wp_region_noPanic ?_
      refine wp_region_held_drew (S := fun _ => True) (by kernel_rfl) trivial (fun hS => ?_)
      refine tkH 0 hS ?_
      refine tkH 1 hS ?_
      refine tkH 2 hS ?_
      refine tkH 3 hS ?_
      refine held_more (S' := fun w' => w'.cell? ⟨g, o + j * 3, none⟩ = some (.int .u64 (t : Int)) ∧ w'.cell? ⟨g', o' + j * 3, none⟩ = some (.int .u64 (t : Int)) ∧ w'.cell? ⟨g, o + j * 3 + 1, none⟩ = some (.string (txt d)) ∧ w'.cell? ⟨g', o' + j * 3 + 1, none⟩ = some (.string (txt d'))) (fun _ _ => trivial) _ _ _ _ ?_
      replace hS := And.intro r0 (And.intro r3 (And.intro r1 r4))
      refine tkH 4 hS ?_ (hy := fun w hSw => by have hc := hSw.1; (go_simp <;> with_reducible rfl))
      refine tkH 5 hS ?_
      refine tkH 6 hS ?_
      refine tkH 7 hS ?_
      refine tkH 8 hS ?_
      refine tkH 9 hS ?_ (hy := fun w hSw => by have hc := hSw.2.1; (go_simp <;> with_reducible rfl))
      refine tkH 10 hS ?_
      refine tkH 11 hS ?_
      refine tkH 12 hS ?_
      refine tkH 13 hS ?_
      refine tkH 14 hS ?_
      refine tkH 15 hS ?_
      refine tkH 16 hS ?_ (hy := fun w hSw => by have hc := hSw.2.2.1; (go_simp <;> with_reducible rfl))
      refine tkH 17 hS ?_
      refine tkH 18 hS ?_
      refine tkH 19 hS ?_
      refine tkH 20 hS ?_
      refine tkH 21 hS ?_ (hy := fun w hSw => by have hc := hSw.2.2.2; (go_simp <;> with_reducible rfl))
      refine tkH 22 hS ?_
      refine tkH 23 hS ?_
      refine tkH 24 hS ?_
      refine tkHo 25 hS ?_
      refine tkHo 26 hS ?_
      refine tkH 27 hS ?_
      refine wpAnyH_done (by kernel_rfl) ?_ _
      refine NoPanic.normal ?_
      clear hS r0 r1 r3 r4
      go_wp2
      go_ret
      exact ⟨by rw [HZ.out]; rfl, hBe⟩
    ·have htb : ((t : Int) == (t' : Int)) = false := beq_eq_false_iff_ne.2 (by omega)
     have htb2 : ((t : Int) != (t' : Int)) = true := by unfold bne; rw [htb]; rfl
     have HZ := hHd (HNOT.out (fun h => htt h.1))
     clear htt
     go_wp2_with fail
     refine wp_region_noPanic ?_
     refine wp_region_held_drew (S := fun _ => True) (by kernel_rfl) trivial (fun hS => ?_)
     refine tkH 0 hS ?_
     refine tkH 1 hS ?_
     refine tkH 2 hS ?_
     refine tkH 3 hS ?_
     refine held_more (S' := fun w' => w'.cell? ⟨g, o + j * 3, none⟩ = some (.int .u64 (t : Int)) ∧ w'.cell? ⟨g', o' + j * 3, none⟩ = some (.int .u64 (t' : Int))) (fun _ _ => trivial) _ _ _ _ ?_
     replace hS := And.intro r0 r3
     refine tkH 4 hS ?_ (hy := fun w hSw => by have hc := hSw.1; (go_simp <;> with_reducible rfl))
     refine tkH 5 hS ?_
     refine tkH 6 hS ?_
     refine tkH 7 hS ?_
     refine tkH 8 hS ?_
     refine tkH 9 hS ?_ (hy := fun w hSw => by have hc := hSw.2; (go_simp <;> with_reducible rfl))
     refine tkH 10 hS ?_
     refine tkH 11 hS ?_
     refine tkHo 12 hS ?_
     refine tkHo 13 hS ?_
     refine tkHo 14 hS ?_
     refine tkHo 15 hS ?_
     refine tkHo 16 hS ?_
     refine tkHo 17 hS ?_
     refine tkHo 18 hS ?_
     refine tkHo 19 hS ?_
     refine tkHo 20 hS ?_
     refine tkHo 21 hS ?_
     refine tkHo 22 hS ?_
     refine tkH 23 hS ?_
     refine tkH 24 hS ?_
     refine tkHo 25 hS ?_
     refine tkHo 26 hS ?_
     refine tkH 27 hS ?_
     refine wpAnyH_done (by kernel_rfl) ?_ _
     refine NoPanic.normal ?_
     clear hS r0 r1 r3 r4
     go_wp2
     go_ret
     exact ⟨by rw [HZ.out]; rfl, hBe⟩
   ·obtain rfl : j = a.len := by omega
    have hab : a = b := by
     have h := HT.out
     rw [Fo.take_all] at h
     have h2 : Fo.take a.len b = b := by
      have h3 : a.len = b.len := by omega
      rw [h3, Fo.take_all]
     rw [h2] at h
     exact h
    have HZ : Hid (decide (a = b) = true) := hHd (decide_eq_true hab)
    clear hab hlt
    go_wp2
    go_ret
    exact ⟨by rw [HZ.out]; rfl, hB⟩
 ·have hlb : ((a.len : Int) == (b.len : Int)) = false := beq_eq_false_iff_ne.2 (by omega)
  have HZ : Hid (decide (a = b) = false) := hHd (decide_eq_false (fun h => hll (by rw [h])))
  clear hll
  go_enter Tryz.func11, Tryz.ntmps11
  go_wp2
  go_ret
  exact ⟨by rw [HZ.out]; rfl, Below.refl _ _⟩
end
def Fo.ok (f : Fo) : Bool := Fo.right 1 f && decide (f.all.length ≤ 8192)
def CheckC : Prop := ∀ (f : Fo) (w : World) (v : Value), FV DataI w (Lo w) v f → f.sz ≤ 1099511627776 → Calls Tryz.prog 57 #[v] w (fun r w' => r = .returned (.bool f.ok) ∧ Below w.heap.size w w')
def PutP (f : Fo) (w : World) (r : Ending) (w' : World) : Prop :=
 ∃ v, r = .returned (.tuple #[v, .int .i64 (if f.ok = true then 0 else 1)]) ∧ Own w' w.heap.size v (if f.ok = true then f.all else []) ∧ Below w.heap.size w w'
def PutC : Prop := ∀ (f : Fo) (w : World) (v : Value), FV DataI w (Lo w) v f → f.sz ≤ 1099511627776 → Calls Tryz.prog 32 #[v] w (PutP f w)
section
variable {D : World → (Nat → Prop) → Value → List UInt8 → Prop} {w w' : World} {S : Nat → Prop}
theorem FV.lo {base : Nat} {v : Value} {f : Fo} (hD : Stays D) (h : FV D w (MineI base w) v f) : FV D w (Lo w) v f := h.kept hD (fun _ _ => rfl) (fun _ hg => hg.2)
theorem FV.one {b : Nat} {e : TypeId} {t : Nat} {d : List UInt8} {k : Fo} {dv kv : Value} (hb : Blk w b e #[.int .u64 (t : Int), dv, kv]) (hS : S b) (ht : t < 18446744073709551616) (hd : D w S dv d) (hk : FV D w S kv k) :
  FV D w S (.slice (some ⟨b, 0, none⟩) 1 1) (.cons t d k .nil) := by
 obtain ⟨A, c, rfl, h1, h2⟩ := hk
 refine ⟨_, 1, rfl, Nat.le_refl _, fun _ => ⟨b, 0, rfl, hS, ?_, ht, ⟨dv, ?_, hd⟩, ⟨A, c, ?_, h1, h2⟩, trivial⟩⟩
 ·rw [hb.cell]; rfl
 ·rw [hb.cell]; rfl
 ·rw [hb.cell]; rfl
theorem FV.item {v : Value} {t : Nat} {d : List UInt8} {k : Fo} (h : FV D w S v (.cons t d k .nil)) :
  ∃ b o c kv, v = .slice (some ⟨b, o, none⟩) 1 c ∧ 1 ≤ c ∧ S b ∧ w.cell? ⟨b, o + 2, none⟩ = some kv ∧ FV D w S kv k := by
 obtain ⟨A, c, rfl, h1, h2⟩ := h
 obtain ⟨b, o, rfl, h3, h4⟩ := h2 (by simp [Fo.len])
 obtain ⟨_, _, _, ⟨A', c', h5, h6, h7⟩, _⟩ := h4
 exact ⟨b, o, c, _, rfl, h1, h3, h5, A', c', rfl, h6, h7⟩
end
theorem lo_lt {w w' : World} {v : Value} {f : Fo} (h : FV DataI w (Lo w) v f) (hb : Below w.heap.size w w') : FV DataI w' (Lt w.heap.size) v f := h.kept stays_I (fun g hg => hb.block g hg) (fun _ hg => hg)
theorem below_of_grownI {w w0 w' : World} {g : Nat} (h0 : Below w.heap.size w w0) (hg : w0.grownBy w' (some g)) (hw : w.heap.size ≤ g) : Below w.heap.size w w' := by
 refine h0.grown hg h0.size fun k e => ?_
 injection e with e
 omega
def SizeO (f : Fo) (w : World) (r : Ending) (w' : World) : Prop := r = .returned (.int .i64 (f.all.length : Int)) ∧ Below w.heap.size w w'
theorem size_cnt (f : Fo) (w : World) (v : Value) (hv : FV DataI w (Lo w) v f) (hsz : f.sz ≤ 1099511627776) (hc : f.cnt ≤ 60000) : Calls Tryz.prog 31 #[v] w (SizeO f w) := by
 have hmf : ∀ (fn : Fn) (first cap : Array Value) (w : World), (Instr.makeFunc fn first cap).run Tryz.prog w = .ok (.func fn first cap) w := fun _ _ _ _ => rfl
 obtain ⟨A, c, rfl⟩ := hv.shape
 go_enter Tryz.func31, Tryz.ntmps31
 go_wp2_with fail
 have b1 : Blk (w.alloc (.cells #[.int .i64 0] 3)) w.heap.size 3 #[.int .i64 ((0 : Nat) : Int)] := Blk.new _ _ _
 have b2 := Blk.new (w.alloc (.cells #[.int .i64 0] 3)) 97 #[.func (.func 54) #[] #[.pointer (some ⟨w.heap.size, 0, none⟩), .pointer (some ⟨w.heap.size + 1, 0, none⟩)]]
 rw [World.size_alloc] at b2
 have hB' : Below w.heap.size w ((w.alloc (.cells #[.int .i64 0] 3)).alloc (.cells #[.func (.func 54) #[] #[.pointer (some ⟨w.heap.size, 0, none⟩), .pointer (some ⟨w.heap.size + 1, 0, none⟩)]] 97)) := ((Below.refl _ w).alloc (Nat.le_refl _) _).alloc (by simp) _
 have hv' := lo_lt hv hB'
 have z := hB'.size
 refine (size1_any f _ _ w.heap.size w.heap.size (w.heap.size + 1) 1 0 1 hv' hsz (by omega) (by omega) rfl (Nat.le_refl _) (by omega) z (by omega) (b1.alloc _) b2).mono ?_
 rintro r w1 ⟨rfl, hg, q, -, -⟩
 have hB1 := below_of_grownI hB' hg (Nat.le_refl _)
 clear hg hB' hv'
 go_wp2
 go_ret
 exact ⟨rfl, hB1⟩
theorem checkC : CheckC := by
 intro f w v hv hsz
 have hmf : ∀ (fn : Fn) (first cap : Array Value) (w : World), (Instr.makeFunc fn first cap).run Tryz.prog w = .ok (.func fn first cap) w := fun _ _ _ _ => rfl
 obtain ⟨A, c, rfl⟩ := hv.shape
 have HO : Hid (f.ok = (Fo.right 1 f && decide (f.all.length ≤ 8192))) := hHd rfl
 have hal : f.all.length ≤ 22000000000000 := by have := f.all_le; omega
 go_enter Tryz.func57, Tryz.ntmps57
 go_wp2_with fail
 have b1 : Blk (w.alloc (.cells #[.int .i64 0] 3)) w.heap.size 3 #[.int .i64 ((0 : Nat) : Int)] := Blk.new _ _ _
 have b2 := Blk.new (w.alloc (.cells #[.int .i64 0] 3)) 139 #[.func (.func 90) #[] #[.pointer (some ⟨w.heap.size, 0, none⟩), .pointer (some ⟨w.heap.size + 1, 0, none⟩)]]
 rw [World.size_alloc] at b2
 have hB' : Below w.heap.size w ((w.alloc (.cells #[.int .i64 0] 3)).alloc (.cells #[.func (.func 90) #[] #[.pointer (some ⟨w.heap.size, 0, none⟩), .pointer (some ⟨w.heap.size + 1, 0, none⟩)]] 139)) := ((Below.refl _ w).alloc (Nat.le_refl _) _).alloc (by simp) _
 have hv' := lo_lt hv hB'
 have z := hB'.size
 refine (sound_any f _ _ w.heap.size w.heap.size (w.heap.size + 1) 1 0 1 hv' hsz (by omega) rfl (by omega) (Nat.le_refl _) (by omega) z (by omega) (b1.alloc _) b2).mono ?_
 rintro r w1 ⟨b, rfl, hb, hg, -⟩
 have hB1 := below_of_grownI hB' hg (Nat.le_refl _)
 have HB := hHd hb
 clear hg hB' hv' b1 b2 z hb
 cases b with
 | false =>
  have HP : Hid (f.ok = false) := hHd (by
   rw [HO.out]
   cases hr : Fo.right 1 f with
   | false => rfl
   | true =>
    have h := HB.out
    rw [hr, Bool.true_and] at h
    have h2 : ¬ 0 + f.cnt ≤ 4096 := of_decide_eq_false h.symm
    have h3 := Fo.cnt_all f 1 hr
    rw [Bool.true_and, show decide (f.all.length ≤ 8192) = false from decide_eq_false (by omega)])
  go_wp2
  go_ret
  exact ⟨by rw [HP.out]; rfl, hB1⟩
 | true =>
  have h := HB.out.symm
  rw [Bool.and_eq_true, decide_eq_true_eq] at h
  obtain ⟨hr, hcn⟩ := h
  have HP : Hid (f.ok = decide ((f.all.length : Int) ≤ 8192)) := hHd (by
   rw [HO.out, hr, Bool.true_and]
   rw [Bool.eq_iff_iff]; simp; omega)
  have hv1 : FV DataI w1 (Lo w1) (.slice A f.len c) f := hv.kept stays_I (fun g hg => hB1.block g hg) (fun _ hg => Nat.lt_of_lt_of_le hg hB1.size)
  have HC := hHd (size_cnt f w1 _ hv1 hsz (by omega))
  clear hr hcn hv1
  go_wp2_with fail
  refine HC.out.mono ?_
  rintro r w2 ⟨rfl, hb2⟩
  go_wp2
  go_ret
  exact ⟨by rw [HP.out]; rfl, hB1.trans (hb2.mono hB1.size)⟩
end Go.Proofs.YtodlhgflfcadmaaGreat
