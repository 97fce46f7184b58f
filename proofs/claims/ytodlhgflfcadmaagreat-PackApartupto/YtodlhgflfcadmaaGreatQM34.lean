/- TlvFnC TlvPlain TlvCheck TlvSpec TlvFnD TlvFnE TlvFnF -/
import Derived.Test.YtodlhgflfcadmaaGreatQM33
set_option linter.unusedSimpArgs false
set_option linter.unusedVariables false
set_option maxRecDepth 100000
set_option maxHeartbeats 8000000
namespace Go.Proofs.YtodlhgflfcadmaaGreat
open Go.RowKit
def SelfS (w : World) (sb cb : Nat) : Prop := Blk w sb 97 #[.func (.func 54) #[] #[.pointer (some ⟨cb, 0, none⟩), .pointer (some ⟨sb, 0, none⟩)]]
def SizeP (f : Fo) (c0 cb : Nat) (w : World) (r : Ending) (w' : World) : Prop :=
 r = .returned (.int .i64 (f.all.length : Int)) ∧ w.grownBy w' (some cb) ∧ ∃ q, q ≤ c0 + f.cnt ∧ Blk w' cb 3 #[.int .i64 (q : Int)]
def SizeAt (k : Fo) : Prop := ∀ (w : World) (v : Value) (B cb sb deep c0 : Nat) (dI : Int), FV DataI w (Lt B) v k → k.sz ≤ 1099511627776 → deep + k.cnt ≤ 65537 → c0 + k.cnt ≤ 100000 → dI = (deep : Int) → B ≤ cb → B ≤ sb → B ≤ w.heap.size → cb ≠ sb →
  Blk w cb 3 #[.int .i64 (c0 : Int)] → SelfS w sb cb →
  Calls Tryz.prog 54 #[v, .int .i64 dI, .pointer (some ⟨cb, 0, none⟩), .pointer (some ⟨sb, 0, none⟩)] w (SizeP k c0 cb w)
theorem len_at (x : Nat) (xI : Int) (L : Nat) (w : World) (h : x < 18446744073709551616) (e : xI = (x : Int)) (hL : L = (encV 9 x).length) :
  Calls Tryz.prog 56 #[.int .u64 xI] w fun r w' => r = .returned (.int .i64 (L : Int)) ∧ Below w.heap.size w w' := by
 subst e hL
 exact len_any x h w
theorem size1_any (f : Fo) : SizeAt f := by
 refine Fo.byKids (P := SizeAt) ?_ f
 clear f
 intro f hkids w v B cb sb deep c0 dI hv hsz hd hc0 hdI hBc hBs hBw hne hblk hself
 subst hdI
 obtain ⟨A, c, rfl⟩ := hv.shape
 have hws := f.wt_le_sz
 have hlw := f.len_le_wt
 have hal := f.all_le
 have hlen40 : f.len ≤ 1099511627776 := by omega
 have hall : f.all.length ≤ 22000000000000 := by omega
 have HK : Hid (Fo.kidsAll SizeAt f) := hHd hkids
 clear hkids hws hlw hal
 go_enter Tryz.func54, Tryz.ntmps54
 go_wp2
 go_loopw [7, 13] (fun u i wr => ∃ (j q S : Nat), j ≤ f.len ∧ i = .int .i64 (j : Int) ∧ u = .int .i64 (S : Int) ∧ S ≤ 22000000000000 ∧ q ≤ 100000 ∧ Hid (q ≤ c0 + (Fo.take j f).cnt) ∧ Hid (S = (Fo.take j f).all.length) ∧ Hid (Blk wr cb 3 #[.int .i64 (q : Int)]) ∧ Hid (w.grownBy wr (some cb))) (fun _ i _ => f.len - (intOf i).toNat)
 case atStart => exact ⟨0, c0, 0, Nat.zero_le _, rfl, rfl, by omega, by omega, hHd (Nat.le_refl _), hHd rfl, hHd hblk, hHd (World.grownBy.refl _ _)⟩
 case round =>
  obtain ⟨j, q, S, hj, rfl, rfl, hS13, hq4, HQ, HS, HB, HG⟩ := hrel
  by_cases hlt : j < f.len
  ·obtain ⟨b, o, c', t, d, k, hve, hcap, hS, hdr, htk, ht64, hk0, ⟨dv, hk1, db, hdv, hdS⟩, ⟨kv, hk2, hkv⟩⟩ := hv.at hlt
   injection hve with e1 e2 e3
   subst e1 e3
   have hSb : b < B := hS
   obtain ⟨A1, c1, rfl⟩ : ∃ D cd, dv = .slice D d.length cd := by obtain ⟨D, cd, e, _⟩ := hdv; exact ⟨D, cd, e⟩
   have hdl := hdv.len
   obtain ⟨A2, c2, rfl⟩ := hkv.shape
   have hG := HG.out
   have hne0 : b ≠ cb := by omega
   have hcw := hblk.lt
   have z1 := hG.size
   have hC0 : wr.cell? ⟨b, o + j * 3, none⟩ = some (.int .u64 (t : Int)) := hG.cell hk0 (by simpa using hne0)
   have hC1 : wr.cell? ⟨b, o + j * 3 + 1, none⟩ = some (.slice A1 d.length c1) := hG.cell hk1 (by simpa using hne0)
   have hC2 : wr.cell? ⟨b, o + j * 3 + 2, none⟩ = some (.slice A2 k.len c2) := hG.cell hk2 (by simpa using hne0)
   have hdrop : (Fo.drop j f).sz ≤ f.sz := by
    have h := Fo.sz_app (Fo.take j f) (Fo.drop j f)
    rw [Fo.take_app_drop] at h
    omega
   rw [hdr] at hdrop
   simp only [Fo.sz] at hdrop
   have hIH : SizeAt k := by
    have h := Fo.kidsAll_drop j HK.out
    rw [hdr] at h
    exact h.1
   have hks40 : k.sz ≤ 1099511627776 := by omega
   have hct : (Fo.take (j + 1) f).cnt = (Fo.take j f).cnt + (1 + k.cnt) := by rw [htk, Fo.cnt_app]; simp [Fo.cnt]
   have hcl := Fo.cnt_take_le (j + 1) f
   have hcq : q + 1 + k.cnt ≤ c0 + f.cnt := by have := HQ.out; omega
   have hck : k.cnt + 1 ≤ f.cnt := by omega
   have i1 : (0 : Int) ≤ (j : Int) := by omega
   have i2 : (j : Int) < (f.len : Int) := by omega
   obtain ⟨I, hI⟩ : ∃ I, I = (Fo.inn t d k.all).length := ⟨_, rfl⟩
   obtain ⟨L1, hL1⟩ : ∃ L1, L1 = (encV 9 t).length := ⟨_, rfl⟩
   obtain ⟨L2, hL2⟩ : ∃ L2, L2 = (encV 9 I).length := ⟨_, rfl⟩
   obtain ⟨S', hS'⟩ : ∃ S', S' = S + (L1 + L2 + I) := ⟨_, rfl⟩
   have hSt : S' = (Fo.take (j + 1) f).all.length := by rw [Fo.all_take j htk, hS', HS.out, hL1, hL2, hI]; simp only [List.length_append]
   have hSl : S' ≤ f.all.length := by rw [hSt]; exact Fo.all_take_le _ _
   have hI13 : I ≤ 22000000000000 := by omega
   have hL13 : L1 ≤ 22000000000000 := by omega
   have hL23 : L2 ≤ 22000000000000 := by omega
   have hS13' : S' ≤ 22000000000000 := by omega
   have hI64 : I < 18446744073709551616 := by omega
   have HKV := hHd hkv
   have HIH := hHd hIH
   have HCT := hHd hct
   have HNE := hHd hne
   have HT64 := hHd ht64
   have HI64 := hHd hI64
   have HL1 := hHd hL1
   have HL2 := hHd hL2
   have HS' := hHd hS'
   have HST := hHd hSt
   have hbc := HB.out.cell 0
   have hcc : (wr.alloc (.cells #[.int .u64 (t : Int), .slice A1 d.length c1, .slice A2 k.len c2] 48)).cell? ⟨cb, 0, none⟩ = some (.int .i64 (q : Int)) := by rw [(HB.out.alloc _).cell]; rfl
   have hcf : (wr.alloc (.cells #[.int .u64 (t : Int), .slice A1 d.length c1, .slice A2 k.len c2] 48)).frozen? ⟨cb, 0, none⟩ = false := (HB.out.alloc _).frozen 0
   have HBA : Hid (Blk ((wr.alloc (.cells #[.int .u64 (t : Int), .slice A1 d.length c1, .slice A2 k.len c2] 48)).setCell ⟨cb, 0, none⟩ (.int .i64 ((q : Int) + 1))) cb 3 #[.int .i64 ((q : Int) + 1)]) := hHd ((HB.out.alloc _).set_ 0 _)
   have HGA : Hid (w.grownBy ((wr.alloc (.cells #[.int .u64 (t : Int), .slice A1 d.length c1, .slice A2 k.len c2] 48)).setCell ⟨cb, 0, none⟩ (.int .i64 ((q : Int) + 1))) (some cb)) := hHd ((grown_alloc hG _).trans (grown_set _))
   have HIA : Hid (Blk ((wr.alloc (.cells #[.int .u64 (t : Int), .slice A1 d.length c1, .slice A2 k.len c2] 48)).setCell ⟨cb, 0, none⟩ (.int .i64 ((q : Int) + 1))) wr.heap.size 48 #[.int .u64 (t : Int), .slice A1 d.length c1, .slice A2 k.len c2]) := hHd ((Blk.new wr _ _).far (by show wr.heap.size ≠ cb; omega) _)
   have hd1 : decide ((2147483647 : Int) < (q : Int) + 1) = false := decide_eq_false (by omega)
   have hd2 : decide ((65536 : Int) < (deep : Int)) = false := decide_eq_false (by omega)
   have x1 : ((wr.alloc (.cells #[.int .u64 (t : Int), .slice A1 d.length c1, .slice A2 k.len c2] 48)).setCell ⟨cb, 0, none⟩ (.int .i64 ((q : Int) + 1))).cell? ⟨cb, 0, none⟩ = some (.int .i64 ((q : Int) + 1)) := by rw [HBA.out.cell]; rfl
   have y0 : ((wr.alloc (.cells #[.int .u64 (t : Int), .slice A1 d.length c1, .slice A2 k.len c2] 48)).setCell ⟨cb, 0, none⟩ (.int .i64 ((q : Int) + 1))).cell? ⟨wr.heap.size, 0, none⟩ = some (.int .u64 (t : Int)) := by rw [HIA.out.cell]; rfl
   have y1 : ((wr.alloc (.cells #[.int .u64 (t : Int), .slice A1 d.length c1, .slice A2 k.len c2] 48)).setCell ⟨cb, 0, none⟩ (.int .i64 ((q : Int) + 1))).cell? ⟨wr.heap.size, 1, none⟩ = some (.slice A1 d.length c1) := by rw [HIA.out.cell]; rfl
   have y2 : ((wr.alloc (.cells #[.int .u64 (t : Int), .slice A1 d.length c1, .slice A2 k.len c2] 48)).setCell ⟨cb, 0, none⟩ (.int .i64 ((q : Int) + 1))).cell? ⟨wr.heap.size, 2, none⟩ = some (.slice A2 k.len c2) := by rw [HIA.out.cell]; rfl
   have HI := hHd hI
   clear hIH hkv hdr htk hk0 hk1 hk2 e2 hS hdrop hsz hdv hdS ht64 hne hne0 HK hct hcl hI hL1 hL2 hS' hSt hSl hI64 hbc hG hblk
   by_cases hodd : t % 2 = 1
   ·have HIk : Hid (I = k.all.length) := hHd (by have h := HI.out; rw [h]; unfold Fo.inn; rw [if_pos hodd])
    have HC := hHd (fun w => nests_yes t (.slice A1 d.length c1) (.slice A2 k.len c2) w hodd)
    clear hodd HI
    go_wp2_with fail
    refine (HC.out _).mono ?_
    rintro r w1 ⟨rfl, hb1⟩
    have HB1 : Hid (Blk w1 cb 3 #[.int .i64 ((q + 1 : Nat) : Int)]) := hHd (HBA.out.below hb1 HBA.out.lt)
    have HI1 : Hid (Blk w1 wr.heap.size 48 #[.int .u64 (t : Int), .slice A1 d.length c1, .slice A2 k.len c2]) := hHd (HIA.out.below hb1 HIA.out.lt)
    have HG1 : Hid (w.grownBy w1 (some cb)) := hHd (grown_below HGA.out hb1)
    have z3 := HG1.out.size
    have hself1 : SelfS w1 sb cb := hself.grown HG1.out (by intro h; injection h with h; exact HNE.out h.symm)
    have hkv1 : FV DataI w1 (Lt B) (.slice A2 k.len c2) k := HKV.out.kept stays_I (fun g hg => HG1.out.block g (by have : g < B := hg; omega) (by have : g < B := hg; simp; omega)) (fun _ h => h)
    have HII := hHd (HIH.out w1 (.slice A2 k.len c2) B cb sb (deep + 1) (q + 1) ((deep : Int) + 1) hkv1 hks40 (by omega) (by omega) (by omega) hBc hBs (by omega) HNE.out HB1.out hself1)
    have s1 : w1.cell? ⟨sb, 0, none⟩ = some (.func (.func 54) #[] #[.pointer (some ⟨cb, 0, none⟩), .pointer (some ⟨sb, 0, none⟩)]) := by rw [hself1.cell]; rfl
    have v2 : w1.cell? ⟨wr.heap.size, 2, none⟩ = some (.slice A2 k.len c2) := by rw [HI1.out.cell]; rfl
    clear hb1 hself1 hkv1 hcc hcf x1 y0 y1 y2 hC0 hC1 hC2 HBA HIA HGA
    go_wp2_with fail
    refine HII.out.mono ?_
    rintro r w2 ⟨rfl, hg2, QQ, hQQ, hq2⟩
    rw [← HIk.out]
    have HBX : Hid (Blk w2 cb 3 #[.int .i64 ((QQ : Nat) : Int)]) := hHd hq2
    have HGX : Hid (w.grownBy w2 (some cb)) := hHd (HG1.out.trans hg2)
    have v0 : w2.cell? ⟨wr.heap.size, 0, none⟩ = some (.int .u64 (t : Int)) := hg2.cell (by rw [HI1.out.cell]; rfl) (by simp; omega)
    clear hg2 hq2 s1 v2 HG1 HI1 HB1
    go_wp2_with fail
    refine (len_at t _ L1 _ HT64.out rfl HL1.out).mono ?_
    rintro r w3 ⟨rfl, hb3⟩
    go_wp2_with fail
    refine (len_at I _ L2 _ HI64.out rfl HL2.out).mono ?_
    rintro r w4 ⟨rfl, hb4⟩
    have HB4 : Hid (Blk w4 cb 3 #[.int .i64 ((QQ : Nat) : Int)]) := hHd ((HBX.out.below hb3 HBX.out.lt).below hb4 (Nat.lt_of_lt_of_le HBX.out.lt hb3.size))
    have HG4 : Hid (w.grownBy w4 (some cb)) := hHd (grown_below (grown_below HGX.out hb3) hb4)
    clear hb3 hb4
    go_wp2
    go_roundw
    case rel => exact ⟨j + 1, QQ, S', by omega, by go_num, by (show Value.int .i64 _ = Value.int .i64 _; congr 1; have := HS'.out; omega), hS13', by omega, hHd (by have := HCT.out; have := HQ.out; omega), HST, HB4, HG4⟩
    case measure => simp [intOf]; omega
   ·have HIk : Hid (I = d.length) := hHd (by have h := HI.out; rw [h]; unfold Fo.inn; rw [if_neg hodd])
    obtain rfl : I = d.length := HIk.out
    have HC := hHd (fun w => nests_no t (.slice A1 d.length c1) (.slice A2 k.len c2) w hodd)
    clear hodd HI HIk
    go_wp2_with fail
    refine (HC.out _).mono ?_
    rintro r w1 ⟨rfl, hb1⟩
    have HBX : Hid (Blk w1 cb 3 #[.int .i64 ((q + 1 : Nat) : Int)]) := hHd (HBA.out.below hb1 HBA.out.lt)
    have v0 : w1.cell? ⟨wr.heap.size, 0, none⟩ = some (.int .u64 (t : Int)) := by rw [(HIA.out.below hb1 HIA.out.lt).cell]; rfl
    have HGX : Hid (w.grownBy w1 (some cb)) := hHd (grown_below HGA.out hb1)
    obtain ⟨QQ, hQQ⟩ : ∃ QQ, QQ = q + 1 := ⟨_, rfl⟩
    rw [← hQQ] at HBX
    have hQQ : QQ ≤ q + 1 + k.cnt := by omega
    clear hb1 hcc hcf x1 y0 y1 y2 hC0 hC1 hC2 HBA HIA HGA
    go_wp2_with fail
    refine (len_at t _ L1 _ HT64.out rfl HL1.out).mono ?_
    rintro r w3 ⟨rfl, hb3⟩
    go_wp2_with fail
    refine (len_at d.length _ L2 _ HI64.out rfl HL2.out).mono ?_
    rintro r w4 ⟨rfl, hb4⟩
    have HB4 : Hid (Blk w4 cb 3 #[.int .i64 ((QQ : Nat) : Int)]) := hHd ((HBX.out.below hb3 HBX.out.lt).below hb4 (Nat.lt_of_lt_of_le HBX.out.lt hb3.size))
    have HG4 : Hid (w.grownBy w4 (some cb)) := hHd (grown_below (grown_below HGX.out hb3) hb4)
    clear hb3 hb4
    go_wp2
    go_roundw
    case rel => exact ⟨j + 1, QQ, S', by omega, by go_num, by (show Value.int .i64 _ = Value.int .i64 _; congr 1; have := HS'.out; omega), hS13', by omega, hHd (by have := HCT.out; have := HQ.out; omega), HST, HB4, HG4⟩
    case measure => simp [intOf]; omega
  ·obtain rfl : j = f.len := by omega
   have hSe : S = f.all.length := by rw [HS.out, Fo.take_all]
   subst hSe
   have HQ' : Hid (q ≤ c0 + f.cnt) := hHd (by have h := HQ.out; rwa [Fo.take_all] at h)
   clear hlt
   go_wp2
   go_ret
   exact ⟨rfl, HG.out, q, HQ'.out, HB.out⟩
section
attribute [local go_sem ↓] Go.wp_at_zero Go.wp_at_succ
theorem Rd.keepS {w w' : World} {db B : Nat} {v : Value} {d : List UInt8} (h : Rd w db v d) (hs : 0 < d.length → db < B) (hb : Below B w w') : Rd w' db v d := by
 by_cases h0 : 0 < d.length
 ·exact h.heap (hb.block db (hs h0))
 ·have hd : d = [] := List.eq_nil_of_length_eq_zero (by omega)
  subst hd
  obtain ⟨A, c, rfl, h1, h2, _⟩ := h
  exact ⟨A, c, rfl, h1, h2, fun h => absurd h (by simp)⟩
end
def Fo.ok (f : Fo) : Bool := Fo.right 1 f && decide (f.all.length ≤ 8192)
def CheckC : Prop := ∀ (f : Fo) (w : World) (v : Value), FV DataI w (Lo w) v f → f.sz ≤ 1099511627776 → Calls Tryz.prog 57 #[v] w (fun r w' => r = .returned (.bool f.ok) ∧ Below w.heap.size w w')
def PutP (f : Fo) (w : World) (r : Ending) (w' : World) : Prop :=
 ∃ v, r = .returned (.tuple #[v, .int .i64 (if f.ok = true then 0 else 1)]) ∧ Own w' w.heap.size v (if f.ok = true then f.all else []) ∧ Below w.heap.size w w'
def PutC : Prop := ∀ (f : Fo) (w : World) (v : Value), FV DataI w (Lo w) v f → f.sz ≤ 1099511627776 → Calls Tryz.prog 32 #[v] w (PutP f w)
section
variable {D : World → (Nat → Prop) → Value → List UInt8 → Prop} {w w' : World} {S : Nat → Prop}
theorem FV.lo {base : Nat} {v : Value} {f : Fo} (hD : Stays D) (h : FV D w (MineI base w) v f) : FV D w (Lo w) v f := h.kept hD (fun _ _ => rfl) (fun _ hg => hg.2)
theorem FV.one {b : Nat} {e : TypeId} {t : Nat} {d : List UInt8} {k : Fo} {dv kv : Value} (hb : Blk w b e #[.int .u64 (t : Int), dv, kv]) (hS : S b) (ht : t < 18446744073709551616) (hd : D w S dv d) (hk : FV D w S kv k) :
  FV D w S (.slice (some ⟨b, 0, none⟩) 1 1) (.cons t d k .nil) := by
 obtain ⟨A, c, rfl, h1, h2⟩ := hk
 refine ⟨_, 1, rfl, Nat.le_refl _, fun _ => ⟨b, 0, rfl, hS, ?_, ht, ⟨dv, ?_, hd⟩, ⟨A, c, ?_, h1, h2⟩, trivial⟩⟩
 ·rw [hb.cell]; rfl
 ·rw [hb.cell]; rfl
 ·rw [hb.cell]; rfl
theorem FV.item {v : Value} {t : Nat} {d : List UInt8} {k : Fo} (h : FV D w S v (.cons t d k .nil)) :
  ∃ b o c kv, v = .slice (some ⟨b, o, none⟩) 1 c ∧ 1 ≤ c ∧ S b ∧ w.cell? ⟨b, o + 2, none⟩ = some kv ∧ FV D w S kv k := by
 obtain ⟨A, c, rfl, h1, h2⟩ := h
 obtain ⟨b, o, rfl, h3, h4⟩ := h2 (by simp [Fo.len])
 obtain ⟨_, _, _, ⟨A', c', h5, h6, h7⟩, _⟩ := h4
 exact ⟨b, o, c, _, rfl, h1, h3, h5, A', c', rfl, h6, h7⟩
end
theorem lo_lt {w w' : World} {v : Value} {f : Fo} (h : FV DataI w (Lo w) v f) (hb : Below w.heap.size w w') : FV DataI w' (Lt w.heap.size) v f := h.kept stays_I (fun g hg => hb.block g hg) (fun _ hg => hg)
theorem below_of_grownI {w w0 w' : World} {g : Nat} (h0 : Below w.heap.size w w0) (hg : w0.grownBy w' (some g)) (hw : w.heap.size ≤ g) : Below w.heap.size w w' := by
 refine h0.grown hg h0.size fun k e => ?_
 injection e with e
 omega
def SizeO (f : Fo) (w : World) (r : Ending) (w' : World) : Prop := r = .returned (.int .i64 (f.all.length : Int)) ∧ Below w.heap.size w w'
theorem size_cnt (f : Fo) (w : World) (v : Value) (hv : FV DataI w (Lo w) v f) (hsz : f.sz ≤ 1099511627776) (hc : f.cnt ≤ 60000) : Calls Tryz.prog 31 #[v] w (SizeO f w) := by
 have hmf : ∀ (fn : Fn) (first cap : Array Value) (w : World), (Instr.makeFunc fn first cap).run Tryz.prog w = .ok (.func fn first cap) w := fun _ _ _ _ => rfl
 obtain ⟨A, c, rfl⟩ := hv.shape
 go_enter Tryz.func31, Tryz.ntmps31
 go_wp2_with fail
 have b1 : Blk (w.alloc (.cells #[.int .i64 0] 3)) w.heap.size 3 #[.int .i64 ((0 : Nat) : Int)] := Blk.new _ _ _
 have b2 := Blk.new (w.alloc (.cells #[.int .i64 0] 3)) 97 #[.func (.func 54) #[] #[.pointer (some ⟨w.heap.size, 0, none⟩), .pointer (some ⟨w.heap.size + 1, 0, none⟩)]]
 rw [World.size_alloc] at b2
 have hB' : Below w.heap.size w ((w.alloc (.cells #[.int .i64 0] 3)).alloc (.cells #[.func (.func 54) #[] #[.pointer (some ⟨w.heap.size, 0, none⟩), .pointer (some ⟨w.heap.size + 1, 0, none⟩)]] 97)) := ((Below.refl _ w).alloc (Nat.le_refl _) _).alloc (by simp) _
 have hv' := lo_lt hv hB'
 have z := hB'.size
 refine (size1_any f _ _ w.heap.size w.heap.size (w.heap.size + 1) 1 0 1 hv' hsz (by omega) (by omega) rfl (Nat.le_refl _) (by omega) z (by omega) (b1.alloc _) b2).mono ?_
 rintro r w1 ⟨rfl, hg, q, -, -⟩
 have hB1 := below_of_grownI hB' hg (Nat.le_refl _)
 clear hg hB' hv'
 go_wp2
 go_ret
 exact ⟨rfl, hB1⟩
theorem checkC : CheckC := by
 intro f w v hv hsz
 have hmf : ∀ (fn : Fn) (first cap : Array Value) (w : World), (Instr.makeFunc fn first cap).run Tryz.prog w = .ok (.func fn first cap) w := fun _ _ _ _ => rfl
 obtain ⟨A, c, rfl⟩ := hv.shape
 have HO : Hid (f.ok = (Fo.right 1 f && decide (f.all.length ≤ 8192))) := hHd rfl
 have hal : f.all.length ≤ 22000000000000 := by have := f.all_le; omega
 go_enter Tryz.func57, Tryz.ntmps57
 go_wp2_with fail
 have b1 : Blk (w.alloc (.cells #[.int .i64 0] 3)) w.heap.size 3 #[.int .i64 ((0 : Nat) : Int)] := Blk.new _ _ _
 have b2 := Blk.new (w.alloc (.cells #[.int .i64 0] 3)) 139 #[.func (.func 90) #[] #[.pointer (some ⟨w.heap.size, 0, none⟩), .pointer (some ⟨w.heap.size + 1, 0, none⟩)]]
 rw [World.size_alloc] at b2
 have hB' : Below w.heap.size w ((w.alloc (.cells #[.int .i64 0] 3)).alloc (.cells #[.func (.func 90) #[] #[.pointer (some ⟨w.heap.size, 0, none⟩), .pointer (some ⟨w.heap.size + 1, 0, none⟩)]] 139)) := ((Below.refl _ w).alloc (Nat.le_refl _) _).alloc (by simp) _
 have hv' := lo_lt hv hB'
 have z := hB'.size
 refine (sound_any f _ _ w.heap.size w.heap.size (w.heap.size + 1) 1 0 1 hv' hsz (by omega) rfl (by omega) (Nat.le_refl _) (by omega) z (by omega) (b1.alloc _) b2).mono ?_
 rintro r w1 ⟨b, rfl, hb, hg, -⟩
 have hB1 := below_of_grownI hB' hg (Nat.le_refl _)
 have HB := hHd hb
 clear hg hB' hv' b1 b2 z hb
 cases b with
 | false =>
  have HP : Hid (f.ok = false) := hHd (by
   rw [HO.out]
   cases hr : Fo.right 1 f with
   | false => rfl
   | true =>
    have h := HB.out
    rw [hr, Bool.true_and] at h
    have h2 : ¬ 0 + f.cnt ≤ 4096 := of_decide_eq_false h.symm
    have h3 := Fo.cnt_all f 1 hr
    rw [Bool.true_and, show decide (f.all.length ≤ 8192) = false from decide_eq_false (by omega)])
  go_wp2
  go_ret
  exact ⟨by rw [HP.out]; rfl, hB1⟩
 | true =>
  have h := HB.out.symm
  rw [Bool.and_eq_true, decide_eq_true_eq] at h
  obtain ⟨hr, hcn⟩ := h
  have HP : Hid (f.ok = decide ((f.all.length : Int) ≤ 8192)) := hHd (by
   rw [HO.out, hr, Bool.true_and]
   rw [Bool.eq_iff_iff]; simp; omega)
  have hv1 : FV DataI w1 (Lo w1) (.slice A f.len c) f := hv.kept stays_I (fun g hg => hB1.block g hg) (fun _ hg => Nat.lt_of_lt_of_le hg hB1.size)
  have HC := hHd (size_cnt f w1 _ hv1 hsz (by omega))
  clear hr hcn hv1
  go_wp2_with fail
  refine HC.out.mono ?_
  rintro r w2 ⟨rfl, hb2⟩
  go_wp2
  go_ret
  exact ⟨by rw [HP.out]; rfl, hB1.trans (hb2.mono hB1.size)⟩
def SelfE (w : World) (eb : Nat) : Prop := Blk w eb 99 #[.func (.func 58) #[] #[.pointer (some ⟨eb, 0, none⟩)]]
def Else (dc : Nat) (C : List UInt8) (u : Value) : Prop := ∀ k, u.ownBlock = some k → 0 < C.length → dc ≠ k
theorem app_else {w w' : World} {base dc : Nat} {u v' cv : Value} {C l : List UInt8} (hap : AppPost w base u l v' w') (hrc : Rd w dc cv C) (he : Else dc C u) : Rd w' dc cv C ∧ Else dc C v' := by
 by_cases h0 : 0 < C.length
 ·have hlt := hrc.lt h0
  refine ⟨hrc.heap (hap.2.1.block dc hlt (fun e => he dc e.symm h0 rfl)), fun k hk _ e => ?_⟩
  rcases hap.2.2 with h | h
  ·rw [h] at hk; exact he k hk h0 e
  ·rw [h] at hk; injection hk with hk; omega
 ·have : C = [] := List.eq_nil_of_length_eq_zero (by omega)
  subst this
  obtain ⟨A, c, rfl, h1, h2, _⟩ := hrc
  exact ⟨⟨A, c, rfl, h1, h2, fun h => absurd h (by simp)⟩, fun _ _ h => absurd h (by simp)⟩
def EncPI (f : Fo) (w : World) (r : Ending) (w' : World) : Prop := ∃ v, r = .returned v ∧ Own w' w.heap.size v f.all ∧ Below w.heap.size w w'
def EncAt (k : Fo) : Prop := ∀ (w : World) (v : Value) (eb : Nat), FV DataI w (Lo w) v k → k.sz ≤ 1099511627776 → SelfE w eb → Calls Tryz.prog 58 #[v, .pointer (some ⟨eb, 0, none⟩)] w (EncPI k w)
theorem put_at (x : Nat) (xI : Int) (P : List UInt8) (w : World) (h : x < 18446744073709551616) (e : xI = (x : Int)) (hP : P = encV 9 x) :
  Calls Tryz.prog 33 #[.int .u64 xI] w fun r w' => ∃ v d, r = .returned v ∧ Rd w' d v P ∧ Below w.heap.size w w' := by
 subst e hP
 exact (put_any x h w).mono fun r w' ⟨v, d, h1, h2, _, h4⟩ => ⟨v, d, h1, h2, h4⟩
theorem enc_any (f : Fo) : EncAt f := by
 refine Fo.byKids (P := EncAt) ?_ f
 clear f
 intro f hkids w v eb hv hsz hself
 obtain ⟨A, c, rfl⟩ := hv.shape
 have hws := f.wt_le_sz
 have hlw := f.len_le_wt
 have hal := f.all_le
 have hlen40 : f.len ≤ 1099511627776 := by omega
 have hall : f.all.length ≤ 22000000000000 := by omega
 have HK : Hid (Fo.kidsAll EncAt f) := hHd hkids
 clear hkids hws hlw hal
 go_enter Tryz.func58, Tryz.ntmps58
 go_wp2
 go_loopw [4, 10] (fun u i wr => ∃ (j : Nat) (T : List UInt8), j ≤ f.len ∧ i = .int .i64 (j : Int) ∧ T.length ≤ 22000000000000 ∧ Hid (T = (Fo.take j f).all) ∧ Own wr w.heap.size u T ∧ Below w.heap.size w wr) (fun _ i _ => f.len - (intOf i).toNat)
 case atStart => exact ⟨0, [], Nat.zero_le _, rfl, by simp, hHd rfl, Own.nil _ _, Below.refl _ _⟩
 case round =>
  obtain ⟨j, T, hj, rfl, hT13, HT, hown, hB⟩ := hrel
  by_cases hlt : j < f.len
  ·obtain ⟨b, o, c', t, d, k, hve, hcap, hS, hdr, htk, ht64, hk0, ⟨dv, hk1, db, hdv, hdS⟩, ⟨kv, hk2, hkv⟩⟩ := hv.at hlt
   injection hve with e1 e2 e3
   subst e1 e3
   have hSb : b < w.heap.size := hS
   obtain ⟨A1, c1, rfl⟩ : ∃ D cd, dv = .slice D d.length cd := by obtain ⟨D, cd, e, _⟩ := hdv; exact ⟨D, cd, e⟩
   have hdl := hdv.len
   obtain ⟨A2, c2, rfl⟩ := hkv.shape
   have z1 := hB.size
   have hC0 : wr.cell? ⟨b, o + j * 3, none⟩ = some (.int .u64 (t : Int)) := (hB.cell (p := ⟨b, o + j * 3, none⟩) hSb).trans hk0
   have hC1 : wr.cell? ⟨b, o + j * 3 + 1, none⟩ = some (.slice A1 d.length c1) := (hB.cell (p := ⟨b, o + j * 3 + 1, none⟩) hSb).trans hk1
   have hC2 : wr.cell? ⟨b, o + j * 3 + 2, none⟩ = some (.slice A2 k.len c2) := (hB.cell (p := ⟨b, o + j * 3 + 2, none⟩) hSb).trans hk2
   have hdrop : (Fo.drop j f).sz ≤ f.sz := by
    have h := Fo.sz_app (Fo.take j f) (Fo.drop j f)
    rw [Fo.take_app_drop] at h
    omega
   rw [hdr] at hdrop
   simp only [Fo.sz] at hdrop
   have hIH : EncAt k := by
    have h := Fo.kidsAll_drop j HK.out
    rw [hdr] at h
    exact h.1
   have hks40 : k.sz ≤ 1099511627776 := by omega
   have i1 : (0 : Int) ≤ (j : Int) := by omega
   have i2 : (j : Int) < (f.len : Int) := by omega
   obtain ⟨P, hP⟩ : ∃ P, P = encV 9 t := ⟨_, rfl⟩
   obtain ⟨I, hI⟩ : ∃ I, I = Fo.inn t d k.all := ⟨_, rfl⟩
   obtain ⟨L, hL⟩ : ∃ L, L = encV 9 I.length := ⟨_, rfl⟩
   obtain ⟨T1, hT1⟩ : ∃ T1, T1 = T ++ P := ⟨_, rfl⟩
   obtain ⟨T2, hT2⟩ : ∃ T2, T2 = T1 ++ L := ⟨_, rfl⟩
   obtain ⟨T3, hT3⟩ : ∃ T3, T3 = T2 ++ I := ⟨_, rfl⟩
   have hTn : T3 = (Fo.take (j + 1) f).all := by rw [Fo.all_take j htk, hT3, hT2, hT1, hL, hP, hI, HT.out]; simp only [List.append_assoc]
   have hTl : T3.length ≤ f.all.length := by rw [hTn]; exact Fo.all_take_le _ _
   have l1 : T1.length = T.length + P.length := by rw [hT1, List.length_append]
   have l2 : T2.length = T1.length + L.length := by rw [hT2, List.length_append]
   have l3 : T3.length = T2.length + I.length := by rw [hT3, List.length_append]
   have b1 : T.length + P.length ≤ 140737488355328 := by omega
   have b2 : T1.length + L.length ≤ 140737488355328 := by omega
   have b3 : T2.length + I.length ≤ 140737488355328 := by omega
   have b4 : T3.length ≤ 22000000000000 := by omega
   have b5 : I.length ≤ 22000000000000 := by omega
   have b6 : I.length < 18446744073709551616 := by omega
   have HT64 := hHd ht64
   have HI64 := hHd b6
   have HP := hHd hP
   have HI := hHd hI
   have HL := hHd hL
   have HT1 := hHd hT1
   have HT2 := hHd hT2
   have HT3 := hHd hT3
   have HTN := hHd hTn
   have HB1 := hHd b1
   have HB2 := hHd b2
   have HB3 := hHd b3
   have HKV := hHd hkv
   have HIH := hHd hIH
   have HRD := hHd hdv
   have HDS := hHd hdS
   have HIA : Hid (Blk (wr.alloc (.cells #[.int .u64 (t : Int), .slice A1 d.length c1, .slice A2 k.len c2] 48)) wr.heap.size 48 #[.int .u64 (t : Int), .slice A1 d.length c1, .slice A2 k.len c2]) := hHd (Blk.new wr _ _)
   have hBA := hB.alloc hB.size (.cells #[.int .u64 (t : Int), .slice A1 d.length c1, .slice A2 k.len c2] 48)
   have hownA := hown.below ((Below.refl wr.heap.size wr).alloc (Nat.le_refl _) (.cells #[.int .u64 (t : Int), .slice A1 d.length c1, .slice A2 k.len c2] 48))
   clear hIH hkv hdr htk hk0 hk1 hk2 e2 hS hdrop hsz hdv hdS ht64 HK hP hI hL hT1 hT2 hT3 hTn hTl l1 l2 l3 b1 b2 b3 b6 hown
   by_cases hodd : t % 2 = 1
   ·have HIk : Hid (I = k.all) := hHd (by have h := HI.out; rw [h]; unfold Fo.inn; rw [if_pos hodd])
    have HC := hHd (fun w => nests_yes t (.slice A1 d.length c1) (.slice A2 k.len c2) w hodd)
    clear hodd HI
    go_wp2_with fail
    refine (HC.out _).mono ?_
    rintro r w1 ⟨rfl, hb1⟩
    have hB1 := hBA.trans (hb1.mono hBA.size)
    have z3 := hB1.size
    have hown1 := hownA.below hb1
    have HI1 : Hid (Blk w1 wr.heap.size 48 #[.int .u64 (t : Int), .slice A1 d.length c1, .slice A2 k.len c2]) := hHd (HIA.out.below hb1 HIA.out.lt)
    have hself1 : SelfE w1 eb := Blk.below hself hB1 (Blk.lt hself)
    have hkv1 : FV DataI w1 (Lo w1) (.slice A2 k.len c2) k := HKV.out.kept stays_I (fun g hg => hB1.block g hg) (fun _ hg => Nat.lt_of_lt_of_le hg hB1.size)
    have HII := hHd (HIH.out w1 (.slice A2 k.len c2) eb hkv1 hks40 hself1)
    have s1 : w1.cell? ⟨eb, 0, none⟩ = some (.func (.func 58) #[] #[.pointer (some ⟨eb, 0, none⟩)]) := by rw [hself1.cell]; rfl
    have v2 : w1.cell? ⟨wr.heap.size, 2, none⟩ = some (.slice A2 k.len c2) := by rw [HI1.out.cell]; rfl
    clear hb1 hself1 hkv1 hC0 hC1 hC2 HIA hBA hownA hB
    go_wp2_with fail
    refine HII.out.mono ?_
    rintro r w2 ⟨cv, rfl, hcv, hb2⟩
    rw [← HIk.out] at hcv
    obtain ⟨dc, hdc1, hdc2, hrcX⟩ := hcv.rd (by omega)
    have heX : Else dc I u4 := fun q hq h0 e => by
     have h1 := (World.ownsRow.lt hown1 q hq).2
     omega
    have v0 : w2.cell? ⟨wr.heap.size, 0, none⟩ = some (.int .u64 (t : Int)) := (hb2.cell (p := ⟨wr.heap.size, 0, none⟩) HI1.out.lt).trans (by rw [HI1.out.cell]; rfl)
    have hownX := hown1.below hb2
    have hbX := hB1.trans (hb2.mono hB1.size)
    obtain ⟨A3, c3, rfl⟩ : ∃ A c, cv = .slice A I.length c := by obtain ⟨A, c, h, _⟩ := id hrcX; exact ⟨A, c, h⟩
    clear hb2 s1 v2 HI1 hown1 hB1 z3 hcv hdc1 hdc2
    go_wp2_with fail
    refine (put_at t _ P _ HT64.out rfl HP.out).mono ?_
    rintro r w3 ⟨v3, d3, rfl, hr3, hb3⟩
    have hown3 := hownX.below hb3
    have hbw3 := hbX.trans (hb3.mono hbX.size)
    have hrc3 := hrcX.below' hb3
    clear hb3 v0 hownX hbX hrcX
    go_wp2_with (at_builtin; refine wpList_append_rd rfl (.tmp 22) (.tmp 25) rfl rfl w.heap.size _ T rfl hown3 _ _ P rfl hr3 ?h1 ?h2 ?_)
    case h1 => exact HB1.out
    case h2 => exact hbw3.size
    intro v4 w4 hap
    obtain ⟨hrc4, heY⟩ := app_else hap hrc3 heX
    have hbw4 := hbw3.trans (hap.below hown3 hbw3.size)
    have hown4 : Own w4 w.heap.size v4 T1 := by rw [HT1.out]; exact hap.1
    clear hap hown3 hbw3 hrc3 hr3 heX
    go_wp2_with fail
    refine (put_at I.length _ L _ HI64.out rfl HL.out).mono ?_
    rintro r w5 ⟨v5, d5, rfl, hr5, hb5⟩
    have hown5 := hown4.below hb5
    have hbw5 := hbw4.trans (hb5.mono hbw4.size)
    have hrc5 := hrc4.below' hb5
    clear hb5 hown4 hbw4 hrc4
    go_wp2_with (at_builtin; refine wpList_append_rd rfl (.tmp 27) (.tmp 31) rfl rfl w.heap.size _ T1 rfl hown5 _ _ L rfl hr5 ?h1 ?h2 ?_)
    case h1 => exact HB2.out
    case h2 => exact hbw5.size
    intro v6 w6 hap
    obtain ⟨hrc6, -⟩ := app_else hap hrc5 heY
    have hbw6 := hbw5.trans (hap.below hown5 hbw5.size)
    have hown6 : Own w6 w.heap.size v6 T2 := by rw [HT2.out]; exact hap.1
    clear hap hown5 hbw5 hrc5 hr5 heY
    go_wp2_with (at_builtin; refine wpList_append_rd rfl (.tmp 33) (.tmp 34) rfl rfl w.heap.size _ T2 rfl hown6 _ _ I rfl hrc6 ?h1 ?h2 ?_)
    case h1 => exact HB3.out
    case h2 => exact hbw6.size
    intro v7 w7 hap
    have hbw7 := hbw6.trans (hap.below hown6 hbw6.size)
    have hown7 : Own w7 w.heap.size v7 T3 := by rw [HT3.out]; exact hap.1
    clear hap hown6 hbw6 hrc6
    go_wp2
    go_roundw
    case rel => exact ⟨j + 1, T3, by omega, by go_num, b4, HTN, hown7, hbw7⟩
    case measure => simp [intOf]; omega
   ·have HIk : Hid (I = d) := hHd (by have h := HI.out; rw [h]; unfold Fo.inn; rw [if_neg hodd])
    obtain rfl : I = d := HIk.out
    have HC := hHd (fun w => nests_no t (.slice A1 I.length c1) (.slice A2 k.len c2) w hodd)
    clear hodd HI HIk
    go_wp2_with fail
    refine (HC.out _).mono ?_
    rintro r w1 ⟨rfl, hb1⟩
    have hbX := hBA.trans (hb1.mono hBA.size)
    have hownX := hownA.below hb1
    have hrcX : Rd w1 db (.slice A1 I.length c1) I := HRD.out.keepS HDS.out hbX
    have heX : Else db I u4 := fun q hq h0 e => by
     have h1 := (World.ownsRow.lt hownX q hq).1
     have h2 : db < w.heap.size := HDS.out h0
     omega
    have v0 : w1.cell? ⟨wr.heap.size, 0, none⟩ = some (.int .u64 (t : Int)) := by rw [(HIA.out.below hb1 HIA.out.lt).cell]; rfl
    clear hb1 hC0 hC1 hC2 HIA hBA hownA hB
    go_wp2_with fail
    refine (put_at t _ P _ HT64.out rfl HP.out).mono ?_
    rintro r w3 ⟨v3, d3, rfl, hr3, hb3⟩
    have hown3 := hownX.below hb3
    have hbw3 := hbX.trans (hb3.mono hbX.size)
    have hrc3 := hrcX.below' hb3
    clear hb3 v0 hownX hbX hrcX
    go_wp2_with (at_builtin; refine wpList_append_rd rfl (.tmp 22) (.tmp 25) rfl rfl w.heap.size _ T rfl hown3 _ _ P rfl hr3 ?h1 ?h2 ?_)
    case h1 => exact HB1.out
    case h2 => exact hbw3.size
    intro v4 w4 hap
    obtain ⟨hrc4, heY⟩ := app_else hap hrc3 heX
    have hbw4 := hbw3.trans (hap.below hown3 hbw3.size)
    have hown4 : Own w4 w.heap.size v4 T1 := by rw [HT1.out]; exact hap.1
    clear hap hown3 hbw3 hrc3 hr3 heX
    go_wp2_with fail
    refine (put_at I.length _ L _ HI64.out rfl HL.out).mono ?_
    rintro r w5 ⟨v5, d5, rfl, hr5, hb5⟩
    have hown5 := hown4.below hb5
    have hbw5 := hbw4.trans (hb5.mono hbw4.size)
    have hrc5 := hrc4.below' hb5
    clear hb5 hown4 hbw4 hrc4
    go_wp2_with (at_builtin; refine wpList_append_rd rfl (.tmp 27) (.tmp 31) rfl rfl w.heap.size _ T1 rfl hown5 _ _ L rfl hr5 ?h1 ?h2 ?_)
    case h1 => exact HB2.out
    case h2 => exact hbw5.size
    intro v6 w6 hap
    obtain ⟨hrc6, -⟩ := app_else hap hrc5 heY
    have hbw6 := hbw5.trans (hap.below hown5 hbw5.size)
    have hown6 : Own w6 w.heap.size v6 T2 := by rw [HT2.out]; exact hap.1
    clear hap hown5 hbw5 hrc5 hr5 heY
    go_wp2_with (at_builtin; refine wpList_append_rd rfl (.tmp 33) (.tmp 34) rfl rfl w.heap.size _ T2 rfl hown6 _ _ I rfl hrc6 ?h1 ?h2 ?_)
    case h1 => exact HB3.out
    case h2 => exact hbw6.size
    intro v7 w7 hap
    have hbw7 := hbw6.trans (hap.below hown6 hbw6.size)
    have hown7 : Own w7 w.heap.size v7 T3 := by rw [HT3.out]; exact hap.1
    clear hap hown6 hbw6 hrc6
    go_wp2
    go_roundw
    case rel => exact ⟨j + 1, T3, by omega, by go_num, b4, HTN, hown7, hbw7⟩
    case measure => simp [intOf]; omega
  ·obtain rfl : j = f.len := by omega
   have hTe : T = f.all := by rw [HT.out, Fo.take_all]
   subst hTe
   obtain ⟨d9, -, -, hr9⟩ := hown.rd (by omega)
   obtain ⟨A9, c9, rfl⟩ : ∃ A c, u4 = .slice A f.all.length c := by obtain ⟨A, c, h, _⟩ := hr9; exact ⟨A, c, h⟩
   have HO := hHd hown
   clear hlt hown
   go_wp2
   go_ret
   exact ⟨_, rfl, HO.out, hB⟩
theorem putC : PutC := by
 intro f w v hv hsz
 have hmf : ∀ (fn : Fn) (first cap : Array Value) (w : World), (Instr.makeFunc fn first cap).run Tryz.prog w = .ok (.func fn first cap) w := fun _ _ _ _ => rfl
 have HC := hHd (checkC f w v hv hsz)
 obtain ⟨A, c, rfl⟩ := hv.shape
 cases hok : f.ok with
 | false =>
  rw [hok] at HC
  have HP : Hid (∀ w', Below w.heap.size w w' → PutP f w (.returned (.tuple #[.slice none 0 0, .int .i64 1])) w') := hHd (fun w' hb => by
   refine ⟨.slice none 0 0, by rw [hok]; rfl, ?_, hb⟩
   rw [hok]; exact Own.nil _ _)
  clear hok
  go_enter Tryz.func32, Tryz.ntmps32
  go_wp2_with fail
  refine HC.out.mono ?_
  rintro r w1 ⟨rfl, hb1⟩
  go_wp2
  go_ret2
  exact HP.out _ hb1
 | true =>
  rw [hok] at HC
  have HP : Hid (∀ w' v, Own w' w.heap.size v f.all → Below w.heap.size w w' → PutP f w (.returned (.tuple #[v, .int .i64 0])) w') := hHd (fun w' v ho hb => by
   refine ⟨v, by rw [hok]; rfl, ?_, hb⟩
   rw [hok]; exact ho)
  clear hok
  have hal : f.all.length ≤ 22000000000000 := by have := f.all_le; omega
  go_enter Tryz.func32, Tryz.ntmps32
  go_wp2_with fail
  refine HC.out.mono ?_
  rintro r w1 ⟨rfl, hb1⟩
  have b2 : SelfE (w1.alloc (.cells #[.func (.func 58) #[] #[.pointer (some ⟨w1.heap.size, 0, none⟩)]] 99)) w1.heap.size := Blk.new w1 _ _
  have hB := hb1.alloc hb1.size (.cells #[.func (.func 58) #[] #[.pointer (some ⟨w1.heap.size, 0, none⟩)]] 99)
  have hv1 : FV DataI (w1.alloc (.cells #[.func (.func 58) #[] #[.pointer (some ⟨w1.heap.size, 0, none⟩)]] 99)) (Lo (w1.alloc (.cells #[.func (.func 58) #[] #[.pointer (some ⟨w1.heap.size, 0, none⟩)]] 99))) (.slice A f.len c) f := hv.kept stays_I (fun g hg => hB.block g hg) (fun _ hg => Nat.lt_of_lt_of_le hg hB.size)
  have HI := hHd (enc_any f _ _ _ hv1 hsz b2)
  have HB := hHd hB
  clear b2 hB hv1 hb1
  go_wp2_with fail
  refine HI.out.mono ?_
  rintro r w2 ⟨v2, rfl, ho, hb2⟩
  have hB2 := HB.out.trans (hb2.mono HB.out.size)
  obtain ⟨d9, -, -, hr9⟩ := ho.rd (by omega)
  obtain ⟨A9, c9, rfl⟩ : ∃ A c, v2 = .slice A f.all.length c := by obtain ⟨A, c, h, _⟩ := hr9; exact ⟨A, c, h⟩
  have ho2 : Own w2 w.heap.size (.slice A9 f.all.length c9) f.all := by
   refine ⟨ho.1, ?_⟩
   rcases ho.2 with h | ⟨g, cap, cur, h1, h2, h3⟩
   ·exact .inl h
   ·exact .inr ⟨g, cap, cur, h1, Nat.le_trans HB.out.size h2, h3⟩
  have HO := hHd ho2
  clear ho ho2 hb2 hr9
  go_wp2
  go_ret2
  exact HP.out _ _ HO.out hB2
end Go.Proofs.YtodlhgflfcadmaaGreat
