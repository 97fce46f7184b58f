/-
  What package tlv's closure in Size answers, and how it counts. No condition but those of each theorem.
-/
import Derived.Test.YtdpaijechogmlaaTlvFnB
import Derived.Test.YtdpaijechogmlaaVarB
namespace Go.Proofs.Ytdpaijechogmlaa
open Go.RowKit
set_option linter.unusedSimpArgs false

/-- The box of a closure that calls itself. -/
def SelfS (w : World) (sb cb : Nat) : Prop := Blk w sb 54 #[.func (.func 26) #[] #[.pointer (some ⟨cb, 0, none⟩), .pointer (some ⟨sb, 0, none⟩)]]

def SizeP (f : Fo) (c0 cb : Nat) (w : World) (r : Ending) (w' : World) : Prop :=
  r = .returned (.int .i64 (f.all.length : Int)) ∧ w.grownBy w' (some cb) ∧ ∃ q, q ≤ c0 + f.cnt ∧ Blk w' cb 3 #[.int .i64 (q : Int)]

def SizeAt (k : Fo) : Prop := ∀ (w : World) (v : Value) (B cb sb deep c0 : Nat) (dI : Int), FV DataI w (Lt B) v k → k.sz ≤ 1099511627776 → deep + k.cnt ≤ 65537 → c0 + k.cnt ≤ 100000 → dI = (deep : Int) → B ≤ cb → B ≤ sb → B ≤ w.heap.size → cb ≠ sb →
    Blk w cb 3 #[.int .i64 (c0 : Int)] → SelfS w sb cb →
    Calls Try.prog 26 #[v, .int .i64 dI, .pointer (some ⟨cb, 0, none⟩), .pointer (some ⟨sb, 0, none⟩)] w (SizeP k c0 cb w)

theorem len_at (x : Nat) (xI : Int) (L : Nat) (w : World) (h : x < 18446744073709551616) (e : xI = (x : Int)) (hL : L = (encV 9 x).length) :
    Calls Try.prog 27 #[.int .u64 xI] w fun r w' => r = .returned (.int .i64 (L : Int)) ∧ Below w.heap.size w w' := by
  subst e hL
  exact len_any x h w

set_option maxRecDepth 100000 in
set_option maxHeartbeats 4000000 in
theorem size1_any (f : Fo) : SizeAt f := by
  refine Fo.byKids (P := SizeAt) ?_ f
  clear f
  intro f hkids w v B cb sb deep c0 dI hv hsz hd hc0 hdI hBc hBs hBw hne hblk hself
  subst hdI
  obtain ⟨A, c, rfl⟩ := hv.shape
  have hws := f.wt_le_sz
  have hlw := f.len_le_wt
  have hal := f.all_le
  have hlen40 : f.len ≤ 1099511627776 := by omega
  have hall : f.all.length ≤ 22000000000000 := by omega
  have HK : Hid (Fo.kidsAll SizeAt f) := Lib.hid hkids
  clear hkids hws hlw hal
  go_enter Try.func26, Try.ntmps26
  go_wp2
  go_loopw [7, 13] (fun u i wr => ∃ (j q S : Nat), j ≤ f.len ∧ i = .int .i64 (j : Int) ∧ u = .int .i64 (S : Int) ∧ S ≤ 22000000000000 ∧ q ≤ 100000 ∧ Hid (q ≤ c0 + (Fo.take j f).cnt) ∧ Hid (S = (Fo.take j f).all.length) ∧ Hid (Blk wr cb 3 #[.int .i64 (q : Int)]) ∧ Hid (w.grownBy wr (some cb))) (fun _ i _ => f.len - (intOf i).toNat)
  case atStart => exact ⟨0, c0, 0, Nat.zero_le _, rfl, rfl, by omega, by omega, Lib.hid (Nat.le_refl _), Lib.hid rfl, Lib.hid hblk, Lib.hid (World.grownBy.refl _ _)⟩
  case round =>
    obtain ⟨j, q, S, hj, rfl, rfl, hS13, hq4, HQ, HS, HB, HG⟩ := hrel
    by_cases hlt : j < f.len
    · obtain ⟨b, o, c', t, d, k, hve, hcap, hS, hdr, htk, ht64, hk0, ⟨dv, hk1, db, hdv, hdS⟩, ⟨kv, hk2, hkv⟩⟩ := hv.at hlt
      injection hve with e1 e2 e3
      subst e1 e3
      have hSb : b < B := hS
      obtain ⟨A1, c1, rfl⟩ : ∃ D cd, dv = .slice D d.length cd := by obtain ⟨D, cd, e, _⟩ := hdv; exact ⟨D, cd, e⟩
      have hdl := hdv.len
      obtain ⟨A2, c2, rfl⟩ := hkv.shape
      have hG := HG.out
      have hne0 : b ≠ cb := by omega
      have hcw := hblk.lt
      have z1 := hG.size
      have hC0 : wr.cell? ⟨b, o + j * 3, none⟩ = some (.int .u64 (t : Int)) := hG.cell hk0 (by simpa using hne0)
      have hC1 : wr.cell? ⟨b, o + j * 3 + 1, none⟩ = some (.slice A1 d.length c1) := hG.cell hk1 (by simpa using hne0)
      have hC2 : wr.cell? ⟨b, o + j * 3 + 2, none⟩ = some (.slice A2 k.len c2) := hG.cell hk2 (by simpa using hne0)
      have hdrop : (Fo.drop j f).sz ≤ f.sz := by
        have h := Fo.sz_app (Fo.take j f) (Fo.drop j f)
        rw [Fo.take_app_drop] at h
        omega
      rw [hdr] at hdrop
      simp only [Fo.sz] at hdrop
      have hIH : SizeAt k := by
        have h := Fo.kidsAll_drop j HK.out
        rw [hdr] at h
        exact h.1
      have hks40 : k.sz ≤ 1099511627776 := by omega
      have hct : (Fo.take (j + 1) f).cnt = (Fo.take j f).cnt + (1 + k.cnt) := by rw [htk, Fo.cnt_app]; simp [Fo.cnt]
      have hcl := Fo.cnt_take_le (j + 1) f
      have hcq : q + 1 + k.cnt ≤ c0 + f.cnt := by have := HQ.out; omega
      have hck : k.cnt + 1 ≤ f.cnt := by omega
      have i1 : (0 : Int) ≤ (j : Int) := by omega
      have i2 : (j : Int) < (f.len : Int) := by omega
      obtain ⟨I, hI⟩ : ∃ I, I = (Fo.inn t d k.all).length := ⟨_, rfl⟩
      obtain ⟨L1, hL1⟩ : ∃ L1, L1 = (encV 9 t).length := ⟨_, rfl⟩
      obtain ⟨L2, hL2⟩ : ∃ L2, L2 = (encV 9 I).length := ⟨_, rfl⟩
      obtain ⟨S', hS'⟩ : ∃ S', S' = S + (L1 + L2 + I) := ⟨_, rfl⟩
      have hSt : S' = (Fo.take (j + 1) f).all.length := by rw [Fo.all_take j htk, hS', HS.out, hL1, hL2, hI]; simp only [List.length_append]
      have hSl : S' ≤ f.all.length := by rw [hSt]; exact Fo.all_take_le _ _
      have hI13 : I ≤ 22000000000000 := by omega
      have hL13 : L1 ≤ 22000000000000 := by omega
      have hL23 : L2 ≤ 22000000000000 := by omega
      have hS13' : S' ≤ 22000000000000 := by omega
      have hI64 : I < 18446744073709551616 := by omega
      have HKV := Lib.hid hkv
      have HIH := Lib.hid hIH
      have HCT := Lib.hid hct
      have HNE := Lib.hid hne
      have HT64 := Lib.hid ht64
      have HI64 := Lib.hid hI64
      have HL1 := Lib.hid hL1
      have HL2 := Lib.hid hL2
      have HS' := Lib.hid hS'
      have HST := Lib.hid hSt
      have hbc := HB.out.cell 0
      have hcc : (wr.alloc (.cells #[.int .u64 (t : Int), .slice A1 d.length c1, .slice A2 k.len c2] 46)).cell? ⟨cb, 0, none⟩ = some (.int .i64 (q : Int)) := by rw [(HB.out.alloc _).cell]; rfl
      have hcf : (wr.alloc (.cells #[.int .u64 (t : Int), .slice A1 d.length c1, .slice A2 k.len c2] 46)).frozen? ⟨cb, 0, none⟩ = false := (HB.out.alloc _).frozen 0
      have HBA : Hid (Blk ((wr.alloc (.cells #[.int .u64 (t : Int), .slice A1 d.length c1, .slice A2 k.len c2] 46)).setCell ⟨cb, 0, none⟩ (.int .i64 ((q : Int) + 1))) cb 3 #[.int .i64 ((q : Int) + 1)]) := Lib.hid ((HB.out.alloc _).set_ 0 _)
      have HGA : Hid (w.grownBy ((wr.alloc (.cells #[.int .u64 (t : Int), .slice A1 d.length c1, .slice A2 k.len c2] 46)).setCell ⟨cb, 0, none⟩ (.int .i64 ((q : Int) + 1))) (some cb)) := Lib.hid ((grown_alloc hG _).trans (grown_set _))
      have HIA : Hid (Blk ((wr.alloc (.cells #[.int .u64 (t : Int), .slice A1 d.length c1, .slice A2 k.len c2] 46)).setCell ⟨cb, 0, none⟩ (.int .i64 ((q : Int) + 1))) wr.heap.size 46 #[.int .u64 (t : Int), .slice A1 d.length c1, .slice A2 k.len c2]) := Lib.hid ((Blk.new wr _ _).far (by show wr.heap.size ≠ cb; omega) _)
      have hd1 : decide ((2147483647 : Int) < (q : Int) + 1) = false := decide_eq_false (by omega)
      have hd2 : decide ((65536 : Int) < (deep : Int)) = false := decide_eq_false (by omega)
      have x1 : ((wr.alloc (.cells #[.int .u64 (t : Int), .slice A1 d.length c1, .slice A2 k.len c2] 46)).setCell ⟨cb, 0, none⟩ (.int .i64 ((q : Int) + 1))).cell? ⟨cb, 0, none⟩ = some (.int .i64 ((q : Int) + 1)) := by rw [HBA.out.cell]; rfl
      have y0 : ((wr.alloc (.cells #[.int .u64 (t : Int), .slice A1 d.length c1, .slice A2 k.len c2] 46)).setCell ⟨cb, 0, none⟩ (.int .i64 ((q : Int) + 1))).cell? ⟨wr.heap.size, 0, none⟩ = some (.int .u64 (t : Int)) := by rw [HIA.out.cell]; rfl
      have y1 : ((wr.alloc (.cells #[.int .u64 (t : Int), .slice A1 d.length c1, .slice A2 k.len c2] 46)).setCell ⟨cb, 0, none⟩ (.int .i64 ((q : Int) + 1))).cell? ⟨wr.heap.size, 1, none⟩ = some (.slice A1 d.length c1) := by rw [HIA.out.cell]; rfl
      have y2 : ((wr.alloc (.cells #[.int .u64 (t : Int), .slice A1 d.length c1, .slice A2 k.len c2] 46)).setCell ⟨cb, 0, none⟩ (.int .i64 ((q : Int) + 1))).cell? ⟨wr.heap.size, 2, none⟩ = some (.slice A2 k.len c2) := by rw [HIA.out.cell]; rfl
      have HI := Lib.hid hI
      clear hIH hkv hdr htk hk0 hk1 hk2 e2 hS hdrop hsz hdv hdS ht64 hne hne0 HK hct hcl hI hL1 hL2 hS' hSt hSl hI64 hbc hG hblk
      by_cases hodd : t % 2 = 1
      · have HIk : Hid (I = k.all.length) := Lib.hid (by have h := HI.out; rw [h]; unfold Fo.inn; rw [if_pos hodd])
        have HC := Lib.hid (fun w => nests_yes t (.slice A1 d.length c1) (.slice A2 k.len c2) w hodd)
        clear hodd HI
        go_wp2_with fail
        refine (HC.out _).mono ?_
        rintro r w1 ⟨rfl, hb1⟩
        have HB1 : Hid (Blk w1 cb 3 #[.int .i64 ((q + 1 : Nat) : Int)]) := Lib.hid (HBA.out.below hb1 HBA.out.lt)
        have HI1 : Hid (Blk w1 wr.heap.size 46 #[.int .u64 (t : Int), .slice A1 d.length c1, .slice A2 k.len c2]) := Lib.hid (HIA.out.below hb1 HIA.out.lt)
        have HG1 : Hid (w.grownBy w1 (some cb)) := Lib.hid (grown_below HGA.out hb1)
        have z3 := HG1.out.size
        have hself1 : SelfS w1 sb cb := hself.grown HG1.out (by intro h; injection h with h; exact HNE.out h.symm)
        have hkv1 : FV DataI w1 (Lt B) (.slice A2 k.len c2) k := HKV.out.kept stays_I (fun g hg => HG1.out.block g (by have : g < B := hg; omega) (by have : g < B := hg; simp; omega)) (fun _ h => h)
        have HII := Lib.hid (HIH.out w1 (.slice A2 k.len c2) B cb sb (deep + 1) (q + 1) ((deep : Int) + 1) hkv1 hks40 (by omega) (by omega) (by omega) hBc hBs (by omega) HNE.out HB1.out hself1)
        have s1 : w1.cell? ⟨sb, 0, none⟩ = some (.func (.func 26) #[] #[.pointer (some ⟨cb, 0, none⟩), .pointer (some ⟨sb, 0, none⟩)]) := by rw [hself1.cell]; rfl
        have v2 : w1.cell? ⟨wr.heap.size, 2, none⟩ = some (.slice A2 k.len c2) := by rw [HI1.out.cell]; rfl
        clear hb1 hself1 hkv1 hcc hcf x1 y0 y1 y2 hC0 hC1 hC2 HBA HIA HGA
        go_wp2_with fail
        refine HII.out.mono ?_
        rintro r w2 ⟨rfl, hg2, QQ, hQQ, hq2⟩
        rw [← HIk.out]
        have HBX : Hid (Blk w2 cb 3 #[.int .i64 ((QQ : Nat) : Int)]) := Lib.hid hq2
        have HGX : Hid (w.grownBy w2 (some cb)) := Lib.hid (HG1.out.trans hg2)
        have v0 : w2.cell? ⟨wr.heap.size, 0, none⟩ = some (.int .u64 (t : Int)) := hg2.cell (by rw [HI1.out.cell]; rfl) (by simp; omega)
        clear hg2 hq2 s1 v2 HG1 HI1 HB1
        go_wp2_with fail
        refine (len_at t _ L1 _ HT64.out rfl HL1.out).mono ?_
        rintro r w3 ⟨rfl, hb3⟩
        go_wp2_with fail
        refine (len_at I _ L2 _ HI64.out rfl HL2.out).mono ?_
        rintro r w4 ⟨rfl, hb4⟩
        have HB4 : Hid (Blk w4 cb 3 #[.int .i64 ((QQ : Nat) : Int)]) := Lib.hid ((HBX.out.below hb3 HBX.out.lt).below hb4 (Nat.lt_of_lt_of_le HBX.out.lt hb3.size))
        have HG4 : Hid (w.grownBy w4 (some cb)) := Lib.hid (grown_below (grown_below HGX.out hb3) hb4)
        clear hb3 hb4
        go_wp2
        go_roundw
        case rel => exact ⟨j + 1, QQ, S', by omega, by go_num, by (show Value.int .i64 _ = Value.int .i64 _; congr 1; have := HS'.out; omega), hS13', by omega, Lib.hid (by have := HCT.out; have := HQ.out; omega), HST, HB4, HG4⟩
        case measure => simp [intOf]; omega
      · have HIk : Hid (I = d.length) := Lib.hid (by have h := HI.out; rw [h]; unfold Fo.inn; rw [if_neg hodd])
        obtain rfl : I = d.length := HIk.out
        have HC := Lib.hid (fun w => nests_no t (.slice A1 d.length c1) (.slice A2 k.len c2) w hodd)
        clear hodd HI HIk
        go_wp2_with fail
        refine (HC.out _).mono ?_
        rintro r w1 ⟨rfl, hb1⟩
        have HBX : Hid (Blk w1 cb 3 #[.int .i64 ((q + 1 : Nat) : Int)]) := Lib.hid (HBA.out.below hb1 HBA.out.lt)
        have v0 : w1.cell? ⟨wr.heap.size, 0, none⟩ = some (.int .u64 (t : Int)) := by rw [(HIA.out.below hb1 HIA.out.lt).cell]; rfl
        have HGX : Hid (w.grownBy w1 (some cb)) := Lib.hid (grown_below HGA.out hb1)
        obtain ⟨QQ, hQQ⟩ : ∃ QQ, QQ = q + 1 := ⟨_, rfl⟩
        rw [← hQQ] at HBX
        have hQQ : QQ ≤ q + 1 + k.cnt := by omega
        clear hb1 hcc hcf x1 y0 y1 y2 hC0 hC1 hC2 HBA HIA HGA
        go_wp2_with fail
        refine (len_at t _ L1 _ HT64.out rfl HL1.out).mono ?_
        rintro r w3 ⟨rfl, hb3⟩
        go_wp2_with fail
        refine (len_at d.length _ L2 _ HI64.out rfl HL2.out).mono ?_
        rintro r w4 ⟨rfl, hb4⟩
        have HB4 : Hid (Blk w4 cb 3 #[.int .i64 ((QQ : Nat) : Int)]) := Lib.hid ((HBX.out.below hb3 HBX.out.lt).below hb4 (Nat.lt_of_lt_of_le HBX.out.lt hb3.size))
        have HG4 : Hid (w.grownBy w4 (some cb)) := Lib.hid (grown_below (grown_below HGX.out hb3) hb4)
        clear hb3 hb4
        go_wp2
        go_roundw
        case rel => exact ⟨j + 1, QQ, S', by omega, by go_num, by (show Value.int .i64 _ = Value.int .i64 _; congr 1; have := HS'.out; omega), hS13', by omega, Lib.hid (by have := HCT.out; have := HQ.out; omega), HST, HB4, HG4⟩
        case measure => simp [intOf]; omega
    · obtain rfl : j = f.len := by omega
      have hSe : S = f.all.length := by rw [HS.out, Fo.take_all]
      subst hSe
      have HQ' : Hid (q ≤ c0 + f.cnt) := Lib.hid (by have h := HQ.out; rwa [Fo.take_all] at h)
      clear hlt
      go_wp2
      go_ret
      exact ⟨rfl, HG.out, q, HQ'.out, HB.out⟩

end Go.Proofs.Ytdpaijechogmlaa
