/-
  What package tlv's closure in Check answers, and how it counts. No condition but those of each theorem.
-/
import Derived.Test.YtdpaijechogmlaaTlvFnA
import Derived.Test.YtdpaijechogmlaaTlvRight
namespace Go.Proofs.Ytdpaijechogmlaa
open Go.RowKit
set_option linter.unusedSimpArgs false

/-- The blocks below B. -/
def Lt (B g : Nat) : Prop := g < B

/-- The box of a closure that calls itself. -/
def SelfC (w : World) (sb cb : Nat) : Prop := Blk w sb 52 #[.func (.func 23) #[] #[.pointer (some ⟨cb, 0, none⟩), .pointer (some ⟨sb, 0, none⟩)]]

def SoundP (f : Fo) (deep c0 cb : Nat) (w : World) (r : Ending) (w' : World) : Prop :=
  ∃ b, r = .returned (.bool b) ∧ b = (Fo.right deep f && decide (c0 + f.cnt ≤ 4096)) ∧ w.grownBy w' (some cb) ∧ (b = true → Blk w' cb 3 #[.int .i64 ((c0 + f.cnt : Nat) : Int)])

theorem grown_alloc {w w' : World} {cb : Nat} (h : w.grownBy w' (some cb)) (o : Obj) : w.grownBy (w'.alloc o) (some cb) := grown_below h ((Below.refl _ _).alloc (Nat.le_refl _) _)

def SoundAt (k : Fo) : Prop := ∀ (w : World) (v : Value) (B cb sb deep c0 : Nat) (dI : Int), FV DataI w (Lt B) v k → k.sz ≤ 1099511627776 → deep ≤ 7 → dI = (deep : Int) → c0 ≤ 4096 → B ≤ cb → B ≤ sb → B ≤ w.heap.size → cb ≠ sb →
    Blk w cb 3 #[.int .i64 (c0 : Int)] → SelfC w sb cb →
    Calls Try.prog 23 #[v, .int .i64 dI, .pointer (some ⟨cb, 0, none⟩), .pointer (some ⟨sb, 0, none⟩)] w (SoundP k deep c0 cb w)

set_option maxRecDepth 100000 in
set_option maxHeartbeats 4000000 in
theorem sound_any (f : Fo) : SoundAt f := by
  refine Fo.byKids (P := SoundAt) ?_ f
  clear f
  intro f hkids w v B cb sb deep c0 dI hv hsz hd7 hdI hc4 hBc hBs hBw hne hblk hself
  subst hdI
  obtain ⟨A, c, rfl⟩ := hv.shape
  have hws := f.wt_le_sz
  have hlw := f.len_le_wt
  have hlc := f.len_le_cnt
  have hlen40 : f.len ≤ 1099511627776 := by omega
  have HK : Hid (Fo.kidsAll SoundAt f) := Lib.hid hkids
  have hcell : w.cell? ⟨cb, 0, none⟩ = some (.int .i64 (c0 : Int)) := by rw [hblk.cell]; rfl
  have hfz : w.frozen? ⟨cb, 0, none⟩ = false := hblk.frozen 0
  have hb1 := hblk.set_ 0 (.int .i64 ((c0 + f.len : Nat) : Int))
  have hb1' : Blk (w.setCell ⟨cb, 0, none⟩ (.int .i64 ((c0 : Int) + (f.len : Int)))) cb 3 #[.int .i64 ((c0 : Int) + (f.len : Int))] := hb1
  have hc1 : (w.setCell ⟨cb, 0, none⟩ (.int .i64 ((c0 : Int) + (f.len : Int)))).cell? ⟨cb, 0, none⟩ = some (.int .i64 ((c0 : Int) + (f.len : Int))) := by rw [hb1'.cell]; rfl
  have hg1 : w.grownBy (w.setCell ⟨cb, 0, none⟩ (.int .i64 ((c0 : Int) + (f.len : Int)))) (some cb) := grown_set _
  clear hkids hws hlw hb1 hlc
  by_cases hgt : 4096 < c0 + f.len
  · have HP : Hid (SoundP f deep c0 cb w (.returned (.bool false)) (w.setCell ⟨cb, 0, none⟩ (.int .i64 ((c0 : Int) + (f.len : Int))))) := Lib.hid (by
      refine ⟨false, rfl, ?_, hg1, fun h => by cases h⟩
      have := f.len_le_cnt
      rw [decide_eq_false (by omega), Bool.and_false])
    have hgt2 : decide ((4096 : Int) < (c0 : Int) + (f.len : Int)) = true := decide_eq_true (by omega)
    clear hgt hg1 hb1'
    go_enter Try.func23, Try.ntmps23
    go_wp2
    go_ret
    exact HP.out
  · have hgt2 : decide ((4096 : Int) < (c0 : Int) + (f.len : Int)) = false := decide_eq_false (by omega)
    have hself1 : SelfC (w.setCell ⟨cb, 0, none⟩ (.int .i64 ((c0 : Int) + (f.len : Int)))) sb cb := hself.grown hg1 (by intro h; injection h with h; exact hne h.symm)
    go_enter Try.func23, Try.ntmps23
    go_wp2
    go_loopw [17] (fun i wr => ∃ (j q : Nat), j ≤ f.len ∧ i = .int .i64 (j : Int) ∧ q ≤ 4096 ∧ Hid (q + j = c0 + f.len + (Fo.take j f).cnt) ∧ Hid (Fo.right deep (Fo.take j f) = true) ∧ Hid (Blk wr cb 3 #[.int .i64 (q : Int)]) ∧ Hid (w.grownBy wr (some cb))) (fun i _ => f.len - (intOf i).toNat)
    case atStart => exact ⟨0, c0 + f.len, Nat.zero_le _, rfl, by omega, Lib.hid rfl, Lib.hid rfl, Lib.hid (by rw [Int.natCast_add]; exact hb1'), Lib.hid hg1⟩
    case round =>
      obtain ⟨j, q, hj, rfl, hq4, HQ, HR, HB, HG⟩ := hrel
      clear hcell hfz hc1 hgt2 hb1' hg1 hself1
      by_cases hlt : j < f.len
      · obtain ⟨b, o, c', t, d, k, hve, hcap, hS, hdr, htk, ht64, hk0, ⟨dv, hk1, db, hdv, hdS⟩, ⟨kv, hk2, hkv⟩⟩ := hv.at hlt
        injection hve with e1 e2 e3
        subst e1 e3
        have hSb : b < B := hS
        obtain ⟨A1, c1, rfl⟩ : ∃ D cd, dv = .slice D d.length cd := by obtain ⟨D, cd, e, _⟩ := hdv; exact ⟨D, cd, e⟩
        obtain ⟨A2, c2, rfl⟩ := hkv.shape
        have hG := HG.out
        have hne0 : b ≠ cb := by omega
        have hbW : b < w.heap.size := by omega
        have z1 := hG.size
        have hC0 : wr.cell? ⟨b, o + j * 3, none⟩ = some (.int .u64 (t : Int)) := hG.cell hk0 (by simpa using hne0)
        have hC1 : wr.cell? ⟨b, o + j * 3 + 1, none⟩ = some (.slice A1 d.length c1) := hG.cell hk1 (by simpa using hne0)
        have hC2 : wr.cell? ⟨b, o + j * 3 + 2, none⟩ = some (.slice A2 k.len c2) := hG.cell hk2 (by simpa using hne0)
        have hdrop : (Fo.drop j f).sz ≤ f.sz := by
          have h := Fo.sz_app (Fo.take j f) (Fo.drop j f)
          rw [Fo.take_app_drop] at h
          omega
        rw [hdr] at hdrop
        simp only [Fo.sz] at hdrop
        have hIH : SoundAt k := by
          have h := Fo.kidsAll_drop j HK.out
          rw [hdr] at h
          exact h.1
        have hks40 : k.sz ≤ 1099511627776 := by omega
        have hright := Fo.right_at deep j hdr
        have hrtake := Fo.right_take deep j htk
        have hpe := pureB_eq t d k
        rw [← hpe] at hright hrtake
        have i1 : (0 : Int) ≤ (j : Int) := by omega
        have i2 : (j : Int) < (f.len : Int) := by omega
        have HRT := Lib.hid hright
        have HRK := Lib.hid hrtake
        have HKV := Lib.hid hkv
        have HIH := Lib.hid hIH
        have HCT : Hid ((Fo.take (j + 1) f).cnt = (Fo.take j f).cnt + (1 + k.cnt)) := Lib.hid (by rw [htk, Fo.cnt_app]; simp [Fo.cnt])
        have HNE := Lib.hid hne
        have HNE0 := Lib.hid hne0
        clear hIH hkv hdr htk hk0 hk1 hk2 e2 hS hdrop hsz hright hrtake hpe hdv hdS ht64 hne hne0 HK
        by_cases h6 : 6 < deep
        · have hd6 : decide ((6 : Int) < (deep : Int)) = true := decide_eq_true (by omega)
          have HP : Hid (SoundP f deep c0 cb w (.returned (.bool false)) (wr.alloc (.cells #[.int .u64 (t : Int), .slice A1 d.length c1, .slice A2 k.len c2] 46))) := Lib.hid (by
            refine ⟨false, rfl, ?_, grown_alloc hG _, fun h => by cases h⟩
            rw [HRT.out, decide_eq_false (by omega : ¬ deep ≤ 6)]; simp)
          clear h6 hG
          go_wp2
          go_ret
          exact HP.out
        · have hd6 : decide ((6 : Int) < (deep : Int)) = false := decide_eq_false (by omega)
          have hdp : deep ≤ 6 := by omega
          clear h6
          go_wp2_with fail
          refine (pure_any t d.length k.len A1 A2 c1 c2 _).mono ?_
          rintro r w1 ⟨rfl, hb1⟩
          have hGA := grown_alloc hG (.cells #[.int .u64 (t : Int), .slice A1 d.length c1, .slice A2 k.len c2] 46)
          have hG1 := grown_below hGA hb1
          have z2 := hb1.size
          simp only [World.size_alloc] at z2
          obtain ⟨pb, hpb⟩ : ∃ pb, pb = pureB t d.length k.len := ⟨_, rfl⟩
          rw [← hpb]
          have HPB := Lib.hid hpb
          clear hpb
          cases pb with
          | false =>
            have HP : Hid (SoundP f deep c0 cb w (.returned (.bool false)) w1) := Lib.hid (by
              refine ⟨false, rfl, ?_, hG1, fun h => by cases h⟩
              rw [HRT.out, ← HPB.out]; simp)
            clear hG hGA hG1 hb1 hC0 hC1 hC2
            go_wp2
            go_ret
            exact HP.out
          | true =>
            have hself1 : SelfC w1 sb cb := hself.grown hG1 (by intro h; injection h with h; exact HNE.out h.symm)
            have hsc : w1.cell? ⟨sb, 0, none⟩ = some (.func (.func 23) #[] #[.pointer (some ⟨cb, 0, none⟩), .pointer (some ⟨sb, 0, none⟩)]) := by rw [hself1.cell]; rfl
            have hI2 : w1.cell? ⟨wr.heap.size, 2, none⟩ = some (.slice A2 k.len c2) := (hb1.cell (p := ⟨wr.heap.size, 2, none⟩) (by simp)).trans (by rw [(Blk.new wr _ _).cell]; rfl)
            have hq1 : Blk w1 cb 3 #[.int .i64 (q : Int)] := (HB.out.alloc _).below hb1 (by have := HB.out.lt; simp; omega)
            have hkv1 : FV DataI w1 (Lt B) (.slice A2 k.len c2) k := HKV.out.kept stays_I (fun g hg => hG1.block g (by have : g < B := hg; omega) (by have : g < B := hg; simp; omega)) (fun _ h => h)
            have HI := Lib.hid (HIH.out w1 (.slice A2 k.len c2) B cb sb (deep + 1) q ((deep : Int) + 1) hkv1 hks40 (by omega) (by omega) hq4 hBc hBs (by omega) HNE.out hq1 hself1)
            clear hG hGA hb1 hC0 hC1 hC2 hself1 hq1 hkv1
            go_wp2_with fail
            refine HI.out.mono ?_
            rintro r w2 ⟨b2, rfl, hb2, hg2, hcc⟩
            have hG2 := hG1.trans hg2
            have HB2 := Lib.hid hb2
            have HCC := Lib.hid hcc
            have HG2 := Lib.hid hG2
            clear hb2 hcc hG2 hg2 hG1 hI2 hsc
            cases b2 with
            | false =>
              have HP : Hid (SoundP f deep c0 cb w (.returned (.bool false)) w2) := Lib.hid (by
                refine ⟨false, rfl, ?_, HG2.out, fun h => by cases h⟩
                have h := HB2.out
                rw [HRT.out]
                cases h1 : Fo.right (deep + 1) k with
                | false => simp
                | true =>
                  rw [h1, Bool.true_and] at h
                  have h2 : ¬ q + k.cnt ≤ 4096 := of_decide_eq_false h.symm
                  have h3 := HQ.out
                  have h4 := HCT.out
                  have h5 := Fo.cnt_take_le (j + 1) f
                  have h6 := Fo.len_le_cnt (Fo.drop (j + 1) f)
                  have h7 := Fo.len_drop (j + 1) f
                  rw [show decide (c0 + f.cnt ≤ 4096) = false from decide_eq_false (by omega), Bool.and_false])
              go_wp2
              go_ret
              exact HP.out
            | true =>
              have h := HB2.out
              have hq' : q + k.cnt ≤ 4096 := by
                have h := h.symm
                rw [Bool.and_eq_true, decide_eq_true_eq] at h
                exact h.2
              have HR' : Hid (Fo.right deep (Fo.take (j + 1) f) = true) := Lib.hid (by
                have h := h.symm
                rw [Bool.and_eq_true] at h
                rw [HRK.out, HR.out, ← HPB.out, h.1, decide_eq_true hdp]; rfl)
              have HQ' : Hid ((q + k.cnt) + (j + 1) = c0 + f.len + (Fo.take (j + 1) f).cnt) := Lib.hid (by have h3 := HQ.out; have h4 := HCT.out; omega)
              have HBB := Lib.hid (HCC.out rfl)
              clear h
              go_wp2
              go_roundw
              case rel => exact ⟨j + 1, q + k.cnt, by omega, by go_num, hq', HQ', HR', HBB, HG2⟩
              case measure => simp [intOf]; omega
      · obtain rfl : j = f.len := by omega
        have hqq : q = c0 + f.cnt := by have h := HQ.out; rw [Fo.take_all] at h; omega
        have HP : Hid (SoundP f deep c0 cb w (.returned (.bool true)) wr) := Lib.hid (by
          refine ⟨true, rfl, ?_, HG.out, fun _ => by rw [← hqq]; exact HB.out⟩
          have h := HR.out
          rw [Fo.take_all] at h
          rw [h, decide_eq_true (by omega)]; rfl)
        clear hlt hqq
        go_wp2
        go_ret
        exact HP.out

end Go.Proofs.Ytdpaijechogmlaa
