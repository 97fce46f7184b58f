/-
  What package tlv's closure in Put, and Put, answer. No condition but those of each theorem.
-/
import Derived.Test.YtdpaijechogmlaaTlvFnD
namespace Go.Proofs.Ytdpaijechogmlaa
open Go.RowKit
set_option linter.unusedSimpArgs false

/-- The box of a closure that calls itself. -/
def SelfE (w : World) (eb : Nat) : Prop := Blk w eb 50 #[.func (.func 20) #[] #[.pointer (some ⟨eb, 0, none⟩)]]

/-- Bytes lie elsewhere than a slice. -/
def Else (dc : Nat) (C : List UInt8) (u : Value) : Prop := ∀ k, u.ownBlock = some k → 0 < C.length → dc ≠ k
theorem app_else {w w' : World} {base dc : Nat} {u v' cv : Value} {C l : List UInt8} (hap : AppPost w base u l v' w') (hrc : Rd w dc cv C) (he : Else dc C u) : Rd w' dc cv C ∧ Else dc C v' := by
  by_cases h0 : 0 < C.length
  · have hlt := hrc.lt h0
    refine ⟨hrc.heap (hap.2.1.block dc hlt (fun e => he dc e.symm h0 rfl)), fun k hk _ e => ?_⟩
    rcases hap.2.2 with h | h
    · rw [h] at hk; exact he k hk h0 e
    · rw [h] at hk; injection hk with hk; omega
  · have : C = [] := List.eq_nil_of_length_eq_zero (by omega)
    subst this
    obtain ⟨A, c, rfl, h1, h2, _⟩ := hrc
    exact ⟨⟨A, c, rfl, h1, h2, fun h => absurd h (by simp)⟩, fun _ _ h => absurd h (by simp)⟩

def EncP (f : Fo) (w : World) (r : Ending) (w' : World) : Prop := ∃ v, r = .returned v ∧ Own w' w.heap.size v f.all ∧ Below w.heap.size w w'
def EncAt (k : Fo) : Prop := ∀ (w : World) (v : Value) (eb : Nat), FV DataI w (Lo w) v k → k.sz ≤ 1099511627776 → SelfE w eb → Calls Try.prog 20 #[v, .pointer (some ⟨eb, 0, none⟩)] w (EncP k w)

theorem put_at (x : Nat) (xI : Int) (P : List UInt8) (w : World) (h : x < 18446744073709551616) (e : xI = (x : Int)) (hP : P = encV 9 x) :
    Calls Try.prog 22 #[.int .u64 xI] w fun r w' => ∃ v d, r = .returned v ∧ Rd w' d v P ∧ Below w.heap.size w w' := by
  subst e hP
  exact (put_any x h w).mono fun r w' ⟨v, d, h1, h2, _, h4⟩ => ⟨v, d, h1, h2, h4⟩

set_option maxRecDepth 100000 in
set_option maxHeartbeats 8000000 in
theorem enc_any (f : Fo) : EncAt f := by
  refine Fo.byKids (P := EncAt) ?_ f
  clear f
  intro f hkids w v eb hv hsz hself
  obtain ⟨A, c, rfl⟩ := hv.shape
  have hws := f.wt_le_sz
  have hlw := f.len_le_wt
  have hal := f.all_le
  have hlen40 : f.len ≤ 1099511627776 := by omega
  have hall : f.all.length ≤ 22000000000000 := by omega
  have HK : Hid (Fo.kidsAll EncAt f) := Lib.hid hkids
  clear hkids hws hlw hal
  go_enter Try.func20, Try.ntmps20
  go_wp2
  go_loopw [4, 10] (fun u i wr => ∃ (j : Nat) (T : List UInt8), j ≤ f.len ∧ i = .int .i64 (j : Int) ∧ T.length ≤ 22000000000000 ∧ Hid (T = (Fo.take j f).all) ∧ Own wr w.heap.size u T ∧ Below w.heap.size w wr) (fun _ i _ => f.len - (intOf i).toNat)
  case atStart => exact ⟨0, [], Nat.zero_le _, rfl, by simp, Lib.hid rfl, Own.nil _ _, Below.refl _ _⟩
  case round =>
    obtain ⟨j, T, hj, rfl, hT13, HT, hown, hB⟩ := hrel
    by_cases hlt : j < f.len
    · obtain ⟨b, o, c', t, d, k, hve, hcap, hS, hdr, htk, ht64, hk0, ⟨dv, hk1, db, hdv, hdS⟩, ⟨kv, hk2, hkv⟩⟩ := hv.at hlt
      injection hve with e1 e2 e3
      subst e1 e3
      have hSb : b < w.heap.size := hS
      obtain ⟨A1, c1, rfl⟩ : ∃ D cd, dv = .slice D d.length cd := by obtain ⟨D, cd, e, _⟩ := hdv; exact ⟨D, cd, e⟩
      have hdl := hdv.len
      obtain ⟨A2, c2, rfl⟩ := hkv.shape
      have z1 := hB.size
      have hC0 : wr.cell? ⟨b, o + j * 3, none⟩ = some (.int .u64 (t : Int)) := (hB.cell (p := ⟨b, o + j * 3, none⟩) hSb).trans hk0
      have hC1 : wr.cell? ⟨b, o + j * 3 + 1, none⟩ = some (.slice A1 d.length c1) := (hB.cell (p := ⟨b, o + j * 3 + 1, none⟩) hSb).trans hk1
      have hC2 : wr.cell? ⟨b, o + j * 3 + 2, none⟩ = some (.slice A2 k.len c2) := (hB.cell (p := ⟨b, o + j * 3 + 2, none⟩) hSb).trans hk2
      have hdrop : (Fo.drop j f).sz ≤ f.sz := by
        have h := Fo.sz_app (Fo.take j f) (Fo.drop j f)
        rw [Fo.take_app_drop] at h
        omega
      rw [hdr] at hdrop
      simp only [Fo.sz] at hdrop
      have hIH : EncAt k := by
        have h := Fo.kidsAll_drop j HK.out
        rw [hdr] at h
        exact h.1
      have hks40 : k.sz ≤ 1099511627776 := by omega
      have i1 : (0 : Int) ≤ (j : Int) := by omega
      have i2 : (j : Int) < (f.len : Int) := by omega
      obtain ⟨P, hP⟩ : ∃ P, P = encV 9 t := ⟨_, rfl⟩
      obtain ⟨I, hI⟩ : ∃ I, I = Fo.inn t d k.all := ⟨_, rfl⟩
      obtain ⟨L, hL⟩ : ∃ L, L = encV 9 I.length := ⟨_, rfl⟩
      obtain ⟨T1, hT1⟩ : ∃ T1, T1 = T ++ P := ⟨_, rfl⟩
      obtain ⟨T2, hT2⟩ : ∃ T2, T2 = T1 ++ L := ⟨_, rfl⟩
      obtain ⟨T3, hT3⟩ : ∃ T3, T3 = T2 ++ I := ⟨_, rfl⟩
      have hTn : T3 = (Fo.take (j + 1) f).all := by rw [Fo.all_take j htk, hT3, hT2, hT1, hL, hP, hI, HT.out]; simp only [List.append_assoc]
      have hTl : T3.length ≤ f.all.length := by rw [hTn]; exact Fo.all_take_le _ _
      have l1 : T1.length = T.length + P.length := by rw [hT1, List.length_append]
      have l2 : T2.length = T1.length + L.length := by rw [hT2, List.length_append]
      have l3 : T3.length = T2.length + I.length := by rw [hT3, List.length_append]
      have b1 : T.length + P.length ≤ 140737488355328 := by omega
      have b2 : T1.length + L.length ≤ 140737488355328 := by omega
      have b3 : T2.length + I.length ≤ 140737488355328 := by omega
      have b4 : T3.length ≤ 22000000000000 := by omega
      have b5 : I.length ≤ 22000000000000 := by omega
      have b6 : I.length < 18446744073709551616 := by omega
      have HT64 := Lib.hid ht64
      have HI64 := Lib.hid b6
      have HP := Lib.hid hP
      have HI := Lib.hid hI
      have HL := Lib.hid hL
      have HT1 := Lib.hid hT1
      have HT2 := Lib.hid hT2
      have HT3 := Lib.hid hT3
      have HTN := Lib.hid hTn
      have HB1 := Lib.hid b1
      have HB2 := Lib.hid b2
      have HB3 := Lib.hid b3
      have HKV := Lib.hid hkv
      have HIH := Lib.hid hIH
      have HRD := Lib.hid hdv
      have HDS := Lib.hid hdS
      have HIA : Hid (Blk (wr.alloc (.cells #[.int .u64 (t : Int), .slice A1 d.length c1, .slice A2 k.len c2] 46)) wr.heap.size 46 #[.int .u64 (t : Int), .slice A1 d.length c1, .slice A2 k.len c2]) := Lib.hid (Blk.new wr _ _)
      have hBA := hB.alloc hB.size (.cells #[.int .u64 (t : Int), .slice A1 d.length c1, .slice A2 k.len c2] 46)
      have hownA := hown.below ((Below.refl wr.heap.size wr).alloc (Nat.le_refl _) (.cells #[.int .u64 (t : Int), .slice A1 d.length c1, .slice A2 k.len c2] 46))
      clear hIH hkv hdr htk hk0 hk1 hk2 e2 hS hdrop hsz hdv hdS ht64 HK hP hI hL hT1 hT2 hT3 hTn hTl l1 l2 l3 b1 b2 b3 b6 hown
      by_cases hodd : t % 2 = 1
      · have HIk : Hid (I = k.all) := Lib.hid (by have h := HI.out; rw [h]; unfold Fo.inn; rw [if_pos hodd])
        have HC := Lib.hid (fun w => nests_yes t (.slice A1 d.length c1) (.slice A2 k.len c2) w hodd)
        clear hodd HI
        go_wp2_with fail
        refine (HC.out _).mono ?_
        rintro r w1 ⟨rfl, hb1⟩
        have hB1 := hBA.trans (hb1.mono hBA.size)
        have z3 := hB1.size
        have hown1 := hownA.below hb1
        have HI1 : Hid (Blk w1 wr.heap.size 46 #[.int .u64 (t : Int), .slice A1 d.length c1, .slice A2 k.len c2]) := Lib.hid (HIA.out.below hb1 HIA.out.lt)
        have hself1 : SelfE w1 eb := Blk.below hself hB1 (Blk.lt hself)
        have hkv1 : FV DataI w1 (Lo w1) (.slice A2 k.len c2) k := HKV.out.kept stays_I (fun g hg => hB1.block g hg) (fun _ hg => Nat.lt_of_lt_of_le hg hB1.size)
        have HII := Lib.hid (HIH.out w1 (.slice A2 k.len c2) eb hkv1 hks40 hself1)
        have s1 : w1.cell? ⟨eb, 0, none⟩ = some (.func (.func 20) #[] #[.pointer (some ⟨eb, 0, none⟩)]) := by rw [hself1.cell]; rfl
        have v2 : w1.cell? ⟨wr.heap.size, 2, none⟩ = some (.slice A2 k.len c2) := by rw [HI1.out.cell]; rfl
        clear hb1 hself1 hkv1 hC0 hC1 hC2 HIA hBA hownA hB
        go_wp2_with fail
        refine HII.out.mono ?_
        rintro r w2 ⟨cv, rfl, hcv, hb2⟩
        rw [← HIk.out] at hcv
        obtain ⟨dc, hdc1, hdc2, hrcX⟩ := hcv.rd (by omega)
        have heX : Else dc I u4 := fun q hq h0 e => by
          have h1 := (World.ownsRow.lt hown1 q hq).2
          omega
        have v0 : w2.cell? ⟨wr.heap.size, 0, none⟩ = some (.int .u64 (t : Int)) := (hb2.cell (p := ⟨wr.heap.size, 0, none⟩) HI1.out.lt).trans (by rw [HI1.out.cell]; rfl)
        have hownX := hown1.below hb2
        have hbX := hB1.trans (hb2.mono hB1.size)
        obtain ⟨A3, c3, rfl⟩ : ∃ A c, cv = .slice A I.length c := by obtain ⟨A, c, h, _⟩ := id hrcX; exact ⟨A, c, h⟩
        clear hb2 s1 v2 HI1 hown1 hB1 z3 hcv hdc1 hdc2
        go_wp2_with fail
        refine (put_at t _ P _ HT64.out rfl HP.out).mono ?_
        rintro r w3 ⟨v3, d3, rfl, hr3, hb3⟩
        have hown3 := hownX.below hb3
        have hbw3 := hbX.trans (hb3.mono hbX.size)
        have hrc3 := hrcX.below' hb3
        clear hb3 v0 hownX hbX hrcX
        go_wp2_with (at_builtin; refine wpList_append_rd rfl (.tmp 22) (.tmp 25) rfl rfl w.heap.size _ T rfl hown3 _ _ P rfl hr3 ?h1 ?h2 ?_)
        case h1 => exact HB1.out
        case h2 => exact hbw3.size
        intro v4 w4 hap
        obtain ⟨hrc4, heY⟩ := app_else hap hrc3 heX
        have hbw4 := hbw3.trans (hap.below hown3 hbw3.size)
        have hown4 : Own w4 w.heap.size v4 T1 := by rw [HT1.out]; exact hap.1
        clear hap hown3 hbw3 hrc3 hr3 heX
        go_wp2_with fail
        refine (put_at I.length _ L _ HI64.out rfl HL.out).mono ?_
        rintro r w5 ⟨v5, d5, rfl, hr5, hb5⟩
        have hown5 := hown4.below hb5
        have hbw5 := hbw4.trans (hb5.mono hbw4.size)
        have hrc5 := hrc4.below' hb5
        clear hb5 hown4 hbw4 hrc4
        go_wp2_with (at_builtin; refine wpList_append_rd rfl (.tmp 27) (.tmp 31) rfl rfl w.heap.size _ T1 rfl hown5 _ _ L rfl hr5 ?h1 ?h2 ?_)
        case h1 => exact HB2.out
        case h2 => exact hbw5.size
        intro v6 w6 hap
        obtain ⟨hrc6, -⟩ := app_else hap hrc5 heY
        have hbw6 := hbw5.trans (hap.below hown5 hbw5.size)
        have hown6 : Own w6 w.heap.size v6 T2 := by rw [HT2.out]; exact hap.1
        clear hap hown5 hbw5 hrc5 hr5 heY
        go_wp2_with (at_builtin; refine wpList_append_rd rfl (.tmp 33) (.tmp 34) rfl rfl w.heap.size _ T2 rfl hown6 _ _ I rfl hrc6 ?h1 ?h2 ?_)
        case h1 => exact HB3.out
        case h2 => exact hbw6.size
        intro v7 w7 hap
        have hbw7 := hbw6.trans (hap.below hown6 hbw6.size)
        have hown7 : Own w7 w.heap.size v7 T3 := by rw [HT3.out]; exact hap.1
        clear hap hown6 hbw6 hrc6
        go_wp2
        go_roundw
        case rel => exact ⟨j + 1, T3, by omega, by go_num, b4, HTN, hown7, hbw7⟩
        case measure => simp [intOf]; omega
      · have HIk : Hid (I = d) := Lib.hid (by have h := HI.out; rw [h]; unfold Fo.inn; rw [if_neg hodd])
        obtain rfl : I = d := HIk.out
        have HC := Lib.hid (fun w => nests_no t (.slice A1 I.length c1) (.slice A2 k.len c2) w hodd)
        clear hodd HI HIk
        go_wp2_with fail
        refine (HC.out _).mono ?_
        rintro r w1 ⟨rfl, hb1⟩
        have hbX := hBA.trans (hb1.mono hBA.size)
        have hownX := hownA.below hb1
        have hrcX : Rd w1 db (.slice A1 I.length c1) I := HRD.out.keepS HDS.out hbX
        have heX : Else db I u4 := fun q hq h0 e => by
          have h1 := (World.ownsRow.lt hownX q hq).1
          have h2 : db < w.heap.size := HDS.out h0
          omega
        have v0 : w1.cell? ⟨wr.heap.size, 0, none⟩ = some (.int .u64 (t : Int)) := by rw [(HIA.out.below hb1 HIA.out.lt).cell]; rfl
        clear hb1 hC0 hC1 hC2 HIA hBA hownA hB
        go_wp2_with fail
        refine (put_at t _ P _ HT64.out rfl HP.out).mono ?_
        rintro r w3 ⟨v3, d3, rfl, hr3, hb3⟩
        have hown3 := hownX.below hb3
        have hbw3 := hbX.trans (hb3.mono hbX.size)
        have hrc3 := hrcX.below' hb3
        clear hb3 v0 hownX hbX hrcX
        go_wp2_with (at_builtin; refine wpList_append_rd rfl (.tmp 22) (.tmp 25) rfl rfl w.heap.size _ T rfl hown3 _ _ P rfl hr3 ?h1 ?h2 ?_)
        case h1 => exact HB1.out
        case h2 => exact hbw3.size
        intro v4 w4 hap
        obtain ⟨hrc4, heY⟩ := app_else hap hrc3 heX
        have hbw4 := hbw3.trans (hap.below hown3 hbw3.size)
        have hown4 : Own w4 w.heap.size v4 T1 := by rw [HT1.out]; exact hap.1
        clear hap hown3 hbw3 hrc3 hr3 heX
        go_wp2_with fail
        refine (put_at I.length _ L _ HI64.out rfl HL.out).mono ?_
        rintro r w5 ⟨v5, d5, rfl, hr5, hb5⟩
        have hown5 := hown4.below hb5
        have hbw5 := hbw4.trans (hb5.mono hbw4.size)
        have hrc5 := hrc4.below' hb5
        clear hb5 hown4 hbw4 hrc4
        go_wp2_with (at_builtin; refine wpList_append_rd rfl (.tmp 27) (.tmp 31) rfl rfl w.heap.size _ T1 rfl hown5 _ _ L rfl hr5 ?h1 ?h2 ?_)
        case h1 => exact HB2.out
        case h2 => exact hbw5.size
        intro v6 w6 hap
        obtain ⟨hrc6, -⟩ := app_else hap hrc5 heY
        have hbw6 := hbw5.trans (hap.below hown5 hbw5.size)
        have hown6 : Own w6 w.heap.size v6 T2 := by rw [HT2.out]; exact hap.1
        clear hap hown5 hbw5 hrc5 hr5 heY
        go_wp2_with (at_builtin; refine wpList_append_rd rfl (.tmp 33) (.tmp 34) rfl rfl w.heap.size _ T2 rfl hown6 _ _ I rfl hrc6 ?h1 ?h2 ?_)
        case h1 => exact HB3.out
        case h2 => exact hbw6.size
        intro v7 w7 hap
        have hbw7 := hbw6.trans (hap.below hown6 hbw6.size)
        have hown7 : Own w7 w.heap.size v7 T3 := by rw [HT3.out]; exact hap.1
        clear hap hown6 hbw6 hrc6
        go_wp2
        go_roundw
        case rel => exact ⟨j + 1, T3, by omega, by go_num, b4, HTN, hown7, hbw7⟩
        case measure => simp [intOf]; omega
    · obtain rfl : j = f.len := by omega
      have hTe : T = f.all := by rw [HT.out, Fo.take_all]
      subst hTe
      obtain ⟨d9, -, -, hr9⟩ := hown.rd (by omega)
      obtain ⟨A9, c9, rfl⟩ : ∃ A c, u4 = .slice A f.all.length c := by obtain ⟨A, c, h, _⟩ := hr9; exact ⟨A, c, h⟩
      have HO := Lib.hid hown
      clear hlt hown
      go_wp2
      go_ret
      exact ⟨_, rfl, HO.out, hB⟩

end Go.Proofs.Ytdpaijechogmlaa
