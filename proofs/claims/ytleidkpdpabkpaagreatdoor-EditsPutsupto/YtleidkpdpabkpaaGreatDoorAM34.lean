/- TlvFnE VarC VarRefC VarD EdvP DifRefC DifRefD -/
import Derived.Test.YtleidkpdpabkpaaGreatDoorAM33
set_option linter.unusedSimpArgs false
set_option linter.unusedVariables false
set_option maxRecDepth 100000
set_option maxHeartbeats 8000000
namespace Go.Proofs.YtleidkpdpabkpaaGreatDoor
open Go.RowKit
def SelfE (w : World) (eb : Nat) : Prop := Blk w eb 90 #[.func (.func 47) #[] #[.pointer (some ⟨eb, 0, none⟩)]]
def Else (dc : Nat) (C : List UInt8) (u : Value) : Prop := ∀ k, u.ownBlock = some k → 0 < C.length → dc ≠ k
theorem app_else {w w' : World} {base dc : Nat} {u v' cv : Value} {C l : List UInt8} (hap : AppPost w base u l v' w') (hrc : Rd w dc cv C) (he : Else dc C u) : Rd w' dc cv C ∧ Else dc C v' := by
 by_cases h0 : 0 < C.length
 ·have hlt := hrc.lt h0
  refine ⟨hrc.heap (hap.2.1.block dc hlt (fun e => he dc e.symm h0 rfl)), fun k hk _ e => ?_⟩
  rcases hap.2.2 with h | h
  ·rw [h] at hk; exact he k hk h0 e
  ·rw [h] at hk; injection hk with hk; omega
 ·have : C = [] := List.eq_nil_of_length_eq_zero (by omega)
  subst this
  obtain ⟨A, c, rfl, h1, h2, _⟩ := hrc
  exact ⟨⟨A, c, rfl, h1, h2, fun h => absurd h (by simp)⟩, fun _ _ h => absurd h (by simp)⟩
def EncPI (f : Fo) (w : World) (r : Ending) (w' : World) : Prop := ∃ v, r = .returned v ∧ Own w' w.heap.size v f.all ∧ Below w.heap.size w w'
def EncAt (k : Fo) : Prop := ∀ (w : World) (v : Value) (eb : Nat), FV DataI w (Lo w) v k → k.sz ≤ 1099511627776 → SelfE w eb → Calls Tryz.prog 47 #[v, .pointer (some ⟨eb, 0, none⟩)] w (EncPI k w)
theorem put_at (x : Nat) (xI : Int) (P : List UInt8) (w : World) (h : x < 18446744073709551616) (e : xI = (x : Int)) (hP : P = encV 9 x) :
  Calls Tryz.prog 49 #[.int .u64 xI] w fun r w' => ∃ v d, r = .returned v ∧ Rd w' d v P ∧ Below w.heap.size w w' := by
 subst e hP
 exact (put_any x h w).mono fun r w' ⟨v, d, h1, h2, _, h4⟩ => ⟨v, d, h1, h2, h4⟩
theorem enc_any (f : Fo) : EncAt f := by
 refine Fo.byKids (P := EncAt) ?_ f
 clear f
 intro f hkids w v eb hv hsz hself
 obtain ⟨A, c, rfl⟩ := hv.shape
 have hws := f.wt_le_sz
 have hlw := f.len_le_wt
 have hal := f.all_le
 have hlen40 : f.len ≤ 1099511627776 := by omega
 have hall : f.all.length ≤ 22000000000000 := by omega
 have HK : Hid (Fo.kidsAll EncAt f) := hHd hkids
 clear hkids hws hlw hal
 go_enter Tryz.func47, Tryz.ntmps47
 go_wp2
 go_loopw [4, 10] (fun u i wr => ∃ (j : Nat) (T : List UInt8), j ≤ f.len ∧ i = .int .i64 (j : Int) ∧ T.length ≤ 22000000000000 ∧ Hid (T = (Fo.take j f).all) ∧ Own wr w.heap.size u T ∧ Below w.heap.size w wr) (fun _ i _ => f.len - (intOf i).toNat)
 case atStart => exact ⟨0, [], Nat.zero_le _, rfl, by simp, hHd rfl, Own.nil _ _, Below.refl _ _⟩
 case round =>
  obtain ⟨j, T, hj, rfl, hT13, HT, hown, hB⟩ := hrel
  by_cases hlt : j < f.len
  ·obtain ⟨b, o, c', t, d, k, hve, hcap, hS, hdr, htk, ht64, hk0, ⟨dv, hk1, db, hdv, hdS⟩, ⟨kv, hk2, hkv⟩⟩ := hv.at hlt
   injection hve with e1 e2 e3
   subst e1 e3
   have hSb : b < w.heap.size := hS
   obtain ⟨A1, c1, rfl⟩ : ∃ D cd, dv = .slice D d.length cd := by obtain ⟨D, cd, e, _⟩ := hdv; exact ⟨D, cd, e⟩
   have hdl := hdv.len
   obtain ⟨A2, c2, rfl⟩ := hkv.shape
   have z1 := hB.size
   have hC0 : wr.cell? ⟨b, o + j * 3, none⟩ = some (.int .u64 (t : Int)) := (hB.cell (p := ⟨b, o + j * 3, none⟩) hSb).trans hk0
   have hC1 : wr.cell? ⟨b, o + j * 3 + 1, none⟩ = some (.slice A1 d.length c1) := (hB.cell (p := ⟨b, o + j * 3 + 1, none⟩) hSb).trans hk1
   have hC2 : wr.cell? ⟨b, o + j * 3 + 2, none⟩ = some (.slice A2 k.len c2) := (hB.cell (p := ⟨b, o + j * 3 + 2, none⟩) hSb).trans hk2
   have hdrop : (Fo.drop j f).sz ≤ f.sz := by
    have h := Fo.sz_app (Fo.take j f) (Fo.drop j f)
    rw [Fo.take_app_drop] at h
    omega
   rw [hdr] at hdrop
   simp only [Fo.sz] at hdrop
   have hIH : EncAt k := by
    have h := Fo.kidsAll_drop j HK.out
    rw [hdr] at h
    exact h.1
   have hks40 : k.sz ≤ 1099511627776 := by omega
   have i1 : (0 : Int) ≤ (j : Int) := by omega
   have i2 : (j : Int) < (f.len : Int) := by omega
   obtain ⟨P, hP⟩ : ∃ P, P = encV 9 t := ⟨_, rfl⟩
   obtain ⟨I, hI⟩ : ∃ I, I = Fo.inn t d k.all := ⟨_, rfl⟩
   obtain ⟨L, hL⟩ : ∃ L, L = encV 9 I.length := ⟨_, rfl⟩
   obtain ⟨T1, hT1⟩ : ∃ T1, T1 = T ++ P := ⟨_, rfl⟩
   obtain ⟨T2, hT2⟩ : ∃ T2, T2 = T1 ++ L := ⟨_, rfl⟩
   obtain ⟨T3, hT3⟩ : ∃ T3, T3 = T2 ++ I := ⟨_, rfl⟩
   have hTn : T3 = (Fo.take (j + 1) f).all := by rw [Fo.all_take j htk, hT3, hT2, hT1, hL, hP, hI, HT.out]; simp only [List.append_assoc]
   have hTl : T3.length ≤ f.all.length := by rw [hTn]; exact Fo.all_take_le _ _
   have l1 : T1.length = T.length + P.length := by rw [hT1, List.length_append]
   have l2 : T2.length = T1.length + L.length := by rw [hT2, List.length_append]
   have l3 : T3.length = T2.length + I.length := by rw [hT3, List.length_append]
   have b1 : T.length + P.length ≤ 140737488355328 := by omega
   have b2 : T1.length + L.length ≤ 140737488355328 := by omega
   have b3 : T2.length + I.length ≤ 140737488355328 := by omega
   have b4 : T3.length ≤ 22000000000000 := by omega
   have b5 : I.length ≤ 22000000000000 := by omega
   have b6 : I.length < 18446744073709551616 := by omega
   have HT64 := hHd ht64
   have HI64 := hHd b6
   have HP := hHd hP
   have HI := hHd hI
   have HL := hHd hL
   have HT1 := hHd hT1
   have HT2 := hHd hT2
   have HT3 := hHd hT3
   have HTN := hHd hTn
   have HB1 := hHd b1
   have HB2 := hHd b2
   have HB3 := hHd b3
   have HKV := hHd hkv
   have HIH := hHd hIH
   have HRD := hHd hdv
   have HDS := hHd hdS
   have HIA : Hid (Blk (wr.alloc (.cells #[.int .u64 (t : Int), .slice A1 d.length c1, .slice A2 k.len c2] 58)) wr.heap.size 58 #[.int .u64 (t : Int), .slice A1 d.length c1, .slice A2 k.len c2]) := hHd (Blk.new wr _ _)
   have hBA := hB.alloc hB.size (.cells #[.int .u64 (t : Int), .slice A1 d.length c1, .slice A2 k.len c2] 58)
   have hownA := hown.below ((Below.refl wr.heap.size wr).alloc (Nat.le_refl _) (.cells #[.int .u64 (t : Int), .slice A1 d.length c1, .slice A2 k.len c2] 58))
   clear hIH hkv hdr htk hk0 hk1 hk2 e2 hS hdrop hsz hdv hdS ht64 HK hP hI hL hT1 hT2 hT3 hTn hTl l1 l2 l3 b1 b2 b3 b6 hown
   by_cases hodd : t % 2 = 1
   ·have HIk : Hid (I = k.all) := hHd (by have h := HI.out; rw [h]; unfold Fo.inn; rw [if_pos hodd])
    have HC := hHd (fun w => nests_yes t (.slice A1 d.length c1) (.slice A2 k.len c2) w hodd)
    clear hodd HI
    go_wp2_with fail
    refine (HC.out _).mono ?_
    rintro r w1 ⟨rfl, hb1⟩
    have hB1 := hBA.trans (hb1.mono hBA.size)
    have z3 := hB1.size
    have hown1 := hownA.below hb1
    have HI1 : Hid (Blk w1 wr.heap.size 58 #[.int .u64 (t : Int), .slice A1 d.length c1, .slice A2 k.len c2]) := hHd (HIA.out.below hb1 HIA.out.lt)
    have hself1 : SelfE w1 eb := Blk.below hself hB1 (Blk.lt hself)
    have hkv1 : FV DataI w1 (Lo w1) (.slice A2 k.len c2) k := HKV.out.kept stays_I (fun g hg => hB1.block g hg) (fun _ hg => Nat.lt_of_lt_of_le hg hB1.size)
    have HII := hHd (HIH.out w1 (.slice A2 k.len c2) eb hkv1 hks40 hself1)
    have s1 : w1.cell? ⟨eb, 0, none⟩ = some (.func (.func 47) #[] #[.pointer (some ⟨eb, 0, none⟩)]) := by rw [hself1.cell]; rfl
    have v2 : w1.cell? ⟨wr.heap.size, 2, none⟩ = some (.slice A2 k.len c2) := by rw [HI1.out.cell]; rfl
    clear hb1 hself1 hkv1 hC0 hC1 hC2 HIA hBA hownA hB
    go_wp2_with fail
    refine HII.out.mono ?_
    rintro r w2 ⟨cv, rfl, hcv, hb2⟩
    rw [← HIk.out] at hcv
    obtain ⟨dc, hdc1, hdc2, hrcX⟩ := hcv.rd (by omega)
    have heX : Else dc I u4 := fun q hq h0 e => by
     have h1 := (World.ownsRow.lt hown1 q hq).2
     omega
    have v0 : w2.cell? ⟨wr.heap.size, 0, none⟩ = some (.int .u64 (t : Int)) := (hb2.cell (p := ⟨wr.heap.size, 0, none⟩) HI1.out.lt).trans (by rw [HI1.out.cell]; rfl)
    have hownX := hown1.below hb2
    have hbX := hB1.trans (hb2.mono hB1.size)
    obtain ⟨A3, c3, rfl⟩ : ∃ A c, cv = .slice A I.length c := by obtain ⟨A, c, h, _⟩ := id hrcX; exact ⟨A, c, h⟩
    clear hb2 s1 v2 HI1 hown1 hB1 z3 hcv hdc1 hdc2
    go_wp2_with fail
    refine (put_at t _ P _ HT64.out rfl HP.out).mono ?_
    rintro r w3 ⟨v3, d3, rfl, hr3, hb3⟩
    have hown3 := hownX.below hb3
    have hbw3 := hbX.trans (hb3.mono hbX.size)
    have hrc3 := hrcX.below' hb3
    clear hb3 v0 hownX hbX hrcX
    go_wp2_with (at_builtin; refine wpList_append_rd rfl (.tmp 22) (.tmp 25) rfl rfl w.heap.size _ T rfl hown3 _ _ P rfl hr3 ?h1 ?h2 ?_)
    case h1 => exact HB1.out
    case h2 => exact hbw3.size
    intro v4 w4 hap
    obtain ⟨hrc4, heY⟩ := app_else hap hrc3 heX
    have hbw4 := hbw3.trans (hap.below hown3 hbw3.size)
    have hown4 : Own w4 w.heap.size v4 T1 := by rw [HT1.out]; exact hap.1
    clear hap hown3 hbw3 hrc3 hr3 heX
    go_wp2_with fail
    refine (put_at I.length _ L _ HI64.out rfl HL.out).mono ?_
    rintro r w5 ⟨v5, d5, rfl, hr5, hb5⟩
    have hown5 := hown4.below hb5
    have hbw5 := hbw4.trans (hb5.mono hbw4.size)
    have hrc5 := hrc4.below' hb5
    clear hb5 hown4 hbw4 hrc4
    go_wp2_with (at_builtin; refine wpList_append_rd rfl (.tmp 27) (.tmp 31) rfl rfl w.heap.size _ T1 rfl hown5 _ _ L rfl hr5 ?h1 ?h2 ?_)
    case h1 => exact HB2.out
    case h2 => exact hbw5.size
    intro v6 w6 hap
    obtain ⟨hrc6, -⟩ := app_else hap hrc5 heY
    have hbw6 := hbw5.trans (hap.below hown5 hbw5.size)
    have hown6 : Own w6 w.heap.size v6 T2 := by rw [HT2.out]; exact hap.1
    clear hap hown5 hbw5 hrc5 hr5 heY
    go_wp2_with (at_builtin; refine wpList_append_rd rfl (.tmp 33) (.tmp 34) rfl rfl w.heap.size _ T2 rfl hown6 _ _ I rfl hrc6 ?h1 ?h2 ?_)
    case h1 => exact HB3.out
    case h2 => exact hbw6.size
    intro v7 w7 hap
    have hbw7 := hbw6.trans (hap.below hown6 hbw6.size)
    have hown7 : Own w7 w.heap.size v7 T3 := by rw [HT3.out]; exact hap.1
    clear hap hown6 hbw6 hrc6
    go_wp2
    go_roundw
    case rel => exact ⟨j + 1, T3, by omega, by go_num, b4, HTN, hown7, hbw7⟩
    case measure => simp [intOf]; omega
   ·have HIk : Hid (I = d) := hHd (by have h := HI.out; rw [h]; unfold Fo.inn; rw [if_neg hodd])
    obtain rfl : I = d := HIk.out
    have HC := hHd (fun w => nests_no t (.slice A1 I.length c1) (.slice A2 k.len c2) w hodd)
    clear hodd HI HIk
    go_wp2_with fail
    refine (HC.out _).mono ?_
    rintro r w1 ⟨rfl, hb1⟩
    have hbX := hBA.trans (hb1.mono hBA.size)
    have hownX := hownA.below hb1
    have hrcX : Rd w1 db (.slice A1 I.length c1) I := HRD.out.keepS HDS.out hbX
    have heX : Else db I u4 := fun q hq h0 e => by
     have h1 := (World.ownsRow.lt hownX q hq).1
     have h2 : db < w.heap.size := HDS.out h0
     omega
    have v0 : w1.cell? ⟨wr.heap.size, 0, none⟩ = some (.int .u64 (t : Int)) := by rw [(HIA.out.below hb1 HIA.out.lt).cell]; rfl
    clear hb1 hC0 hC1 hC2 HIA hBA hownA hB
    go_wp2_with fail
    refine (put_at t _ P _ HT64.out rfl HP.out).mono ?_
    rintro r w3 ⟨v3, d3, rfl, hr3, hb3⟩
    have hown3 := hownX.below hb3
    have hbw3 := hbX.trans (hb3.mono hbX.size)
    have hrc3 := hrcX.below' hb3
    clear hb3 v0 hownX hbX hrcX
    go_wp2_with (at_builtin; refine wpList_append_rd rfl (.tmp 22) (.tmp 25) rfl rfl w.heap.size _ T rfl hown3 _ _ P rfl hr3 ?h1 ?h2 ?_)
    case h1 => exact HB1.out
    case h2 => exact hbw3.size
    intro v4 w4 hap
    obtain ⟨hrc4, heY⟩ := app_else hap hrc3 heX
    have hbw4 := hbw3.trans (hap.below hown3 hbw3.size)
    have hown4 : Own w4 w.heap.size v4 T1 := by rw [HT1.out]; exact hap.1
    clear hap hown3 hbw3 hrc3 hr3 heX
    go_wp2_with fail
    refine (put_at I.length _ L _ HI64.out rfl HL.out).mono ?_
    rintro r w5 ⟨v5, d5, rfl, hr5, hb5⟩
    have hown5 := hown4.below hb5
    have hbw5 := hbw4.trans (hb5.mono hbw4.size)
    have hrc5 := hrc4.below' hb5
    clear hb5 hown4 hbw4 hrc4
    go_wp2_with (at_builtin; refine wpList_append_rd rfl (.tmp 27) (.tmp 31) rfl rfl w.heap.size _ T1 rfl hown5 _ _ L rfl hr5 ?h1 ?h2 ?_)
    case h1 => exact HB2.out
    case h2 => exact hbw5.size
    intro v6 w6 hap
    obtain ⟨hrc6, -⟩ := app_else hap hrc5 heY
    have hbw6 := hbw5.trans (hap.below hown5 hbw5.size)
    have hown6 : Own w6 w.heap.size v6 T2 := by rw [HT2.out]; exact hap.1
    clear hap hown5 hbw5 hrc5 hr5 heY
    go_wp2_with (at_builtin; refine wpList_append_rd rfl (.tmp 33) (.tmp 34) rfl rfl w.heap.size _ T2 rfl hown6 _ _ I rfl hrc6 ?h1 ?h2 ?_)
    case h1 => exact HB3.out
    case h2 => exact hbw6.size
    intro v7 w7 hap
    have hbw7 := hbw6.trans (hap.below hown6 hbw6.size)
    have hown7 : Own w7 w.heap.size v7 T3 := by rw [HT3.out]; exact hap.1
    clear hap hown6 hbw6 hrc6
    go_wp2
    go_roundw
    case rel => exact ⟨j + 1, T3, by omega, by go_num, b4, HTN, hown7, hbw7⟩
    case measure => simp [intOf]; omega
  ·obtain rfl : j = f.len := by omega
   have hTe : T = f.all := by rw [HT.out, Fo.take_all]
   subst hTe
   obtain ⟨d9, -, -, hr9⟩ := hown.rd (by omega)
   obtain ⟨A9, c9, rfl⟩ : ∃ A c, u4 = .slice A f.all.length c := by obtain ⟨A, c, h, _⟩ := hr9; exact ⟨A, c, h⟩
   have HO := hHd hown
   clear hlt hown
   go_wp2
   go_ret
   exact ⟨_, rfl, HO.out, hB⟩
def endV (x k q : Nat) : Nat × Nat × Int :=
 if 18446744073709551616 ≤ q * 128 ^ k then (0, 0, 14) else if 0 < k ∧ q = 0 then (0, 0, 11) else (x + q * 128 ^ k, k + 1, 0)
def outV (v : Nat × Nat × Int) : Ending := .returned (.tuple #[.int .u64 (v.1 : Int), .int .i64 (v.2.1 : Int), .int .i64 v.2.2])
theorem outV_big {x k q : Nat} (h : 18446744073709551616 ≤ q * 128 ^ k) : outV (endV x k q) = .returned (.tuple #[.int .u64 0, .int .i64 0, .int .i64 14]) := by
 unfold endV; rw [if_pos h]; rfl
theorem outV_form {x k q : Nat} (h : ¬ 18446744073709551616 ≤ q * 128 ^ k) (h2 : 0 < k ∧ q = 0) : outV (endV x k q) = .returned (.tuple #[.int .u64 0, .int .i64 0, .int .i64 11]) := by
 unfold endV; rw [if_neg h, if_pos h2]; rfl
theorem outV_ok {x k q : Nat} (h : ¬ 18446744073709551616 ≤ q * 128 ^ k) (h2 : ¬ (0 < k ∧ q = 0)) : outV (endV x k q) = .returned (.tuple #[.int .u64 ((x + q * 128 ^ k : Nat) : Int), .int .i64 ((k : Int) + 1), .int .i64 0]) := by
 unfold endV; rw [if_neg h, if_neg h2]; rfl
theorem pow7 (k : Nat) : (2 : Int) ^ (7 * k) = ((128 ^ k : Nat) : Int) := by
 have h : (2 : Nat) ^ (7 * k) = 128 ^ k := by rw [Nat.pow_mul]
 rw [← h]; simp
theorem shift_back (k q : Nat) : (IntKind.u64.wrap ((q : Int) * 2 ^ (7 * k)) / 2 ^ (7 * k) != (q : Int)) = decide (18446744073709551616 ≤ q * 128 ^ k) := by
 rw [pow7, IntKind.wrap_u64]
 have hP : 0 < 128 ^ k := Nat.pow_pos (by decide)
 generalize 128 ^ k = P at hP
 have e : ((q : Int) * (P : Int)) % 18446744073709551616 = ((q * P % 18446744073709551616 : Nat) : Int) := by simp
 rw [e]
 have e2 : (((q * P % 18446744073709551616 : Nat) : Int) / (P : Int)) = ((q * P % 18446744073709551616 / P : Nat) : Int) := by simp
 rw [e2]
 by_cases h : 18446744073709551616 ≤ q * P
 ·rw [decide_eq_true h]
  have hlt : q * P % 18446744073709551616 / P < q := by
   rw [Nat.div_lt_iff_lt_mul hP]
   have := Nat.mod_lt (q * P) (show 0 < 18446744073709551616 by decide)
   omega
  have : ((q * P % 18446744073709551616 / P : Nat) : Int) ≠ (q : Int) := by omega
  simpa using this
 ·rw [decide_eq_false h, Nat.mod_eq_of_lt (by omega), Nat.mul_div_cancel _ hP]
  simp
theorem or_groups (x k q : Nat) (hx64 : x < 18446744073709551616) (hx : x < 128 ^ k) (h : q * 128 ^ k < 18446744073709551616) : bits .or .u64 (x : Int) (IntKind.u64.wrap ((q : Int) * 2 ^ (7 * k))) = ((x + q * 128 ^ k : Nat) : Int) := by
 rw [pow7, IntKind.wrap_u64]
 have e : ((q : Int) * ((128 ^ k : Nat) : Int)) % 18446744073709551616 = ((q * 128 ^ k : Nat) : Int) := by
  have e1 : ((q : Int) * ((128 ^ k : Nat) : Int)) = ((q * 128 ^ k : Nat) : Int) := by simp
  rw [e1]; omega
 rw [e]
 have hP : 128 ^ k = 2 ^ (7 * k) := by rw [Nat.pow_mul]
 rcases Nat.eq_zero_or_pos q with h0 | h0
 ·subst h0
  rw [Nat.zero_mul]
  by_cases hb : x < 18446744073709551616
  ·rw [u64_or_nat x 0 hb (by decide)]; simp
  ·exfalso; exact hb hx64
 ·rw [u64_or_nat x (q * 128 ^ k) hx64 h, Nat.or_comm, hP, nat_join (7 * k) (q * 2 ^ (7 * k)) x (by simp) (by rw [← hP]; exact hx)]
  congr 1
  exact Nat.add_comm _ _
theorem horner_snoc (l : List UInt8) (b : UInt8) : horner (l ++ [b]) = horner l + b.toNat % 128 * 128 ^ l.length := by
 induction l with
 | nil => simp [horner_cons, horner_nil]
 | cons c l ih =>
  rw [List.cons_append, horner_cons, horner_cons, ih, List.length_cons, Nat.pow_succ, Nat.add_mul, Nat.mul_assoc]
  omega
theorem horner_lt (l : List UInt8) : horner l < 128 ^ l.length := by
 induction l with
 | nil => simp [horner_nil]
 | cons c l ih =>
  rw [horner_cons, List.length_cons, Nat.pow_succ]
  omega
theorem ended_any (x k q : Nat) (w : World) (hk : k ≤ 9) (hq : q < 128) (hx : x < 18446744073709551616) (hxk : x < 128 ^ k) :
  Calls Tryz.prog 116 #[.int .u64 (x : Int), .int .i64 (k : Int), .int .u8 (q : Int)] w fun r w' => r = outV (endV x k q) ∧ w = w' := by
 have hsb := shift_back k q
 by_cases h1 : 18446744073709551616 ≤ q * 128 ^ k
 ·have HO := hHd (outV_big (x := x) h1)
  rw [decide_eq_true h1] at hsb
  clear h1 hxk
  go_enter Tryz.func116, Tryz.ntmps116
  go_wp2
  go_ret3
  exact ⟨HO.out.symm, rfl⟩
 ·rw [decide_eq_false h1] at hsb
  have HOR := hHd (or_groups x k q hx hxk (by omega))
  by_cases h2 : 0 < k ∧ q = 0
  ·have HO := hHd (outV_form (x := x) h1 h2)
   obtain ⟨h2, rfl⟩ := h2
   have hz : (((0 : Nat) : Int) == 0) = true := rfl
   clear h1 hxk
   go_enter Tryz.func116, Tryz.ntmps116
   go_wp2
   go_ret3
   exact ⟨HO.out.symm, rfl⟩
  ·have HO := hHd (outV_ok (x := x) h1 h2)
   by_cases h3 : 0 < k
   ·have hz : ((q : Int) == 0) = false := beq_eq_false_iff_ne.2 (by omega)
    clear h1 hxk h2
    go_enter Tryz.func116, Tryz.ntmps116
    go_wp2
    go_ret3
    exact ⟨by rw [HO.out, ← HOR.out]; rfl, rfl⟩
   ·obtain rfl : k = 0 := by omega
    have HO2 : Hid (outV (endV x 0 q) = .returned (.tuple #[.int .u64 (bits .or .u64 (x : Int) (q : Int)), .int .i64 1, .int .i64 0])) := hHd (by
     have e : IntKind.u64.wrap ((q : Int) * 2 ^ (7 * 0)) = (q : Int) := by
      rw [IntKind.wrap_u64]; simp; omega
     rw [HO.out, ← HOR.out, e]
     rfl)
    clear h1 hxk h2 h3
    go_enter Tryz.func116, Tryz.ntmps116
    go_wp2
    go_ret3
    exact ⟨by rw [HO2.out]; rfl, rfl⟩
theorem getV_at (l : List UInt8) (k : Nat) (c : UInt8) (hk : k < 10) (hc : l[k]? = some c) (hlt : c.toNat < 128) (hgt : ∀ j b, j < k → l[j]? = some b → 127 < b.toNat) : endV (horner (l.take k)) k c.toNat = getV l := by
 have hkl : k < l.length := (List.getElem?_eq_some_iff.1 hc).1
 have hl : lead 10 l = k := lead_eq 10 l k (by omega) (by omega) hgt (.inr (.inr ⟨c, hc, by omega⟩))
 have hts : l.take (k + 1) = l.take k ++ [c] := by
  rw [List.take_succ_eq_append_getElem hkl]
  congr 2
  rw [List.getElem?_eq_getElem hkl] at hc
  injection hc
 have hh : horner (l.take (k + 1)) = horner (l.take k) + c.toNat * 128 ^ k := by
  rw [hts, horner_snoc, List.length_take, Nat.min_eq_left (by omega), Nat.mod_eq_of_lt hlt]
 have hlt2 : horner (l.take k) < 128 ^ k := by
  have h := horner_lt (l.take k)
  rwa [List.length_take, Nat.min_eq_left (by omega)] at h
 have hgd : (l.getD k 0).toNat = c.toNat := by simp [List.getD, hc]
 have hbig : 18446744073709551616 ≤ horner (l.take (k + 1)) ↔ 18446744073709551616 ≤ c.toNat * 128 ^ k := by
  rw [hh]
  constructor
  ·intro h
   obtain ⟨M, hM⟩ : ∃ M, 18446744073709551616 = M * 128 ^ k := ⟨2 ^ (64 - 7 * k), by
    have : (128 : Nat) ^ k = 2 ^ (7 * k) := by rw [Nat.pow_mul]
    rw [this, ← Nat.pow_add]
    have : 64 - 7 * k + 7 * k = 64 := by omega
    rw [this]⟩
   rw [hM] at h ⊢
   have hP : 0 < 128 ^ k := Nat.pow_pos (by decide)
   apply Nat.mul_le_mul_right
   rcases Nat.lt_or_ge c.toNat M with hcm | hcm
   ·exfalso
    have : (c.toNat + 1) * 128 ^ k ≤ M * 128 ^ k := Nat.mul_le_mul_right _ hcm
    rw [Nat.add_mul] at this
    omega
   ·exact hcm
  ·intro h; omega
 unfold endV getV
 rw [hl, if_neg (by omega : ¬ k = 10), if_neg (by omega : ¬ k = l.length), hgd]
 by_cases h1 : 18446744073709551616 ≤ c.toNat * 128 ^ k
 ·rw [if_pos h1, if_pos (hbig.2 h1)]
 ·rw [if_neg h1, if_neg (fun h => h1 (hbig.1 h)), hh]
theorem nget_any (d : Nat) (v : Value) (l : List UInt8) (w : World) (h : Rd w d v l) : Calls Tryz.prog 108 #[v] w fun r w' => r = outV (getV l) ∧ w = w' := by
 obtain ⟨A, c, rfl, hlc, hc47, hA⟩ := h
 obtain ⟨m, hm⟩ : ∃ m : Nat, min (l.length : Int) 10 = (m : Int) := ⟨min l.length 10, by omega⟩
 have hm10 : m ≤ 10 := by omega
 have hml : m ≤ l.length := by omega
 have HM : Hid (m = 10 ∨ m = l.length) := hHd (by omega)
 have hmx : max (m : Int) 0 = (m : Int) := by omega
 go_enter Tryz.func108, Tryz.ntmps108
 go_wp2
 clear hm hmx
 go_loop [5, 14] (fun x i => ∃ (k X : Nat), k ≤ m ∧ i = .int .i64 (k : Int) ∧ x = .int .u64 (X : Int) ∧ X < 18446744073709551616 ∧ Hid (k ≤ 9 → X = horner (l.take k)) ∧ Hid (∀ j b, j < k → l[j]? = some b → 127 < b.toNat)) (fun _ i => m - (intOf i).toNat)
 case atStart => exact ⟨0, 0, Nat.zero_le _, rfl, rfl, by decide, hHd (fun _ => rfl), hHd (fun j b hj => absurd hj (by omega))⟩
 case round =>
  obtain ⟨k, X, hk, rfl, rfl, hX, HX, HK⟩ := hrel
  by_cases hlt : k < m
  ·obtain ⟨b, hb⟩ : ∃ b, l[k]? = some b := ⟨_, List.getElem?_eq_getElem (by omega)⟩
   obtain ⟨off, rfl, hc⟩ := hA (by omega)
   have hcell : w.cell? ⟨d, off + k, none⟩ = some (.int .u8 (b.toNat : Int)) := hc k _ hb
   have hXk := HX.out (by omega)
   by_cases hb7 : b.toNat < 128
   ·have hE := getV_at l k b (by omega) hb hb7 HK.out
    rw [← hXk] at hE
    have HE := hHd hE
    have hxk : X < 128 ^ k := by
     have h := horner_lt (l.take k)
     rw [List.length_take, Nat.min_eq_left (by omega), ← hXk] at h
     exact h
    obtain ⟨V, hV⟩ : ∃ V, V = endV X k b.toNat := ⟨_, rfl⟩
    have HC : Hid (Calls Tryz.prog 116 #[.int .u64 (X : Int), .int .i64 (k : Int), .int .u8 (b.toNat : Int)] w fun r w' => r = .returned (.tuple #[.int .u64 (V.1 : Int), .int .i64 (V.2.1 : Int), .int .i64 V.2.2]) ∧ w = w') :=
     hHd (by rw [hV]; exact ended_any X k b.toNat w (by omega) hb7 hX hxk)
    rw [← hV] at HE
    have hb7' : (b.toNat : Int) < 128 := by omega
    clear hc hA hE hXk hxk hb hb7 hV
    go_wp2_with fail
    refine HC.out.mono ?_
    rintro r w' ⟨rfl, rfl⟩
    go_wp2
    go_ret3
    exact ⟨by rw [← HE.out]; rfl, rfl⟩
   ·have hb7' : ¬ (b.toNat : Int) < 128 := by omega
    have hb8 := UInt8.toNat_lt b
    have HN : Hid (∀ j c, j < k + 1 → l[j]? = some c → 127 < c.toNat) := hHd (fun j c hj hc => by
     rcases Nat.lt_or_ge j k with hlt | hge
     ·exact HK.out j c hlt hc
     ·obtain rfl : j = k := by omega
      rw [hb] at hc; injection hc with hc; rw [← hc]; omega)
    obtain ⟨q, hq⟩ : ∃ q, q = b.toNat % 128 := ⟨_, rfl⟩
    have hqI : (b.toNat : Int) - 128 = (q : Int) := by omega
    have hq128 : q < 128 := by omega
    obtain ⟨X', hX'⟩ : ∃ X' : Nat, bits .or .u64 (X : Int) (IntKind.u64.wrap ((q : Int) * 2 ^ (7 * k))) = (X' : Int) ∧ X' < 18446744073709551616 ∧ (k + 1 ≤ 9 → X' = horner (l.take (k + 1))) := by
     by_cases hk8 : k + 1 ≤ 9
     ·have hxk : X < 128 ^ k := by
       have h := horner_lt (l.take k)
       rw [List.length_take, Nat.min_eq_left (by omega), ← hXk] at h
       exact h
      have hpw : 128 ^ k * 128 ≤ 128 ^ 9 := by rw [← Nat.pow_succ]; exact Nat.pow_le_pow_right (by decide) hk8
      have hqp : (q + 1) * 128 ^ k ≤ 128 * 128 ^ k := Nat.mul_le_mul_right _ hq128
      have h9 : (128 : Nat) ^ 9 = 9223372036854775808 := by decide
      rw [Nat.add_mul] at hqp
      refine ⟨X + q * 128 ^ k, or_groups X k q hX hxk (by omega), by omega, fun _ => ?_⟩
      have hts : l.take (k + 1) = l.take k ++ [b] := by
       have hkl : k < l.length := by omega
       rw [List.take_succ_eq_append_getElem hkl]
       congr 2
       rw [List.getElem?_eq_getElem hkl] at hb
       injection hb
      rw [hts, horner_snoc, List.length_take, Nat.min_eq_left (by omega), ← hXk, ← hq]
     ·refine ⟨X ||| (IntKind.u64.wrap ((q : Int) * 2 ^ (7 * k))).toNat, ?_, ?_, fun h => absurd h hk8⟩
      ·have hw : 0 ≤ IntKind.u64.wrap ((q : Int) * 2 ^ (7 * k)) ∧ IntKind.u64.wrap ((q : Int) * 2 ^ (7 * k)) < 18446744073709551616 := by
        rw [IntKind.wrap_u64]
        generalize (q : Int) * 2 ^ (7 * k) = z
        omega
       generalize IntKind.u64.wrap ((q : Int) * 2 ^ (7 * k)) = z at hw
       obtain ⟨z, rfl⟩ := Int.eq_ofNat_of_zero_le hw.1
       exact u64_or_nat X z hX (by omega)
      ·have hw : (IntKind.u64.wrap ((q : Int) * 2 ^ (7 * k))).toNat < 2 ^ 64 := by
        rw [IntKind.wrap_u64]
        generalize (q : Int) * 2 ^ (7 * k) = z
        omega
       have := Nat.or_lt_two_pow (x := X) (n := 64) (by omega) hw
       omega
    obtain ⟨hX1, hX2, hX3⟩ := hX'
    have HX1 := hHd hX1
    have HX3 := hHd hX3
    clear hc hA hXk hb hb7 hq hX1 hX3
    go_wp2
    go_round
    case rel => exact ⟨k + 1, X', by omega, by go_num, by rw [← HX1.out], hX2, HX3, HN⟩
    case measure => simp [intOf]; omega
  ·obtain rfl : k = m := by omega
   by_cases h10 : l.length < 10
   ·have hkl : k = l.length := by rcases HM.out with h | h <;> omega
    have hl : lead 10 l = l.length := lead_eq 10 l _ (by omega) (Nat.le_refl _) (fun j b hj hb => HK.out j b (by omega) hb) (.inr (.inl rfl))
    have HO : Hid (outV (getV l) = .returned (.tuple #[.int .u64 0, .int .i64 0, .int .i64 10])) := hHd (by
     unfold getV
     rw [hl, if_neg (by omega), if_pos rfl]
     rfl)
    clear hl hkl
    go_wp2
    go_ret3
    exact ⟨HO.out.symm, rfl⟩
   ·have hkl : k = 10 := by rcases HM.out with h | h <;> omega
    have hl : lead 10 l = 10 := lead_eq 10 l _ (by omega) (by omega) (fun j b hj hb => HK.out j b (by omega) hb) (.inl rfl)
    have HO : Hid (outV (getV l) = .returned (.tuple #[.int .u64 0, .int .i64 0, .int .i64 14])) := hHd (by
     unfold getV
     rw [hl, if_pos rfl]
     rfl)
    clear hl hkl
    go_wp2
    go_ret3
    exact ⟨HO.out.symm, rfl⟩
theorem lead_le (f : Nat) : ∀ s : List UInt8, lead f s ≤ f ∧ lead f s ≤ s.length := by
 induction f with
 | zero => intro s; simp [lead]
 | succ f ih =>
  intro s
  cases s with
  | nil => simp [lead]
  | cons b l =>
   unfold lead
   have := ih l
   split <;> simp <;> omega
theorem getV_le (s : List UInt8) : (getV s).2.1 ≤ s.length ∧ (getV s).2.1 ≤ 10 := by
 have := lead_le 10 s
 unfold getV
 repeat' split
 all_goals simp <;> omega
theorem lead_take (f : Nat) : ∀ l : List UInt8, lead f (l.take f) = lead f l := by
 induction f with
 | zero => intro l; simp [lead]
 | succ f ih =>
  intro l
  cases l with
  | nil => simp
  | cons b l =>
   rw [List.take_succ_cons]
   conv => lhs; unfold lead
   conv => rhs; unfold lead
   rw [ih l]
theorem getV_take (l : List UInt8) : getV (l.take 10) = getV l := by
 have hl := lead_take 10 l
 have hle := lead_le 10 l
 unfold getV
 rw [hl]
 by_cases h1 : lead 10 l = 10
 ·rw [if_pos h1, if_pos h1]
 rw [if_neg h1, if_neg h1]
 by_cases h2 : lead 10 l = l.length
 ·rw [if_pos h2, if_pos (by rw [List.length_take]; omega)]
 rw [if_neg h2, if_neg (by rw [List.length_take]; omega), List.take_take, Nat.min_eq_left (by omega)]
 have hg : (l.take 10).getD (lead 10 l) 0 = l.getD (lead 10 l) 0 := by
  simp only [List.getD]
  rw [List.getElem?_take_of_lt (by omega)]
 rw [hg]
def TakePost (g d : Nat) (l : List UInt8) (e : Int) (w : World) (r : Ending) (w' : World) : Prop :=
 r = .returned (.tuple #[.int .u64 (if e = 0 then ((getV l).1 : Int) else 0), .int .i64 (if e = 0 then (getV l).2.2 else e)]) ∧ Win w' g d (if e = 0 then l.drop (getV l).2.1 else l) e ∧ w.grownBy w' (some g)
theorem grown_two {a b c : World} {g : Nat} (h : a.grownBy b (some a.heap.size)) (_ : g < a.heap.size) (k : b.grownBy c (some g)) : a.grownBy c (some g) :=
 ⟨k.os.trans h.os, k.tape.trans h.tape, k.output.trans h.output, Nat.le_trans h.size k.size, fun i hi hne => (k.block i (Nat.lt_of_lt_of_le hi h.size) hne).trans (h.block i hi (by intro e; injection e with e; omega))⟩
theorem take_any (g d : Nat) (l : List UInt8) (e : Int) (w : World) (h : Win w g d l e) (hd : d ≠ g) (hdw : d < w.heap.size) :
  Calls Tryz.prog 84 #[.pointer (some ⟨g, 0, none⟩)] w (TakePost g d l e w) := by
 by_cases he : e = 0
 ·subst he
  have hlt := h.lt
  obtain ⟨v, hb, hr⟩ := id h
  have hr0 := hr
  obtain ⟨A, c, rfl, -⟩ := hr
  have h0 : w.cell? ⟨g, 0, none⟩ = some (.slice A l.length c) := by rw [hb.cell]; rfl
  have h1 : w.cell? ⟨g, 1, none⟩ = some (.int .i64 0) := by rw [hb.cell]; rfl
  go_enter Tryz.func84, Tryz.ntmps84
  go_wp2_with (go_at_call 107; refine (err_any g d l _ _ h).mono ?_; rintro r w' ⟨rfl, rfl⟩)
  have hW1 : Win (w.alloc (.cells #[.slice A l.length c, .int .i64 0] 132)) w.heap.size d l 0 := ⟨_, Blk.new _ _ _, hr0.alloc _⟩
  have hw1 : Win (w.alloc (.cells #[.slice A l.length c, .int .i64 0] 132)) g d l 0 := h.alloc _
  refine (left_any w.heap.size d l 0 _ hW1).mono ?_
  rintro r w' ⟨rfl, rfl⟩
  obtain ⟨m, hm⟩ : ∃ m : Nat, min (l.length : Int) 10 = (m : Int) := ⟨min l.length 10, by omega⟩
  have hm10 : m ≤ 10 := by omega
  have hml : m ≤ l.length := by omega
  have HM : Hid (m = 10 ∨ m = l.length) := hHd (by omega)
  go_wp2_with fail
  have hdeq : d ≠ w.heap.size := by omega
  refine (bytes_any w.heap.size d l 0 (m : Int) _ hW1 hdeq).mono ?_
  rintro r w2 ⟨v2, rfl, hr2, hW2, hg2, hs2⟩
  rw [nx_ok (by omega) (by omega)] at hr2
  have hgl : getV (l.take m) = getV l := by
   rcases HM.out with h | h
   ·rw [h]; exact getV_take l
   ·rw [List.take_of_length_le (by omega)]
  have hr2' : Rd w2 (w.heap.size + 1) v2 (l.take m) := by simpa using hr2
  have hw2 := hw1.grown hg2 (by omega) hdeq
  have hG1 : w.grownBy w2 (some w.heap.size) := (World.grownBy_alloc w _ _).trans hg2
  have hz2 : w2.heap.size = w.heap.size + 2 := by have h : w2.heap.size = _ := hs2; simpa using h
  clear hr2 hW2 hg2 hs2
  go_wp2_with fail
  refine (nget_any _ v2 _ w2 hr2').mono ?_
  rintro r w3 ⟨rfl, rfl⟩
  rw [hgl]
  obtain ⟨V, hV⟩ : ∃ V, V = getV l := ⟨_, rfl⟩
  have hVl := getV_le l
  rw [← hV] at hVl ⊢
  have HV := hHd hV
  clear hV hgl
  unfold outV
  go_wp2_with fail
  refine (bytes_any g d l 0 (V.2.1 : Int) _ hw2 hd).mono ?_
  rintro r w3 ⟨v3, rfl, -, hw3, hg3, -⟩
  rw [nx_ok (by omega) (by omega)] at hw3
  have HP : Hid (TakePost g d l 0 w (.returned (.tuple #[.int .u64 (V.1 : Int), .int .i64 V.2.2])) w3) := hHd ⟨by rw [if_pos rfl, if_pos rfl, ← HV.out], by rw [if_pos rfl, ← HV.out]; simpa using hw3, grown_two hG1 hlt hg3⟩
  clear hw3 hg3 hG1
  go_wp2
  go_ret2
  exact HP.out
 ·have hb : (e == 0) = false := by simpa using he
  have HP : Hid (TakePost g d l e w (.returned (.tuple #[.int .u64 0, .int .i64 e])) w) := hHd ⟨by rw [if_neg he, if_neg he], by rw [if_neg he]; exact h, World.grownBy.refl w _⟩
  clear he
  go_enter Tryz.func84, Tryz.ntmps84
  go_wp2_with (go_at_call 107; refine (err_any g d l _ _ h).mono ?_; rintro r w' ⟨rfl, rfl⟩)
  go_ret2
  exact HP.out
def PutQ18 (f : Fo) (w : World) (r : Ending) (w' : World) : Prop :=
 ∃ v, r = .returned (.tuple #[v, .int .i64 (if f.ok = true then 0 else 1)]) ∧ Own w' w.heap.size v (if f.ok = true then f.all else []) ∧ Below w.heap.size w w' ∧ (f.ok = true → w.heap.size < w'.heap.size)
theorem putQ18 (f : Fo) (w : World) (v : Value) (hv : FV DataI w (Lo w) v f) (hsz : f.sz ≤ 1099511627776) : Calls Tryz.prog 22 #[v] w (PutQ18 f w) := by
 have hmf : ∀ (fn : Fn) (first cap : Array Value) (w : World), (Instr.makeFunc fn first cap).run Tryz.prog w = .ok (.func fn first cap) w := fun _ _ _ _ => rfl
 have HC := hHd (checkC f w v hv hsz)
 obtain ⟨A, c, rfl⟩ := hv.shape
 cases hok : f.ok with
 | false =>
  rw [hok] at HC
  have HP : Hid (∀ w', Below w.heap.size w w' → PutQ18 f w (.returned (.tuple #[.slice none 0 0, .int .i64 1])) w') := hHd (fun w' hb => by
   refine ⟨.slice none 0 0, by rw [hok]; rfl, ?_, hb, fun h => by rw [hok] at h; cases h⟩
   rw [hok]; exact Own.nil _ _)
  clear hok
  go_enter Tryz.func22, Tryz.ntmps22
  go_wp2_with fail
  refine HC.out.mono ?_
  rintro r w1 ⟨rfl, hb1⟩
  go_wp2
  go_ret2
  exact HP.out _ hb1
 | true =>
  rw [hok] at HC
  have HP : Hid (∀ w' v, Own w' w.heap.size v f.all → Below w.heap.size w w' → w.heap.size < w'.heap.size → PutQ18 f w (.returned (.tuple #[v, .int .i64 0])) w') := hHd (fun w' v ho hb hs => by
   refine ⟨v, by rw [hok]; rfl, ?_, hb, fun _ => hs⟩
   rw [hok]; exact ho)
  clear hok
  have hal : f.all.length ≤ 22000000000000 := by have := f.all_le; omega
  go_enter Tryz.func22, Tryz.ntmps22
  go_wp2_with fail
  refine HC.out.mono ?_
  rintro r w1 ⟨rfl, hb1⟩
  have b2 : SelfE (w1.alloc (.cells #[.func (.func 47) #[] #[.pointer (some ⟨w1.heap.size, 0, none⟩)]] 90)) w1.heap.size := Blk.new w1 _ _
  have hB := hb1.alloc hb1.size (.cells #[.func (.func 47) #[] #[.pointer (some ⟨w1.heap.size, 0, none⟩)]] 90)
  have hv1 : FV DataI (w1.alloc (.cells #[.func (.func 47) #[] #[.pointer (some ⟨w1.heap.size, 0, none⟩)]] 90)) (Lo (w1.alloc (.cells #[.func (.func 47) #[] #[.pointer (some ⟨w1.heap.size, 0, none⟩)]] 90))) (.slice A f.len c) f := hv.kept stays_I (fun g hg => hB.block g hg) (fun _ hg => Nat.lt_of_lt_of_le hg hB.size)
  have HI := hHd (enc_any f _ _ _ hv1 hsz b2)
  have HB := hHd hB
  have HS1 : Hid (w.heap.size < (w1.alloc (.cells #[.func (.func 47) #[] #[.pointer (some ⟨w1.heap.size, 0, none⟩)]] 90)).heap.size) := hHd (by rw [World.size_alloc]; exact Nat.lt_succ_of_le hb1.size)
  clear b2 hB hv1 hb1
  go_wp2_with fail
  refine HI.out.mono ?_
  rintro r w2 ⟨v2, rfl, ho, hb2⟩
  have hB2 := HB.out.trans (hb2.mono HB.out.size)
  have HS2 := hHd (Nat.lt_of_lt_of_le HS1.out hb2.size)
  obtain ⟨d9, -, -, hr9⟩ := ho.rd (by omega)
  obtain ⟨A9, c9, rfl⟩ : ∃ A c, v2 = .slice A f.all.length c := by obtain ⟨A, c, h, _⟩ := hr9; exact ⟨A, c, h⟩
  have ho2 : Own w2 w.heap.size (.slice A9 f.all.length c9) f.all := by
   refine ⟨ho.1, ?_⟩
   rcases ho.2 with h | ⟨g, cap, cur, h1, h2, h3⟩
   ·exact .inl h
   ·exact .inr ⟨g, cap, cur, h1, Nat.le_trans HB.out.size h2, h3⟩
  have HO := hHd ho2
  clear ho ho2 hb2 hr9
  go_wp2
  go_ret2
  exact HP.out _ _ HO.out hB2 HS2.out
section
attribute [local go_sem] Oper.semAt_some
theorem EdsV.lit {S : Nat → Prop} {w : World} {g n : Nat} {xs : List Value} {l : List EdD} (hb : Blk w g 55 xs.toArray) (hS : S g) (hr : rowE S w xs l) (hn : n = l.length) : EdsV S w (.slice (some ⟨g, 0, none⟩) n n) l :=
 ⟨_, n, by rw [hn], by omega, fun _ => ⟨g, 0, xs, rfl, hS, hr, fun j u hj => by rw [Nat.zero_add, hb.cell]; simpa using hj⟩⟩
end
section
attribute [local go_sem] Oper.semAt_some
theorem RowS.at {S : Nat → Prop} {w : World} {A : Option Addr} {n c : Nat} {f : NdF} (h : RowS S w (.slice A n c) f) {i : Nat} {y : Nd} (hy : f.get? i = some y) :
  ∃ g o A' c', A = some ⟨g, o, none⟩ ∧ S g ∧ RowS S w (.slice A' y.2.len c') y.2 ∧ ∀ j u, (ndC y.1 (.slice A' y.2.len c'))[j]? = some u → w.cell? ⟨g, o + i * 6 + j, none⟩ = some u := by
 obtain ⟨a, k⟩ := y
 obtain ⟨g, o, c1, cs, e, h1, h2, ⟨h30, ⟨kv, rfl, _⟩, v, h5, h6⟩, h4⟩ := FrV.at h hy
 injection e with e1 e2 e3
 obtain ⟨A', c', rfl⟩ := h6.shape
 simp at h5
 subst h5
 exact ⟨g, o, A', c', e1, h2, h6, h4⟩
def EdL (S : Nat → Prop) (B : Nat) (L : List EdD) (v : Value) (w : World) : Prop := OwnE B (fun g => S g ∨ (B ≤ g ∧ g < w.heap.size ∧ some g ≠ v.ownBlock)) w v L ∧ B ≤ w.heap.size ∧ ∀ g, S g → g < B
theorem EdL.ne {S : Nat → Prop} {B : Nat} {L : List EdD} {v : Value} {w : World} (h : EdL S B L v w) {g : Nat} (hg : S g) : some g ≠ v.ownBlock := fun e => by
 have h1 := (h.1.lt g e.symm).1
 have h2 := h.2.2 g hg
 omega
theorem EdL.below {S : Nat → Prop} {B : Nat} {L : List EdD} {v : Value} {w w' : World} (h : EdL S B L v w) (hb : Below w.heap.size w w') : EdL S B L v w' := by
 refine ⟨(h.1.below hb).widen (fun g hg => hg.elim .inl (fun h => .inr ⟨h.1, Nat.lt_of_lt_of_le h.2.1 hb.size, h.2.2⟩)) (fun g hg => ?_), Nat.le_trans h.2.1 hb.size, h.2.2⟩
 rcases hg with hg | hg
 ·exact ⟨Nat.lt_of_lt_of_le (Nat.lt_of_lt_of_le (h.2.2 g hg) h.2.1) hb.size, h.ne hg⟩
 ·exact hg.2
theorem EdL.shape {S : Nat → Prop} {B : Nat} {L : List EdD} {v : Value} {w : World} (h : EdL S B L v w) : ∃ A c, v = .slice A L.length c := h.1.shape
theorem EdL.app {S : Nat → Prop} {B : Nat} {L M : List EdD} {v v' : Value} {w w' : World} (h : EdL S B L v w) (ha : AppE B (fun g => S g ∨ (B ≤ g ∧ g < w.heap.size ∧ some g ≠ v.ownBlock)) w v M v' w') : EdL S B M v' w' := by
 refine ⟨ha.1.widen (fun g hg => ?_) (fun g hg => ?_), Nat.le_trans h.2.1 ha.2.1.size, h.2.2⟩
 ·have h1 := ha.1.1 g hg
  rcases hg with hg | hg
  ·exact .inl hg
  ·exact .inr ⟨hg.1, h1.1, h1.2⟩
 ·rcases hg with hg | hg
  ·exact ha.1.1 g (.inl hg)
  ·exact hg.2
theorem EdL.end_ {S : Nat → Prop} {B b : Nat} {L : List EdD} {v : Value} {w : World} (h : EdL S B L v w) (hb : b ≤ B) : EdsV (fun g => S g ∨ (b ≤ g ∧ g < w.heap.size)) w v L :=
 h.1.eds.keep (fun _ _ => rfl) (fun g hg => by
  rcases hg with (hg | hg) | hg
  ·exact .inl hg
  ·exact .inr ⟨Nat.le_trans hb hg.1, hg.2.1⟩
  ·have := h.1.lt g hg; exact .inr ⟨by omega, this.2⟩)
end
end Go.Proofs.YtleidkpdpabkpaaGreatDoor
