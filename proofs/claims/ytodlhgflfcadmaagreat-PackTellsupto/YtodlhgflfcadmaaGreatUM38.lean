/- PakByt Law13A Law13C PakPln -/
import Derived.Test.YtodlhgflfcadmaaGreatUM37
set_option linter.unusedSimpArgs false
set_option linter.unusedVariables false
set_option maxRecDepth 100000
set_option maxHeartbeats 8000000
namespace Go.Proofs.YtodlhgflfcadmaaGreat
open Go.RowKit
theorem ItsP.from {F : Fo} {w W : World} {r : Ending} {w' : World} (h : ItsP F W r w') (hb : Below w.heap.size w W) : ItsP F w r w' := by
 obtain ⟨v, h1, h2, h3⟩ := h
 exact ⟨v, h1, h2.mono stays_I hb.size, hb.trans (h3.mono hb.size)⟩
theorem vitems_any (v : Int) (a : NdD) (f : NdF) (A : Option Addr) (c : Nat) (w : World) (hrow : RowT w.heap.size w (.slice A f.len c) f) (hf : f.size ≤ 1000000) (hok : OkF f) :
  Calls Tryz.prog 13 #[.int .i64 v, .agg (cN a (.slice A f.len c))] w (ItsP (ItemsX v (a, f)) w) := by
 have hal : Below w.heap.size w (w.alloc (.cells (cN a (.slice A f.len c)) 27)) := bAl
 have HN := hHd (Blk.new w 27 (cN a (.slice A f.len c)))
 have HB := hHd hal
 have HR := hHd (And.intro hrow (And.intro hf hok))
 have HM := hHd (vmay_any v a f A c (w.alloc (.cells (cN a (.slice A f.len c)) 27)) (hrow.below hal) hf hok)
 have HX : Hid (ItemsX v (a, f) = if MayX v (a, f) = true then itF (rootX v).1.2 0 f else .nil) := hHd rfl
 obtain ⟨F, hF⟩ : ∃ F, F = ItemsX v (a, f) := ⟨_, rfl⟩
 rw [← hF] at HX ⊢
 obtain ⟨mb, hmb⟩ : ∃ b, b = MayX v (a, f) := ⟨_, rfl⟩
 rw [← hmb] at HM HX
 obtain ⟨p0, p1, p2, p3, p4, p5⟩ := cl6 HN.out
 clear hal hrow hf hok hF hmb
 go_enter Tryz.func13, Tryz.ntmps13
 go_wp2_with fail
 refine HM.out.mono ?_
 rintro r w2 ⟨rfl, hb2⟩
 have HB2 := hHd (HB.out.trans (hb2.mono HB.out.size))
 have HN2 := hHd (HN.out.below hb2 HN.out.lt)
 clear hb2 p0 p1 p2 p3 p4 p5
 cases mb with
 | false =>
  have HE : Hid (F = .nil) := hHd (by rw [HX.out]; rfl)
  obtain rfl := HE.out
  go_wp2
  go_ret
  exact ⟨_, rfl, OwnF.nil _ _, HB2.out⟩
 | true =>
  have HE : Hid (F = itF (rootX v).1.2 0 f) := hHd (by rw [HX.out]; rfl)
  clear HX
  have HRT := hHd (root_any v w2)
  have HRO := hHd (root_ok v)
  obtain ⟨rx, hrx⟩ : ∃ rx, rx = rootX v := ⟨_, rfl⟩
  rw [← hrx] at HRT HRO HE
  clear hrx
  obtain ⟨⟨⟨nm, kd, ty, lo, hi, ns, mu, mo⟩, sf⟩, er⟩ := rx
  go_wp2_with fail
  refine HRT.out.mono ?_
  rintro r w3 ⟨cs, rfl, hnew, hb3⟩
  have hsl := newSp_l hnew
  obtain ⟨B0, m0, A0, c0, d0, rfl, -, -, -⟩ := SpN.shape (x := (⟨nm, kd, ty, lo, hi, ns, mu, mo⟩, sf)) hsl
  have hb4 : Below w3.heap.size w3 (w3.alloc (.cells (cT nm kd ty lo hi ns mu mo B0 m0 A0 sf.len c0) 61)) := bAl
  have HB4 := hHd ((HB2.out.trans (hb3.mono HB2.out.size)).trans (hb4.mono (HB2.out.trans (hb3.mono HB2.out.size)).size))
  have HN4 := hHd ((HN2.out.below hb3 HN2.out.lt).below hb4 (Nat.lt_of_lt_of_le HN2.out.lt hb3.size))
  have HI := hHd (itemsOf_any sf ⟨nm, kd, ty, lo, hi, ns, mu, mo⟩ (cT nm kd ty lo hi ns mu mo B0 m0 A0 sf.len c0).toList a f A c (w3.alloc (.cells (cT nm kd ty lo hi ns mu mo B0 m0 A0 sf.len c0) 61)) (hsl.keep (fun g hg => hb4.block g hg) hb4.size) HRO.out.1 HRO.out.2 (HR.out.1.below HB4.out) HR.out.2.1 HR.out.2.2)
  have HRB := hHd (Blk.new w3 61 (cT nm kd ty lo hi ns mu mo B0 m0 A0 sf.len c0))
  obtain ⟨q0, q1, q2, q3, q4, q5, q6, q7, q8⟩ := cl9 HRB.out
  obtain ⟨p0, p1, p2, p3, p4, p5⟩ := cl6 HN4.out
  clear hnew hb3 hsl hb4 HRT
  go_wp2_with fail
  refine HI.out.mono ?_
  intro r w5 hp
  obtain ⟨u, rfl, hu⟩ := hp.from HB4.out
  have HU := hHd hu
  clear hp hu q0 q1 q2 q3 q4 q5 q6 q7 q8 p0 p1 p2 p3 p4 p5
  go_wp2
  go_ret
  refine ⟨u, rfl, ?_⟩
  rw [HE.out]
  exact HU.out
def EncW (ver : Nat) (F : Fo) (w : World) (r : Ending) (w' : World) : Prop := ∃ u, r = .returned (.tuple #[u, .int .i64 (if F.all.length ≤ 8192 then 0 else 14)]) ∧ Own w' w.heap.size u (if F.all.length ≤ 8192 then encV 9 ver ++ F.all else []) ∧ Below w.heap.size w w'
theorem encoded_any (ver : Nat) (F : Fo) (v : Value) (w : World) (hv : FV DataI w (Lo w) v F) (hsz : F.sz ≤ 1099511627776) (hc : F.cnt ≤ 60000) (hr : Fo.right 1 F = true) (hver : ver ≤ 9223372036854775807) :
  Calls Tryz.prog 20 #[.int .i64 (ver : Int), v] w (EncW ver F w) := by
 have HS : Hid (Calls Tryz.prog 31 #[v] w (fun r w' => r = .returned (.int .i64 (F.all.length : Int)) ∧ Below w.heap.size w w')) := hHd (size_cnt F w v hv hsz hc)
 have HV := hHd hv
 have HSZ := hHd hsz
 have HVL := hHd (encV_length 9 ver).2
 have hal : F.all.length ≤ 22000000000000 := by have := F.all_le; omega
 have HAL := hHd hal
 have i1 : (0 : Int) ≤ (ver : Int) := by omega
 have i2 : (ver : Int) ≤ 9223372036854775807 := by omega
 have HVV : Hid (ver < 18446744073709551616) := hHd (by omega)
 unfold EncW
 obtain ⟨A, c, rfl⟩ := hv.shape
 by_cases h : F.all.length ≤ 8192
 ·have ho : F.ok = true := by unfold Fo.ok; rw [hr, decide_eq_true h]; rfl
  rw [if_pos h, if_pos h]
  have HP : Hid (∀ (W : World), Below w.heap.size w W → Calls Tryz.prog 32 #[.slice A F.len c] W (fun r w' => ∃ v, r = .returned (.tuple #[v, .int .i64 0]) ∧ Own w' W.heap.size v F.all ∧ Below W.heap.size W w')) := hHd (fun W hW => (putC F W _ (HV.out.kept stays_I (fun g hg => hW.block g hg) (fun _ hg => Nat.lt_of_lt_of_le hg hW.size)) HSZ.out).mono (fun r w' h => by
   unfold PutP at h
   rw [if_pos ho, if_pos ho] at h
   exact h))
  have HW : Hid (∀ W, Calls Tryz.prog 33 #[.int .u64 (ver : Int)] W (PutOwn ver W)) := hHd (fun W => put_own ver HVV.out W)
  obtain ⟨L, hL⟩ : ∃ L, L = F.all := ⟨_, rfl⟩
  rw [← hL] at HS HP h HAL ⊢
  have g1 : ¬ (8192 : Int) < (L.length : Int) := by omega
  obtain ⟨n, hn⟩ : ∃ n, n = L.length := ⟨_, rfl⟩
  have g2 : ¬ (8192 : Int) < (n : Int) := by rw [hn]; exact g1
  rw [← hn] at HS
  obtain ⟨E, hE⟩ : ∃ E, E = encV 9 ver := ⟨_, rfl⟩
  rw [← hE] at HVL ⊢
  have HE := hHd hE
  have HL := hHd hL
  clear hv hsz hc hr ho h hL g1 hn hE hal hver
  go_enter Tryz.func20, Tryz.ntmps20
  go_wp2_with fail
  refine HS.out.mono ?_
  rintro r w2 ⟨rfl, hb2⟩
  have HB2 := hHd hb2
  clear hb2
  go_wp2_with fail
  refine (HP.out _ HB2.out).mono ?_
  rintro r w3 ⟨v3, rfl, ho3, hb3⟩
  have HB3 := hHd (HB2.out.trans (hb3.mono HB2.out.size))
  have HO3 := hHd (ho3.rd' (by have := HAL.out; omega))
  clear hb3 ho3
  go_wp2_with fail
  refine (HW.out _).mono ?_
  rintro r w4 ⟨v4, rfl, ho4, hb4⟩
  have HB4 := hHd (HB3.out.trans (hb4.mono HB3.out.size))
  obtain ⟨d3, -, hr3⟩ := HO3.out
  have HR4 := hHd (hr3.below' hb4)
  rw [← HE.out] at ho4
  have HO4 := hHd (World.ownsRow.mono ho4 HB3.out.size)
  clear ho4 hb4 hr3 HO3
  go_wp2_with (at_builtin; refine wpList_append_rd rfl (.tmp 21) (.tmp 22) rfl rfl w.heap.size _ E rfl HO4.out _ _ L rfl HR4.out ?h1 ?h2 ?_)
  case h1 => have := HVL.out; have := HAL.out; omega
  case h2 => exact HB4.out.size
  intro v5 w5 hap
  have HB5 := hHd (HB4.out.trans (hap.below HO4.out HB4.out.size))
  have HO5 := hHd hap.1
  clear hap
  go_wp2
  go_ret2
  exact ⟨v5, rfl, HO5.out, HB5.out⟩
 ·rw [if_neg h, if_neg h]
  obtain ⟨n, hn⟩ : ∃ n, n = F.all.length := ⟨_, rfl⟩
  have g2 : (8192 : Int) < (n : Int) := by omega
  rw [← hn] at HS
  clear hv hsz hc hr h hn hal hver
  go_enter Tryz.func20, Tryz.ntmps20
  go_wp2_with fail
  refine HS.out.mono ?_
  rintro r w2 ⟨rfl, hb2⟩
  have HB2 := hHd hb2
  clear hb2
  go_wp2
  go_ret2
  exact ⟨_, rfl, Own.nil _ _, HB2.out⟩
def BytW (v : Int) (ver : Nat) (x : Nd) (w : World) (r : Ending) (w' : World) : Prop := if (CheckX v x).1 = 0 then EncW ver (ItemsX v x) w r w' else r = .returned (.tuple #[.slice none 0 0, .int .i64 ((CheckX v x).1 : Int)]) ∧ Below w.heap.size w w'
theorem EncW.from {ver : Nat} {F : Fo} {w W : World} {r : Ending} {w' : World} (h : EncW ver F W r w') (hb : Below w.heap.size w W) : EncW ver F w r w' := by
 obtain ⟨u, h1, h2, h3⟩ := h
 exact ⟨u, h1, World.ownsRow.mono h2 hb.size, hb.trans (h3.mono hb.size)⟩
theorem may_ver {v : Int} {x : Nd} (h : (CheckX v x).1 = 0) : 1 ≤ v ∧ v ≤ 3 := by
 unfold CheckX rootX at h
 by_cases hv : v < 1 ∨ 3 < v
 ·rw [if_pos hv] at h; cases h
 ·omega
theorem vbytes_any (v : Int) (ver : Nat) (a : NdD) (f : NdF) (A : Option Addr) (c : Nat) (w : World) (hrow : RowT w.heap.size w (.slice A f.len c) f) (hf : f.size ≤ 1000000) (hok : OkF f)
  (hF : (CheckX v (a, f)).1 = 0 → (ItemsX v (a, f)).sz ≤ 1099511627776 ∧ (ItemsX v (a, f)).cnt ≤ 60000 ∧ Fo.right 1 (ItemsX v (a, f)) = true ∧ v = (ver : Int)) :
  Calls Tryz.prog 9 #[.int .i64 v, .agg (cN a (.slice A f.len c))] w (BytW v ver (a, f) w) := by
 have hal : Below w.heap.size w (w.alloc (.cells (cN a (.slice A f.len c)) 27)) := bAl
 have HN := hHd (Blk.new w 27 (cN a (.slice A f.len c)))
 have HB := hHd hal
 have HC := hHd (vcheck_any v a f A c (w.alloc (.cells (cN a (.slice A f.len c)) 27)) (hrow.below hal) hf hok)
 have HIT : Hid (∀ W, Below w.heap.size w W → Calls Tryz.prog 13 #[.int .i64 v, .agg (cN a (.slice A f.len c))] W (ItsP (ItemsX v (a, f)) W)) := hHd (fun W hW => vitems_any v a f A c W (hrow.below hW) hf hok)
 have HFF := hHd hF
 have hmv := @may_ver v (a, f)
 unfold BytW
 obtain ⟨⟨er, way⟩, hb⟩ : ∃ b, b = CheckX v (a, f) := ⟨_, rfl⟩
 rw [← hb] at HC HFF hmv ⊢
 simp only at HFF hmv ⊢
 obtain ⟨F, hFe⟩ : ∃ F, F = ItemsX v (a, f) := ⟨_, rfl⟩
 rw [← hFe] at HIT HFF ⊢
 obtain ⟨p0, p1, p2, p3, p4, p5⟩ := cl6 HN.out
 clear hal hrow hf hok hF hb hFe
 by_cases he : er = 0
 ·subst he
  obtain ⟨s1, s2, s3, rfl⟩ := HFF.out rfl
  have hv3 := hmv rfl
  have HSS := hHd (And.intro s1 (And.intro s2 (And.intro s3 hv3)))
  clear s1 s2 s3 hmv HFF hv3
  have key : Calls Tryz.prog 9 #[.int .i64 (ver : Int), .agg (cN a (.slice A f.len c))] w (EncW ver F w) := by
   go_enter Tryz.func9, Tryz.ntmps9
   go_wp2_with fail
   refine HC.out.mono ?_
   rintro r w2 ⟨v2, rfl, hv2, hb2⟩
   have HB2 := hHd (HB.out.trans (hb2.mono HB.out.size))
   have HN2 := hHd (HN.out.below hb2 HN.out.lt)
   obtain ⟨A2, c2, rfl⟩ := hv2.shape
   clear hb2 hv2 p0 p1 p2 p3 p4 p5
   obtain ⟨p0, p1, p2, p3, p4, p5⟩ := cl6 HN2.out
   go_wp2_with fail
   refine (HIT.out _ HB2.out).mono ?_
   intro r w3 hp
   obtain ⟨u3, rfl, hu3, hb3⟩ := hp
   have HB3 := hHd (HB2.out.trans (hb3.mono HB2.out.size))
   have hfv : FV DataI w3 (Lo w3) u3 F := (hu3.fv stays_I).kept stays_I (fun _ _ => rfl) (fun _ hg => hg.2)
   have HE := hHd (encoded_any ver F u3 w3 hfv HSS.out.1 HSS.out.2.1 HSS.out.2.2.1 (by have := HSS.out.2.2.2; omega))
   clear hb3 hu3 hfv p0 p1 p2 p3 p4 p5
   go_wp2_with fail
   refine HE.out.mono ?_
   intro r w4 hp4
   obtain ⟨u4, hr4, ho4, hb4⟩ := hp4.from HB3.out
   generalize hec : (if F.all.length ≤ 8192 then (0 : Int) else 14) = ec at hr4
   subst hr4
   have HEC := hHd hec
   clear hec
   have HO4 := hHd (And.intro ho4 hb4)
   clear hp4 ho4 hb4
   go_wp2
   go_ret2
   exact ⟨u4, by rw [HEC.out]; rfl, HO4.out.1, HO4.out.2⟩
  exact key.mono (fun r w' h => by rw [if_pos rfl]; exact h)
 ·have key : Calls Tryz.prog 9 #[.int .i64 v, .agg (cN a (.slice A f.len c))] w (fun r w' => r = .returned (.tuple #[.slice none 0 0, .int .i64 (er : Int)]) ∧ Below w.heap.size w w') := by
   have n1 : ((er : Int) != 0) = true := by rw [bne_iff_ne]; omega
   have n2 : ((er : Int) == 0) = false := beq_eq_false_iff_ne.2 (by omega)
   clear HIT HFF hmv he
   go_enter Tryz.func9, Tryz.ntmps9
   go_wp2_with fail
   refine HC.out.mono ?_
   rintro r w2 ⟨v2, rfl, hv2, hb2⟩
   have HB2 := hHd (HB.out.trans (hb2.mono HB.out.size))
   obtain ⟨A2, c2, rfl⟩ := hv2.shape
   clear hb2 hv2 p0 p1 p2 p3 p4 p5
   go_wp2
   go_ret2
   exact ⟨rfl, HB2.out⟩
  exact key.mono (fun r w' h => by rw [if_neg he]; exact h)
theorem small13_any (a : NdD) (f : NdF) (A : Option Addr) (c : Nat) (w : World) (hk : RowT w.heap.size w (.slice A f.len c) f) (hf : f.size ≤ 1000000) :
  Calls Tryz.prog 8 #[.agg (cN a (.slice A f.len c))] w (Ans9 (.bool (decide (f.size + 1 ≤ 300))) w) := by
 have hB : Below w.heap.size w (w.alloc (.cells (cN a (.slice A f.len c)) 27)) := bAl
 obtain ⟨z, hz⟩ : ∃ z, z = f.size + 1 := ⟨_, rfl⟩
 have HC : Hid (Calls Tryz.prog 18 #[.agg (cN a (.slice A f.len c))] (w.alloc (.cells (cN a (.slice A f.len c)) 27)) (Ans9 (.int .i64 (z : Int)) (w.alloc (.cells (cN a (.slice A f.len c)) 27)))) := hHd (by
  rw [hz]; exact rsizef_any f a A c _ (hk.under hB (Nat.le_refl _) hB.size) hf)
 have HB := hHd hB
 have HV : Hid (decide ((z : Int) ≤ 300) = decide (f.size + 1 ≤ 300)) := hHd (by rw [hz, Bool.eq_iff_iff]; simp; omega)
 clear hB hk hf hz
 go_enter Tryz.func8, Tryz.ntmps8
 go_wp2_with fail
 refine HC.out.mono ?_
 rintro r w2 ⟨rfl, hb⟩
 have HB2 := hHd (HB.out.trans (hb.mono HB.out.size))
 clear hb
 go_wp2
 go_ret
 exact ⟨congrArg (fun b => Ending.returned (Value.bool b)) HV.out, HB2.out⟩
def wgW : SpF → Nat
 | .nil => 0
 | .cons _ s r => (2 + wgW s) + wgW r
theorem cnt_coll (g : NdF → Fo) (d : SpD) (tag m : Nat) (hg : ∀ k, (g k).cnt ≤ m * k.size) (f : NdF) : (collW g d tag f).cnt ≤ (2 + m) * f.size := by
 induction f with
 | nil => exact Nat.zero_le _
 | cons a k r _ ih =>
  have h2 : (2 + m) * (k.size + r.size + 1) = (2 + m) * k.size + (2 + m) * r.size + (2 + m) := by rw [Nat.mul_add, Nat.mul_add, Nat.mul_one]
  have h3 : (2 + m) * k.size = 2 * k.size + m * k.size := Nat.add_mul _ _ _
  have h4 := hg k
  simp only [collW, Fr.size]
  split
  ·have h5 : (kdW g d a k).cnt ≤ 1 + m * k.size := by
    unfold kdW
    split
    ·exact Nat.zero_le _
    ·split
     ·simp only [Fo.cnt]; omega
     ·omega
   simp only [Fo.cnt]
   omega
  ·omega
theorem cnt_it (s : SpF) : ∀ (i : Nat) (f : NdF), (itF s i f).cnt ≤ wgW s * f.size := by
 induction s with
 | nil => intro i f; simp [itF, Fo.cnt]
 | cons d k r ihk ihr =>
  intro i f
  simp only [itF, Fo.cnt_app, wgW, Nat.add_mul (2 + wgW k)]
  have h1 := cnt_coll (fun x => itF k 0 x) d (tgW d i) (wgW k) (fun x => ihk 0 x) f
  have h2 := ihr (i + 1) f
  omega
theorem wg_root (v : Int) : wgW (rootX v).1.2 ≤ 100 := by
 unfold rootX
 split
 ·decide
 ·rename_i h
  have h' : v = 1 ∨ v = 2 ∨ v = 3 := by omega
  rcases h' with rfl | rfl | rfl <;> decide
theorem cnt_items (v : Int) (x : Nd) : (ItemsX v x).cnt ≤ 100 * x.2.size := by
 unfold ItemsX
 split
 ·exact Nat.le_trans (cnt_it _ 0 x.2) (Nat.mul_le_mul_right _ (wg_root v))
 ·exact Nat.zero_le _
def sysD : NdD := ⟨nSystem, [], 5, 0, [97, 98]⟩
def sysF : NdF := .cons sysD .nil .nil
def sysI : Fo := .cons 2 [97, 98] .nil .nil
theorem ex13a : CheckX 3 (zeroT, sysF) = (0, []) := by decide
theorem ex13b : CheckX 0 (zeroT, sysF) = (28, []) := by decide
theorem ex13c : ItemsX 3 (zeroT, sysF) = sysI := by rfl
theorem ex13d : encV 9 3 ++ sysI.all = [3, 2, 2, 97, 98] := by decide
theorem row13 (w : World) (g : Nat) (hb : Blk w g 27 #[.string ⟨#[115, 121, 115, 116, 101, 109]⟩, .string ⟨#[]⟩, .int .i64 5, .int .u64 0, .string ⟨#[97, 98]⟩, .slice none 0 0]) : RowT w.heap.size w (.slice (some ⟨g, 0, none⟩) 1 1) sysF :=
 FrV.lit (e := 27) (xs := ndC sysD (.slice none 0 0)) (f := sysF) hb.lt hb ⟨_, [], rfl, LieB.make (a := sysD) (f := .nil) (FrV.empty _ _ _), rfl⟩ (Nat.le_refl _)
theorem ok13 : OkF sysF := ⟨⟨by decide, by decide, by decide, by decide, by decide, by decide⟩, trivial, trivial⟩
theorem bytes13 (w : World) (g : Nat) (hb : Blk w g 27 #[.string ⟨#[115, 121, 115, 116, 101, 109]⟩, .string ⟨#[]⟩, .int .i64 5, .int .u64 0, .string ⟨#[97, 98]⟩, .slice none 0 0]) : Calls Tryz.prog 9 #[.int .i64 3, .agg #[.string ⟨#[]⟩, .string ⟨#[]⟩, .int .i64 0, .int .u64 0, .string ⟨#[]⟩, .slice (some ⟨g, 0, none⟩) 1 1]] w (fun r w' => ∃ u, r = .returned (.tuple #[u, .int .i64 0]) ∧ Own w' w.heap.size u [3, 2, 2, 97, 98] ∧ Below w.heap.size w w') := by
 have h := vbytes_any 3 3 zeroT sysF (some ⟨g, 0, none⟩) 1 w (row13 w g hb) (by decide) ok13 (fun _ => by rw [ex13c]; exact ⟨by decide, by decide, by decide, rfl⟩)
 refine h.mono fun r w' h => ?_
 unfold BytW at h
 rw [ex13a, if_pos rfl, ex13c] at h
 obtain ⟨u, h1, h2, h3⟩ := h
 rw [if_pos (by decide)] at h1 h2
 rw [ex13d] at h2
 exact ⟨u, h1, h2, h3⟩
theorem nobytes13 (w : World) (g : Nat) (hb : Blk w g 27 #[.string ⟨#[115, 121, 115, 116, 101, 109]⟩, .string ⟨#[]⟩, .int .i64 5, .int .u64 0, .string ⟨#[97, 98]⟩, .slice none 0 0]) : Calls Tryz.prog 9 #[.int .i64 0, .agg #[.string ⟨#[]⟩, .string ⟨#[]⟩, .int .i64 0, .int .u64 0, .string ⟨#[]⟩, .slice (some ⟨g, 0, none⟩) 1 1]] w (fun r w' => r = .returned (.tuple #[.slice none 0 0, .int .i64 28]) ∧ Below w.heap.size w w') := by
 have h := vbytes_any 0 0 zeroT sysF (some ⟨g, 0, none⟩) 1 w (row13 w g hb) (by decide) ok13 (fun h => by rw [ex13b] at h; cases h)
 refine h.mono fun r w' h => ?_
 unfold BytW at h
 rw [ex13b, if_neg (by decide)] at h
 exact h
theorem items13 (w : World) (g : Nat) (hb : Blk w g 27 #[.string ⟨#[115, 121, 115, 116, 101, 109]⟩, .string ⟨#[]⟩, .int .i64 5, .int .u64 0, .string ⟨#[97, 98]⟩, .slice none 0 0]) : Calls Tryz.prog 13 #[.int .i64 3, .agg #[.string ⟨#[]⟩, .string ⟨#[]⟩, .int .i64 0, .int .u64 0, .string ⟨#[]⟩, .slice (some ⟨g, 0, none⟩) 1 1]] w (fun r w' => ∃ gi ci, r = .returned (.slice (some ⟨gi, 0, none⟩) 1 ci) ∧ gi < w'.heap.size ∧ w'.cell? ⟨gi, 0, none⟩ = some (.int .u64 2) ∧ Below w.heap.size w w') := by
 have h := vitems_any 3 zeroT sysF (some ⟨g, 0, none⟩) 1 w (row13 w g hb) (by decide) ok13
 rw [ex13c] at h
 refine h.mono fun r w' h => ?_
 obtain ⟨v, h1, h2, h3⟩ := h
 have hf := h2.fv stays_I
 have hlt := h2.lt
 obtain ⟨xs, o1, o2⟩ := h2
 rcases o1.2 with ⟨_, h0⟩ | ⟨gi, cap, cur, rfl, _, _, _⟩
 ·exact absurd h0 (by decide)
 ·obtain ⟨b, o, c, t, d, k, hve, _, _, hdr, _, _, k0, _⟩ := hf.at (n := 0) (by decide)
  injection hve with e1 e2 e3
  injection e1 with e1
  injection e1 with e4 e5
  subst e4 e5
  injection hdr with e6
  subst e6
  exact ⟨gi, cap, h1, (hlt gi rfl).2, k0, h3⟩
theorem awake13_any (w : World) : Calls Tryz.prog 7 #[] w (Ans9 (.bool true) w) := by
 have hR := (Blk.new w 27 #[.string ⟨#[115, 121, 115, 116, 101, 109]⟩, .string ⟨#[]⟩, .int .i64 5, .int .u64 0, .string ⟨#[97, 98]⟩, .slice none 0 0]).alloc (.cells #[.string ⟨#[]⟩, .string ⟨#[]⟩, .int .i64 0, .int .u64 0, .string ⟨#[]⟩, .slice (some ⟨w.heap.size, 0, none⟩) 1 1] 27)
 have hT : Blk ((w.alloc (.cells #[.string ⟨#[115, 121, 115, 116, 101, 109]⟩, .string ⟨#[]⟩, .int .i64 5, .int .u64 0, .string ⟨#[97, 98]⟩, .slice none 0 0] 27)).alloc (.cells #[.string ⟨#[]⟩, .string ⟨#[]⟩, .int .i64 0, .int .u64 0, .string ⟨#[]⟩, .slice (some ⟨w.heap.size, 0, none⟩) 1 1] 27)) (w.heap.size + 1) 27 #[.string ⟨#[]⟩, .string ⟨#[]⟩, .int .i64 0, .int .u64 0, .string ⟨#[]⟩, .slice (some ⟨w.heap.size, 0, none⟩) 1 1] := Blk.newA (w := (w.alloc (.cells #[.string ⟨#[115, 121, 115, 116, 101, 109]⟩, .string ⟨#[]⟩, .int .i64 5, .int .u64 0, .string ⟨#[97, 98]⟩, .slice none 0 0] 27))) (by simp) _ _
 have hB2 : Below w.heap.size w ((w.alloc (.cells #[.string ⟨#[115, 121, 115, 116, 101, 109]⟩, .string ⟨#[]⟩, .int .i64 5, .int .u64 0, .string ⟨#[97, 98]⟩, .slice none 0 0] 27)).alloc (.cells #[.string ⟨#[]⟩, .string ⟨#[]⟩, .int .i64 0, .int .u64 0, .string ⟨#[]⟩, .slice (some ⟨w.heap.size, 0, none⟩) 1 1] 27)) := bAl.alloc (by simp) _
 have HR := hHd hR
 have HT := hHd hT
 have HB2 := hHd hB2
 have HA := hHd (bytes13 ((w.alloc (.cells #[.string ⟨#[115, 121, 115, 116, 101, 109]⟩, .string ⟨#[]⟩, .int .i64 5, .int .u64 0, .string ⟨#[97, 98]⟩, .slice none 0 0] 27)).alloc (.cells #[.string ⟨#[]⟩, .string ⟨#[]⟩, .int .i64 0, .int .u64 0, .string ⟨#[]⟩, .slice (some ⟨w.heap.size, 0, none⟩) 1 1] 27)) w.heap.size hR)
 have HI : Hid (∀ W, Below ((w.alloc (.cells #[.string ⟨#[115, 121, 115, 116, 101, 109]⟩, .string ⟨#[]⟩, .int .i64 5, .int .u64 0, .string ⟨#[97, 98]⟩, .slice none 0 0] 27)).alloc (.cells #[.string ⟨#[]⟩, .string ⟨#[]⟩, .int .i64 0, .int .u64 0, .string ⟨#[]⟩, .slice (some ⟨w.heap.size, 0, none⟩) 1 1] 27)).heap.size ((w.alloc (.cells #[.string ⟨#[115, 121, 115, 116, 101, 109]⟩, .string ⟨#[]⟩, .int .i64 5, .int .u64 0, .string ⟨#[97, 98]⟩, .slice none 0 0] 27)).alloc (.cells #[.string ⟨#[]⟩, .string ⟨#[]⟩, .int .i64 0, .int .u64 0, .string ⟨#[]⟩, .slice (some ⟨w.heap.size, 0, none⟩) 1 1] 27)) W → Calls Tryz.prog 13 #[.int .i64 3, .agg #[.string ⟨#[]⟩, .string ⟨#[]⟩, .int .i64 0, .int .u64 0, .string ⟨#[]⟩, .slice (some ⟨w.heap.size, 0, none⟩) 1 1]] W (fun r w' => ∃ gi ci, r = .returned (.slice (some ⟨gi, 0, none⟩) 1 ci) ∧ gi < w'.heap.size ∧ w'.cell? ⟨gi, 0, none⟩ = some (.int .u64 2) ∧ Below W.heap.size W w')) := hHd (fun W hW => items13 W w.heap.size (HR.out.below hW HR.out.lt))
 have HN : Hid (∀ W, Below ((w.alloc (.cells #[.string ⟨#[115, 121, 115, 116, 101, 109]⟩, .string ⟨#[]⟩, .int .i64 5, .int .u64 0, .string ⟨#[97, 98]⟩, .slice none 0 0] 27)).alloc (.cells #[.string ⟨#[]⟩, .string ⟨#[]⟩, .int .i64 0, .int .u64 0, .string ⟨#[]⟩, .slice (some ⟨w.heap.size, 0, none⟩) 1 1] 27)).heap.size ((w.alloc (.cells #[.string ⟨#[115, 121, 115, 116, 101, 109]⟩, .string ⟨#[]⟩, .int .i64 5, .int .u64 0, .string ⟨#[97, 98]⟩, .slice none 0 0] 27)).alloc (.cells #[.string ⟨#[]⟩, .string ⟨#[]⟩, .int .i64 0, .int .u64 0, .string ⟨#[]⟩, .slice (some ⟨w.heap.size, 0, none⟩) 1 1] 27)) W → Calls Tryz.prog 9 #[.int .i64 0, .agg #[.string ⟨#[]⟩, .string ⟨#[]⟩, .int .i64 0, .int .u64 0, .string ⟨#[]⟩, .slice (some ⟨w.heap.size, 0, none⟩) 1 1]] W (fun r w' => r = .returned (.tuple #[.slice none 0 0, .int .i64 28]) ∧ Below W.heap.size W w')) := hHd (fun W hW => nobytes13 W w.heap.size (HR.out.below hW HR.out.lt))
 obtain ⟨p0, p1, p2, p3, p4, p5⟩ := cl6 hT
 clear hR hT hB2
 go_enter Tryz.func7, Tryz.ntmps7
 go_wp2_with fail
 refine HA.out.mono ?_
 rintro r w3 ⟨u, rfl, ho, hb3⟩
 have HU := hHd (ho.rd' (by decide))
 have HC3 := hHd hb3
 have HTx := hHd (HT.out.below hb3 HT.out.lt)
 clear ho hb3 p0 p1 p2 p3 p4 p5
 obtain ⟨p0, p1, p2, p3, p4, p5⟩ := cl6 HTx.out
 go_wp2_with fail
 refine (HI.out _ HC3.out).mono ?_
 rintro r w4 ⟨gi, ci, rfl, hgi, hci, hb4⟩
 have HC4 := hHd (HC3.out.trans (hb4.mono HC3.out.size))
 have HTx := hHd (HTx.out.below hb4 HTx.out.lt)
 have HU4 : Hid (∃ d, Rd w4 d u [3, 2, 2, 97, 98]) := hHd (by obtain ⟨d, _, h⟩ := HU.out; exact ⟨d, h.below' hb4⟩)
 have HG := hHd (And.intro hgi hci)
 clear hgi hci hb4 p0 p1 p2 p3 p4 p5
 obtain ⟨p0, p1, p2, p3, p4, p5⟩ := cl6 HTx.out
 go_wp2_with fail
 refine (HN.out _ HC4.out).mono ?_
 rintro r w5 ⟨rfl, hb5⟩
 have HB5 := hHd (HB2.out.trans ((HC4.out.trans (hb5.mono HC4.out.size)).mono HB2.out.size))
 have hg : w5.cell? ⟨gi, 0, none⟩ = some (.int .u64 2) := (hb5.cell (p := ⟨gi, 0, none⟩) HG.out.1).trans HG.out.2
 have hc : (convert 30 9 u).run Tryz.prog w5 = .ok (.string ⟨#[3, 2, 2, 97, 98]⟩) w5 := by obtain ⟨d, h⟩ := HU4.out; exact str_of (h.below' hb5)
 clear hb5 p0 p1 p2 p3 p4 p5
 go_wp2
 go_ret
 exact ⟨rfl, HB5.out⟩
section
attribute [local go_sem ↓] Go.wp_at_zero Go.wp_at_succ
theorem plain13_any (f : Fo) : ∀ (w : World) (v : Value), FV DataI w (Lo w) v f → f.sz ≤ 1099511627776 → Calls Tryz.prog 12 #[v] w (PlainPost f w) := by
 refine Fo.byKids (P := fun f => ∀ (w : World) (v : Value), FV DataI w (Lo w) v f → f.sz ≤ 1099511627776 → Calls Tryz.prog 12 #[v] w (PlainPost f w)) ?_ f
 clear f
 intro f hkids w v hv hsz
 obtain ⟨A, c, rfl⟩ := hv.shape
 have hws := f.wt_le_sz
 have hlw := f.len_le_wt
 have hlen40 : f.len ≤ 1099511627776 := by omega
 have HK : Hid (Fo.kidsAll (fun f => ∀ (w : World) (v : Value), FV DataI w (Lo w) v f → f.sz ≤ 1099511627776 → Calls Tryz.prog 12 #[v] w (PlainPost f w)) f) := hHd hkids
 clear hkids hws hlw
 go_enter Tryz.func12, Tryz.ntmps12
 go_wp2
 go_loopw [3, 4] (fun u i wr => ∃ (j : Nat), j ≤ f.len ∧ i = .int .i64 (j : Int) ∧ OwnF DataR 57 wr w.heap.size u (Fo.take j f) ∧ Below w.heap.size w wr) (fun _ i _ => f.len - (intOf i).toNat)
 case atStart => exact ⟨0, Nat.zero_le _, rfl, OwnF.nil _ _, Below.refl _ _⟩
 case round =>
  obtain ⟨j, hj, rfl, hown, hB⟩ := hrel
  by_cases hlt : j < f.len
  ·obtain ⟨b, o, c', t, d, k, hve, hcap, hS, hdr, htk, ht64, hc0, ⟨dv, hc1, db, hdv, hdS⟩, ⟨kv, hc2, hkv⟩⟩ := hv.at hlt
   injection hve with e1 e2 e3
   subst e1 e3
   have hSb : b < w.heap.size := hS
   obtain ⟨D, cd, rfl⟩ : ∃ D cd, dv = .slice D d.length cd := by obtain ⟨D, cd, e, _⟩ := hdv; exact ⟨D, cd, e⟩
   have hdrop : (Fo.drop j f).sz ≤ f.sz := by
    have h := Fo.sz_app (Fo.take j f) (Fo.drop j f)
    rw [Fo.take_app_drop] at h
    omega
   rw [hdr] at hdrop
   simp only [Fo.sz] at hdrop
   have hIH : ∀ (w : World) (v : Value), FV DataI w (Lo w) v k → k.sz ≤ 1099511627776 → Calls Tryz.prog 12 #[v] w (PlainPost k w) := by
    have h := Fo.kidsAll_drop j HK.out
    rw [hdr] at h
    exact h.1
   have HTK := hHd htk
   have hks40 : k.sz ≤ 1099511627776 := by omega
   have hBd := hB.drew
   have hC0 : wr.drew.cell? ⟨b, o + j * 3, none⟩ = some (.int .u64 (t : Int)) := (hBd.cell (p := ⟨b, o + j * 3, none⟩) hSb).trans hc0
   have hC1 : wr.drew.cell? ⟨b, o + j * 3 + 1, none⟩ = some (.slice D d.length cd) := (hBd.cell (p := ⟨b, o + j * 3 + 1, none⟩) hSb).trans hc1
   have hC2 : wr.drew.cell? ⟨b, o + j * 3 + 2, none⟩ = some kv := (hBd.cell (p := ⟨b, o + j * 3 + 2, none⟩) hSb).trans hc2
   have hRd : Rd wr.drew db (.slice D d.length cd) d := hdv.keepS hdS hBd
   have HDS : Hid (0 < d.length → db < w.heap.size) := hHd hdS
   have hkv2 : FV DataI wr.drew (Lo wr.drew) kv k := hkv.kept stays_I (fun g hg => hBd.block g hg) (fun _ hg => Nat.lt_of_lt_of_le hg hBd.size)
   have HI := hHd (hIH wr.drew kv hkv2 hks40)
   have hownd : OwnF DataR 57 wr.drew w.heap.size u3 (Fo.take j f) := hown.below stays_R (Below.refl _ _).drew
   have i1 : (0 : Int) ≤ (j : Int) := by omega
   have i2 : (j : Int) < (f.len : Int) := by omega
   have HT := hHd ht64
   clear hIH hkv hkv2 hdr htk hc0 hc1 hc2 e2 hdv hdS hS hdrop hsz hown ht64
   go_wp2_with fail
   refine wp_region_noPanic ?_
   refine wp_region_held_drew (S := fun _ => True) (by kernel_rfl) trivial (fun hS => ?_)
   refine tkH 0 hS ?_
   refine tkH 1 hS ?_
   refine tkH 2 hS ?_
   refine tkH 3 hS ?_
   refine tkH 4 hS ?_
   refine held_more (S' := fun w' => w'.cell? ⟨b, o + j * 3, none⟩ = some (.int .u64 (t : Int)) ∧ w'.cell? ⟨b, o + j * 3 + 1, none⟩ = some (.slice D d.length cd) ∧ w'.cell? ⟨b, o + j * 3 + 2, none⟩ = some kv ∧ Rd w' db (.slice D d.length cd) d) (fun _ _ => trivial) _ _ _ _ ?_
   replace hS := And.intro hC0 (And.intro hC1 (And.intro hC2 hRd))
   refine tkH 5 hS ?_ (hy := fun w hSw => by have hc := hSw.1; (go_simp <;> with_reducible rfl))
   refine tkH 6 hS ?_
   refine tkH 7 hS ?_
   refine tkH 8 hS ?_
   refine tkH 9 hS ?_
   refine tkH 10 hS ?_ (hy := fun w hSw => by have hc := hSw.2.1; (go_simp <;> with_reducible rfl))
   refine tkH 11 hS ?_ (hy := fun w hSw => by have hc : (convert 30 9 _).run Tryz.prog _ = .ok (.string (txt d)) _ := str_of hSw.2.2.2; (go_simp <;> with_reducible rfl))
   refine tkH 12 hS ?_
   refine tkH 13 hS ?_
   refine tkH 14 hS ?_
   refine tkH 15 hS ?_
   refine tkH 16 hS ?_ (hy := fun w hSw => by have hc := hSw.2.2.1; (go_simp <;> with_reducible rfl))
   refine rdy1 17 fun K hK => ?_
   go_simp
   refine HI.out.mono ?_
   rintro r w6 ⟨kr, rfl, hkr, hb6⟩
   obtain ⟨A6, c6, rfl⟩ := hkr.shape
   go_wp2_with fail
   refine hK.out _ _ ?sr_0 (fun hS => ?_)
   case sr_0 => (exact ⟨(hb6.cell (p := ⟨b, o + j * 3, none⟩) (Nat.lt_of_lt_of_le hSb hBd.size)).trans hS.1, (hb6.cell (p := ⟨b, o + j * 3 + 1, none⟩) (Nat.lt_of_lt_of_le hSb hBd.size)).trans hS.2.1, (hb6.cell (p := ⟨b, o + j * 3 + 2, none⟩) (Nat.lt_of_lt_of_le hSb hBd.size)).trans hS.2.2.1, hS.2.2.2.below' hb6⟩)
   clear hK K
   (try simp only [Act.put, layS])
   refine tkH 18 hS ?_
   refine rdy1 19 fun K hK => ?_
   go_simp
   refine hK.out _ _ ?sr_1 (fun hS => ?_)
   case sr_1 => (exact ⟨(((Below.refl w6.heap.size w6).alloc (Nat.le_refl _) _).cell (p := ⟨b, o + j * 3, none⟩) (by have := hb6.size; have := hBd.size; show b < _; omega)).trans hS.1, (((Below.refl w6.heap.size w6).alloc (Nat.le_refl _) _).cell (p := ⟨b, o + j * 3 + 1, none⟩) (by have := hb6.size; have := hBd.size; show b < _; omega)).trans hS.2.1, (((Below.refl w6.heap.size w6).alloc (Nat.le_refl _) _).cell (p := ⟨b, o + j * 3 + 2, none⟩) (by have := hb6.size; have := hBd.size; show b < _; omega)).trans hS.2.2.1, hS.2.2.2.below' bAl⟩)
   clear hK K
   (try simp only [Act.put, layS])
   have hbA : Below w6.heap.size w6 (w6.alloc (.cells #[.int .u64 (t : Int), .string (txt d), .slice A6 k.len c6] 57)) := bAl
   have hownA : OwnF DataR 57 (w6.alloc (.cells #[.int .u64 (t : Int), .string (txt d), .slice A6 k.len c6] 57)) w.heap.size u3 (Fo.take j f) := (hownd.below stays_R hb6).below stays_R hbA
   have z1 := hBd.size
   have z2 := hb6.size
   have hkA : FV DataR (w6.alloc (.cells #[.int .u64 (t : Int), .string (txt d), .slice A6 k.len c6] 57)) (ItsI w.heap.size (w6.alloc (.cells #[.int .u64 (t : Int), .string (txt d), .slice A6 k.len c6] 57)) u3) (.slice A6 k.len c6) k := hkr.kept stays_R (fun g hg => hbA.block g hg.2) (fun g hg => ⟨Nat.le_trans z1 hg.1, by have := hg.2; simp only [World.size_alloc]; omega, fun h => by have := (hownd.lt g h.symm).2; have := hg.1; omega⟩)
   refine rdy1 20 fun K hK => ?_
   refine wp_append_it stays_R one_R Tryz.underlying37 Tryz.infoJ zeroI (.tmp 11) (.tmp 30) (by rfl) (by rfl) w.heap.size _ (Fo.take j f) (by rfl) hownA w6.heap.size (by rfl) t d k (.string (txt d)) (.slice A6 k.len c6) (Blk.new w6 _ _) HT.out rfl hkA ?_ ?_ ?_ ?_
   ·rw [Fo.len_take j f hj]; omega
   ·rw [Fo.len_take j f hj]; omega
   ·simp only [World.size_alloc]; omega
   intro v20 w20 hap
   have hb20 := hap.below hownA (by simp only [World.size_alloc]; omega)
   refine hK.out _ _ ?sr_2 (fun hS => ?_)
   case sr_2 => (exact ⟨(hb20.cell (p := ⟨b, o + j * 3, none⟩) hSb).trans hS.1, (hb20.cell (p := ⟨b, o + j * 3 + 1, none⟩) hSb).trans hS.2.1, (hb20.cell (p := ⟨b, o + j * 3 + 2, none⟩) hSb).trans hS.2.2.1, hS.2.2.2.keepS HDS.out hb20⟩)
   clear hK K
   (try simp only [Act.put, layS])
   refine tkH 21 hS ?_
   refine wpAnyH_done (by kernel_rfl) ?_ _
   refine NoPanic.normal ?_
   have hown20 : OwnF DataR 57 w20 w.heap.size v20 (Fo.take (j + 1) f) := by rw [HTK.out]; exact hap.1
   have hB20 := (hBd.trans ((hb6.trans (hbA.mono z2)).mono z1)).trans hb20
   clear hap hb20 hownA hkA hbA hb6 hownd hkr hBd hS hC0 hC1 hC2 hRd
   go_wp2
   go_roundw
   case rel => exact ⟨j + 1, by omega, by go_num, hown20, hB20⟩
   case measure => simp [intOf]; omega
  ·obtain rfl : j = f.len := by omega
   rw [Fo.take_all] at hown
   have hfv := hown.fv stays_R
   obtain ⟨A3, c3, rfl⟩ := hfv.shape
   have HF := hHd hfv
   clear hfv hown hlt
   go_wp2
   go_ret
   exact ⟨_, rfl, HF.out, hB⟩
end
end Go.Proofs.YtodlhgflfcadmaaGreat
