/- PakByt Law13A Law13C PakOne VadRefA VadRefB -/
import Derived.Test.YtodlhgflfcadmaaGreatQM37
set_option linter.unusedSimpArgs false
set_option linter.unusedVariables false
set_option maxRecDepth 100000
set_option maxHeartbeats 8000000
namespace Go.Proofs.YtodlhgflfcadmaaGreat
open Go.RowKit
theorem ItsP.from {F : Fo} {w W : World} {r : Ending} {w' : World} (h : ItsP F W r w') (hb : Below w.heap.size w W) : ItsP F w r w' := by
 obtain ⟨v, h1, h2, h3⟩ := h
 exact ⟨v, h1, h2.mono stays_I hb.size, hb.trans (h3.mono hb.size)⟩
theorem vitems_any (v : Int) (a : NdD) (f : NdF) (A : Option Addr) (c : Nat) (w : World) (hrow : RowT w.heap.size w (.slice A f.len c) f) (hf : f.size ≤ 1000000) (hok : OkF f) :
  Calls Tryz.prog 13 #[.int .i64 v, .agg (cN a (.slice A f.len c))] w (ItsP (ItemsX v (a, f)) w) := by
 have hal : Below w.heap.size w (w.alloc (.cells (cN a (.slice A f.len c)) 27)) := bAl
 have HN := hHd (Blk.new w 27 (cN a (.slice A f.len c)))
 have HB := hHd hal
 have HR := hHd (And.intro hrow (And.intro hf hok))
 have HM := hHd (vmay_any v a f A c (w.alloc (.cells (cN a (.slice A f.len c)) 27)) (hrow.below hal) hf hok)
 have HX : Hid (ItemsX v (a, f) = if MayX v (a, f) = true then itF (rootX v).1.2 0 f else .nil) := hHd rfl
 obtain ⟨F, hF⟩ : ∃ F, F = ItemsX v (a, f) := ⟨_, rfl⟩
 rw [← hF] at HX ⊢
 obtain ⟨mb, hmb⟩ : ∃ b, b = MayX v (a, f) := ⟨_, rfl⟩
 rw [← hmb] at HM HX
 obtain ⟨p0, p1, p2, p3, p4, p5⟩ := cl6 HN.out
 clear hal hrow hf hok hF hmb
 go_enter Tryz.func13, Tryz.ntmps13
 go_wp2_with fail
 refine HM.out.mono ?_
 rintro r w2 ⟨rfl, hb2⟩
 have HB2 := hHd (HB.out.trans (hb2.mono HB.out.size))
 have HN2 := hHd (HN.out.below hb2 HN.out.lt)
 clear hb2 p0 p1 p2 p3 p4 p5
 cases mb with
 | false =>
  have HE : Hid (F = .nil) := hHd (by rw [HX.out]; rfl)
  obtain rfl := HE.out
  go_wp2
  go_ret
  exact ⟨_, rfl, OwnF.nil _ _, HB2.out⟩
 | true =>
  have HE : Hid (F = itF (rootX v).1.2 0 f) := hHd (by rw [HX.out]; rfl)
  clear HX
  have HRT := hHd (root_any v w2)
  have HRO := hHd (root_ok v)
  obtain ⟨rx, hrx⟩ : ∃ rx, rx = rootX v := ⟨_, rfl⟩
  rw [← hrx] at HRT HRO HE
  clear hrx
  obtain ⟨⟨⟨nm, kd, ty, lo, hi, ns, mu, mo⟩, sf⟩, er⟩ := rx
  go_wp2_with fail
  refine HRT.out.mono ?_
  rintro r w3 ⟨cs, rfl, hnew, hb3⟩
  have hsl := newSp_l hnew
  obtain ⟨B0, m0, A0, c0, d0, rfl, -, -, -⟩ := SpN.shape (x := (⟨nm, kd, ty, lo, hi, ns, mu, mo⟩, sf)) hsl
  have hb4 : Below w3.heap.size w3 (w3.alloc (.cells (cT nm kd ty lo hi ns mu mo B0 m0 A0 sf.len c0) 61)) := bAl
  have HB4 := hHd ((HB2.out.trans (hb3.mono HB2.out.size)).trans (hb4.mono (HB2.out.trans (hb3.mono HB2.out.size)).size))
  have HN4 := hHd ((HN2.out.below hb3 HN2.out.lt).below hb4 (Nat.lt_of_lt_of_le HN2.out.lt hb3.size))
  have HI := hHd (itemsOf_any sf ⟨nm, kd, ty, lo, hi, ns, mu, mo⟩ (cT nm kd ty lo hi ns mu mo B0 m0 A0 sf.len c0).toList a f A c (w3.alloc (.cells (cT nm kd ty lo hi ns mu mo B0 m0 A0 sf.len c0) 61)) (hsl.keep (fun g hg => hb4.block g hg) hb4.size) HRO.out.1 HRO.out.2 (HR.out.1.below HB4.out) HR.out.2.1 HR.out.2.2)
  have HRB := hHd (Blk.new w3 61 (cT nm kd ty lo hi ns mu mo B0 m0 A0 sf.len c0))
  obtain ⟨q0, q1, q2, q3, q4, q5, q6, q7, q8⟩ := cl9 HRB.out
  obtain ⟨p0, p1, p2, p3, p4, p5⟩ := cl6 HN4.out
  clear hnew hb3 hsl hb4 HRT
  go_wp2_with fail
  refine HI.out.mono ?_
  intro r w5 hp
  obtain ⟨u, rfl, hu⟩ := hp.from HB4.out
  have HU := hHd hu
  clear hp hu q0 q1 q2 q3 q4 q5 q6 q7 q8 p0 p1 p2 p3 p4 p5
  go_wp2
  go_ret
  refine ⟨u, rfl, ?_⟩
  rw [HE.out]
  exact HU.out
def EncW (ver : Nat) (F : Fo) (w : World) (r : Ending) (w' : World) : Prop := ∃ u, r = .returned (.tuple #[u, .int .i64 (if F.all.length ≤ 8192 then 0 else 14)]) ∧ Own w' w.heap.size u (if F.all.length ≤ 8192 then encV 9 ver ++ F.all else []) ∧ Below w.heap.size w w'
theorem encoded_any (ver : Nat) (F : Fo) (v : Value) (w : World) (hv : FV DataI w (Lo w) v F) (hsz : F.sz ≤ 1099511627776) (hc : F.cnt ≤ 60000) (hr : Fo.right 1 F = true) (hver : ver ≤ 9223372036854775807) :
  Calls Tryz.prog 20 #[.int .i64 (ver : Int), v] w (EncW ver F w) := by
 have HS : Hid (Calls Tryz.prog 31 #[v] w (fun r w' => r = .returned (.int .i64 (F.all.length : Int)) ∧ Below w.heap.size w w')) := hHd (size_cnt F w v hv hsz hc)
 have HV := hHd hv
 have HSZ := hHd hsz
 have HVL := hHd (encV_length 9 ver).2
 have hal : F.all.length ≤ 22000000000000 := by have := F.all_le; omega
 have HAL := hHd hal
 have i1 : (0 : Int) ≤ (ver : Int) := by omega
 have i2 : (ver : Int) ≤ 9223372036854775807 := by omega
 have HVV : Hid (ver < 18446744073709551616) := hHd (by omega)
 unfold EncW
 obtain ⟨A, c, rfl⟩ := hv.shape
 by_cases h : F.all.length ≤ 8192
 ·have ho : F.ok = true := by unfold Fo.ok; rw [hr, decide_eq_true h]; rfl
  rw [if_pos h, if_pos h]
  have HP : Hid (∀ (W : World), Below w.heap.size w W → Calls Tryz.prog 32 #[.slice A F.len c] W (fun r w' => ∃ v, r = .returned (.tuple #[v, .int .i64 0]) ∧ Own w' W.heap.size v F.all ∧ Below W.heap.size W w')) := hHd (fun W hW => (putC F W _ (HV.out.kept stays_I (fun g hg => hW.block g hg) (fun _ hg => Nat.lt_of_lt_of_le hg hW.size)) HSZ.out).mono (fun r w' h => by
   unfold PutP at h
   rw [if_pos ho, if_pos ho] at h
   exact h))
  have HW : Hid (∀ W, Calls Tryz.prog 33 #[.int .u64 (ver : Int)] W (PutOwn ver W)) := hHd (fun W => put_own ver HVV.out W)
  obtain ⟨L, hL⟩ : ∃ L, L = F.all := ⟨_, rfl⟩
  rw [← hL] at HS HP h HAL ⊢
  have g1 : ¬ (8192 : Int) < (L.length : Int) := by omega
  obtain ⟨n, hn⟩ : ∃ n, n = L.length := ⟨_, rfl⟩
  have g2 : ¬ (8192 : Int) < (n : Int) := by rw [hn]; exact g1
  rw [← hn] at HS
  obtain ⟨E, hE⟩ : ∃ E, E = encV 9 ver := ⟨_, rfl⟩
  rw [← hE] at HVL ⊢
  have HE := hHd hE
  have HL := hHd hL
  clear hv hsz hc hr ho h hL g1 hn hE hal hver
  go_enter Tryz.func20, Tryz.ntmps20
  go_wp2_with fail
  refine HS.out.mono ?_
  rintro r w2 ⟨rfl, hb2⟩
  have HB2 := hHd hb2
  clear hb2
  go_wp2_with fail
  refine (HP.out _ HB2.out).mono ?_
  rintro r w3 ⟨v3, rfl, ho3, hb3⟩
  have HB3 := hHd (HB2.out.trans (hb3.mono HB2.out.size))
  have HO3 := hHd (ho3.rd' (by have := HAL.out; omega))
  clear hb3 ho3
  go_wp2_with fail
  refine (HW.out _).mono ?_
  rintro r w4 ⟨v4, rfl, ho4, hb4⟩
  have HB4 := hHd (HB3.out.trans (hb4.mono HB3.out.size))
  obtain ⟨d3, -, hr3⟩ := HO3.out
  have HR4 := hHd (hr3.below' hb4)
  rw [← HE.out] at ho4
  have HO4 := hHd (World.ownsRow.mono ho4 HB3.out.size)
  clear ho4 hb4 hr3 HO3
  go_wp2_with (at_builtin; refine wpList_append_rd rfl (.tmp 21) (.tmp 22) rfl rfl w.heap.size _ E rfl HO4.out _ _ L rfl HR4.out ?h1 ?h2 ?_)
  case h1 => have := HVL.out; have := HAL.out; omega
  case h2 => exact HB4.out.size
  intro v5 w5 hap
  have HB5 := hHd (HB4.out.trans (hap.below HO4.out HB4.out.size))
  have HO5 := hHd hap.1
  clear hap
  go_wp2
  go_ret2
  exact ⟨v5, rfl, HO5.out, HB5.out⟩
 ·rw [if_neg h, if_neg h]
  obtain ⟨n, hn⟩ : ∃ n, n = F.all.length := ⟨_, rfl⟩
  have g2 : (8192 : Int) < (n : Int) := by omega
  rw [← hn] at HS
  clear hv hsz hc hr h hn hal hver
  go_enter Tryz.func20, Tryz.ntmps20
  go_wp2_with fail
  refine HS.out.mono ?_
  rintro r w2 ⟨rfl, hb2⟩
  have HB2 := hHd hb2
  clear hb2
  go_wp2
  go_ret2
  exact ⟨_, rfl, Own.nil _ _, HB2.out⟩
def BytW (v : Int) (ver : Nat) (x : Nd) (w : World) (r : Ending) (w' : World) : Prop := if (CheckX v x).1 = 0 then EncW ver (ItemsX v x) w r w' else r = .returned (.tuple #[.slice none 0 0, .int .i64 ((CheckX v x).1 : Int)]) ∧ Below w.heap.size w w'
theorem EncW.from {ver : Nat} {F : Fo} {w W : World} {r : Ending} {w' : World} (h : EncW ver F W r w') (hb : Below w.heap.size w W) : EncW ver F w r w' := by
 obtain ⟨u, h1, h2, h3⟩ := h
 exact ⟨u, h1, World.ownsRow.mono h2 hb.size, hb.trans (h3.mono hb.size)⟩
theorem may_ver {v : Int} {x : Nd} (h : (CheckX v x).1 = 0) : 1 ≤ v ∧ v ≤ 3 := by
 unfold CheckX rootX at h
 by_cases hv : v < 1 ∨ 3 < v
 ·rw [if_pos hv] at h; cases h
 ·omega
theorem vbytes_any (v : Int) (ver : Nat) (a : NdD) (f : NdF) (A : Option Addr) (c : Nat) (w : World) (hrow : RowT w.heap.size w (.slice A f.len c) f) (hf : f.size ≤ 1000000) (hok : OkF f)
  (hF : (CheckX v (a, f)).1 = 0 → (ItemsX v (a, f)).sz ≤ 1099511627776 ∧ (ItemsX v (a, f)).cnt ≤ 60000 ∧ Fo.right 1 (ItemsX v (a, f)) = true ∧ v = (ver : Int)) :
  Calls Tryz.prog 9 #[.int .i64 v, .agg (cN a (.slice A f.len c))] w (BytW v ver (a, f) w) := by
 have hal : Below w.heap.size w (w.alloc (.cells (cN a (.slice A f.len c)) 27)) := bAl
 have HN := hHd (Blk.new w 27 (cN a (.slice A f.len c)))
 have HB := hHd hal
 have HC := hHd (vcheck_any v a f A c (w.alloc (.cells (cN a (.slice A f.len c)) 27)) (hrow.below hal) hf hok)
 have HIT : Hid (∀ W, Below w.heap.size w W → Calls Tryz.prog 13 #[.int .i64 v, .agg (cN a (.slice A f.len c))] W (ItsP (ItemsX v (a, f)) W)) := hHd (fun W hW => vitems_any v a f A c W (hrow.below hW) hf hok)
 have HFF := hHd hF
 have hmv := @may_ver v (a, f)
 unfold BytW
 obtain ⟨⟨er, way⟩, hb⟩ : ∃ b, b = CheckX v (a, f) := ⟨_, rfl⟩
 rw [← hb] at HC HFF hmv ⊢
 simp only at HFF hmv ⊢
 obtain ⟨F, hFe⟩ : ∃ F, F = ItemsX v (a, f) := ⟨_, rfl⟩
 rw [← hFe] at HIT HFF ⊢
 obtain ⟨p0, p1, p2, p3, p4, p5⟩ := cl6 HN.out
 clear hal hrow hf hok hF hb hFe
 by_cases he : er = 0
 ·subst he
  obtain ⟨s1, s2, s3, rfl⟩ := HFF.out rfl
  have hv3 := hmv rfl
  have HSS := hHd (And.intro s1 (And.intro s2 (And.intro s3 hv3)))
  clear s1 s2 s3 hmv HFF hv3
  have key : Calls Tryz.prog 9 #[.int .i64 (ver : Int), .agg (cN a (.slice A f.len c))] w (EncW ver F w) := by
   go_enter Tryz.func9, Tryz.ntmps9
   go_wp2_with fail
   refine HC.out.mono ?_
   rintro r w2 ⟨v2, rfl, hv2, hb2⟩
   have HB2 := hHd (HB.out.trans (hb2.mono HB.out.size))
   have HN2 := hHd (HN.out.below hb2 HN.out.lt)
   obtain ⟨A2, c2, rfl⟩ := hv2.shape
   clear hb2 hv2 p0 p1 p2 p3 p4 p5
   obtain ⟨p0, p1, p2, p3, p4, p5⟩ := cl6 HN2.out
   go_wp2_with fail
   refine (HIT.out _ HB2.out).mono ?_
   intro r w3 hp
   obtain ⟨u3, rfl, hu3, hb3⟩ := hp
   have HB3 := hHd (HB2.out.trans (hb3.mono HB2.out.size))
   have hfv : FV DataI w3 (Lo w3) u3 F := (hu3.fv stays_I).kept stays_I (fun _ _ => rfl) (fun _ hg => hg.2)
   have HE := hHd (encoded_any ver F u3 w3 hfv HSS.out.1 HSS.out.2.1 HSS.out.2.2.1 (by have := HSS.out.2.2.2; omega))
   clear hb3 hu3 hfv p0 p1 p2 p3 p4 p5
   go_wp2_with fail
   refine HE.out.mono ?_
   intro r w4 hp4
   obtain ⟨u4, hr4, ho4, hb4⟩ := hp4.from HB3.out
   generalize hec : (if F.all.length ≤ 8192 then (0 : Int) else 14) = ec at hr4
   subst hr4
   have HEC := hHd hec
   clear hec
   have HO4 := hHd (And.intro ho4 hb4)
   clear hp4 ho4 hb4
   go_wp2
   go_ret2
   exact ⟨u4, by rw [HEC.out]; rfl, HO4.out.1, HO4.out.2⟩
  exact key.mono (fun r w' h => by rw [if_pos rfl]; exact h)
 ·have key : Calls Tryz.prog 9 #[.int .i64 v, .agg (cN a (.slice A f.len c))] w (fun r w' => r = .returned (.tuple #[.slice none 0 0, .int .i64 (er : Int)]) ∧ Below w.heap.size w w') := by
   have n1 : ((er : Int) != 0) = true := by rw [bne_iff_ne]; omega
   have n2 : ((er : Int) == 0) = false := beq_eq_false_iff_ne.2 (by omega)
   clear HIT HFF hmv he
   go_enter Tryz.func9, Tryz.ntmps9
   go_wp2_with fail
   refine HC.out.mono ?_
   rintro r w2 ⟨v2, rfl, hv2, hb2⟩
   have HB2 := hHd (HB.out.trans (hb2.mono HB.out.size))
   obtain ⟨A2, c2, rfl⟩ := hv2.shape
   clear hb2 hv2 p0 p1 p2 p3 p4 p5
   go_wp2
   go_ret2
   exact ⟨rfl, HB2.out⟩
  exact key.mono (fun r w' h => by rw [if_neg he]; exact h)
theorem small13_any (a : NdD) (f : NdF) (A : Option Addr) (c : Nat) (w : World) (hk : RowT w.heap.size w (.slice A f.len c) f) (hf : f.size ≤ 1000000) :
  Calls Tryz.prog 8 #[.agg (cN a (.slice A f.len c))] w (Ans9 (.bool (decide (f.size + 1 ≤ 300))) w) := by
 have hB : Below w.heap.size w (w.alloc (.cells (cN a (.slice A f.len c)) 27)) := bAl
 obtain ⟨z, hz⟩ : ∃ z, z = f.size + 1 := ⟨_, rfl⟩
 have HC : Hid (Calls Tryz.prog 18 #[.agg (cN a (.slice A f.len c))] (w.alloc (.cells (cN a (.slice A f.len c)) 27)) (Ans9 (.int .i64 (z : Int)) (w.alloc (.cells (cN a (.slice A f.len c)) 27)))) := hHd (by
  rw [hz]; exact rsizef_any f a A c _ (hk.under hB (Nat.le_refl _) hB.size) hf)
 have HB := hHd hB
 have HV : Hid (decide ((z : Int) ≤ 300) = decide (f.size + 1 ≤ 300)) := hHd (by rw [hz, Bool.eq_iff_iff]; simp; omega)
 clear hB hk hf hz
 go_enter Tryz.func8, Tryz.ntmps8
 go_wp2_with fail
 refine HC.out.mono ?_
 rintro r w2 ⟨rfl, hb⟩
 have HB2 := hHd (HB.out.trans (hb.mono HB.out.size))
 clear hb
 go_wp2
 go_ret
 exact ⟨congrArg (fun b => Ending.returned (Value.bool b)) HV.out, HB2.out⟩
def wgW : SpF → Nat
 | .nil => 0
 | .cons _ s r => (2 + wgW s) + wgW r
theorem cnt_coll (g : NdF → Fo) (d : SpD) (tag m : Nat) (hg : ∀ k, (g k).cnt ≤ m * k.size) (f : NdF) : (collW g d tag f).cnt ≤ (2 + m) * f.size := by
 induction f with
 | nil => exact Nat.zero_le _
 | cons a k r _ ih =>
  have h2 : (2 + m) * (k.size + r.size + 1) = (2 + m) * k.size + (2 + m) * r.size + (2 + m) := by rw [Nat.mul_add, Nat.mul_add, Nat.mul_one]
  have h3 : (2 + m) * k.size = 2 * k.size + m * k.size := Nat.add_mul _ _ _
  have h4 := hg k
  simp only [collW, Fr.size]
  split
  ·have h5 : (kdW g d a k).cnt ≤ 1 + m * k.size := by
    unfold kdW
    split
    ·exact Nat.zero_le _
    ·split
     ·simp only [Fo.cnt]; omega
     ·omega
   simp only [Fo.cnt]
   omega
  ·omega
theorem cnt_it (s : SpF) : ∀ (i : Nat) (f : NdF), (itF s i f).cnt ≤ wgW s * f.size := by
 induction s with
 | nil => intro i f; simp [itF, Fo.cnt]
 | cons d k r ihk ihr =>
  intro i f
  simp only [itF, Fo.cnt_app, wgW, Nat.add_mul (2 + wgW k)]
  have h1 := cnt_coll (fun x => itF k 0 x) d (tgW d i) (wgW k) (fun x => ihk 0 x) f
  have h2 := ihr (i + 1) f
  omega
theorem wg_root (v : Int) : wgW (rootX v).1.2 ≤ 100 := by
 unfold rootX
 split
 ·decide
 ·rename_i h
  have h' : v = 1 ∨ v = 2 ∨ v = 3 := by omega
  rcases h' with rfl | rfl | rfl <;> decide
theorem cnt_items (v : Int) (x : Nd) : (ItemsX v x).cnt ≤ 100 * x.2.size := by
 unfold ItemsX
 split
 ·exact Nat.le_trans (cnt_it _ 0 x.2) (Nat.mul_le_mul_right _ (wg_root v))
 ·exact Nat.zero_le _
def sysD : NdD := ⟨nSystem, [], 5, 0, [97, 98]⟩
def sysF : NdF := .cons sysD .nil .nil
def sysI : Fo := .cons 2 [97, 98] .nil .nil
theorem ex13a : CheckX 3 (zeroT, sysF) = (0, []) := by decide
theorem ex13b : CheckX 0 (zeroT, sysF) = (28, []) := by decide
theorem ex13c : ItemsX 3 (zeroT, sysF) = sysI := by rfl
theorem ex13d : encV 9 3 ++ sysI.all = [3, 2, 2, 97, 98] := by decide
theorem row13 (w : World) (g : Nat) (hb : Blk w g 27 #[.string ⟨#[115, 121, 115, 116, 101, 109]⟩, .string ⟨#[]⟩, .int .i64 5, .int .u64 0, .string ⟨#[97, 98]⟩, .slice none 0 0]) : RowT w.heap.size w (.slice (some ⟨g, 0, none⟩) 1 1) sysF :=
 FrV.lit (e := 27) (xs := ndC sysD (.slice none 0 0)) (f := sysF) hb.lt hb ⟨_, [], rfl, LieB.make (a := sysD) (f := .nil) (FrV.empty _ _ _), rfl⟩ (Nat.le_refl _)
theorem ok13 : OkF sysF := ⟨⟨by decide, by decide, by decide, by decide, by decide, by decide⟩, trivial, trivial⟩
theorem bytes13 (w : World) (g : Nat) (hb : Blk w g 27 #[.string ⟨#[115, 121, 115, 116, 101, 109]⟩, .string ⟨#[]⟩, .int .i64 5, .int .u64 0, .string ⟨#[97, 98]⟩, .slice none 0 0]) : Calls Tryz.prog 9 #[.int .i64 3, .agg #[.string ⟨#[]⟩, .string ⟨#[]⟩, .int .i64 0, .int .u64 0, .string ⟨#[]⟩, .slice (some ⟨g, 0, none⟩) 1 1]] w (fun r w' => ∃ u, r = .returned (.tuple #[u, .int .i64 0]) ∧ Own w' w.heap.size u [3, 2, 2, 97, 98] ∧ Below w.heap.size w w') := by
 have h := vbytes_any 3 3 zeroT sysF (some ⟨g, 0, none⟩) 1 w (row13 w g hb) (by decide) ok13 (fun _ => by rw [ex13c]; exact ⟨by decide, by decide, by decide, rfl⟩)
 refine h.mono fun r w' h => ?_
 unfold BytW at h
 rw [ex13a, if_pos rfl, ex13c] at h
 obtain ⟨u, h1, h2, h3⟩ := h
 rw [if_pos (by decide)] at h1 h2
 rw [ex13d] at h2
 exact ⟨u, h1, h2, h3⟩
theorem nobytes13 (w : World) (g : Nat) (hb : Blk w g 27 #[.string ⟨#[115, 121, 115, 116, 101, 109]⟩, .string ⟨#[]⟩, .int .i64 5, .int .u64 0, .string ⟨#[97, 98]⟩, .slice none 0 0]) : Calls Tryz.prog 9 #[.int .i64 0, .agg #[.string ⟨#[]⟩, .string ⟨#[]⟩, .int .i64 0, .int .u64 0, .string ⟨#[]⟩, .slice (some ⟨g, 0, none⟩) 1 1]] w (fun r w' => r = .returned (.tuple #[.slice none 0 0, .int .i64 28]) ∧ Below w.heap.size w w') := by
 have h := vbytes_any 0 0 zeroT sysF (some ⟨g, 0, none⟩) 1 w (row13 w g hb) (by decide) ok13 (fun h => by rw [ex13b] at h; cases h)
 refine h.mono fun r w' h => ?_
 unfold BytW at h
 rw [ex13b, if_neg (by decide)] at h
 exact h
theorem items13 (w : World) (g : Nat) (hb : Blk w g 27 #[.string ⟨#[115, 121, 115, 116, 101, 109]⟩, .string ⟨#[]⟩, .int .i64 5, .int .u64 0, .string ⟨#[97, 98]⟩, .slice none 0 0]) : Calls Tryz.prog 13 #[.int .i64 3, .agg #[.string ⟨#[]⟩, .string ⟨#[]⟩, .int .i64 0, .int .u64 0, .string ⟨#[]⟩, .slice (some ⟨g, 0, none⟩) 1 1]] w (fun r w' => ∃ gi ci, r = .returned (.slice (some ⟨gi, 0, none⟩) 1 ci) ∧ gi < w'.heap.size ∧ w'.cell? ⟨gi, 0, none⟩ = some (.int .u64 2) ∧ Below w.heap.size w w') := by
 have h := vitems_any 3 zeroT sysF (some ⟨g, 0, none⟩) 1 w (row13 w g hb) (by decide) ok13
 rw [ex13c] at h
 refine h.mono fun r w' h => ?_
 obtain ⟨v, h1, h2, h3⟩ := h
 have hf := h2.fv stays_I
 have hlt := h2.lt
 obtain ⟨xs, o1, o2⟩ := h2
 rcases o1.2 with ⟨_, h0⟩ | ⟨gi, cap, cur, rfl, _, _, _⟩
 ·exact absurd h0 (by decide)
 ·obtain ⟨b, o, c, t, d, k, hve, _, _, hdr, _, _, k0, _⟩ := hf.at (n := 0) (by decide)
  injection hve with e1 e2 e3
  injection e1 with e1
  injection e1 with e4 e5
  subst e4 e5
  injection hdr with e6
  subst e6
  exact ⟨gi, cap, h1, (hlt gi rfl).2, k0, h3⟩
theorem awake13_any (w : World) : Calls Tryz.prog 7 #[] w (Ans9 (.bool true) w) := by
 have hR := (Blk.new w 27 #[.string ⟨#[115, 121, 115, 116, 101, 109]⟩, .string ⟨#[]⟩, .int .i64 5, .int .u64 0, .string ⟨#[97, 98]⟩, .slice none 0 0]).alloc (.cells #[.string ⟨#[]⟩, .string ⟨#[]⟩, .int .i64 0, .int .u64 0, .string ⟨#[]⟩, .slice (some ⟨w.heap.size, 0, none⟩) 1 1] 27)
 have hT : Blk ((w.alloc (.cells #[.string ⟨#[115, 121, 115, 116, 101, 109]⟩, .string ⟨#[]⟩, .int .i64 5, .int .u64 0, .string ⟨#[97, 98]⟩, .slice none 0 0] 27)).alloc (.cells #[.string ⟨#[]⟩, .string ⟨#[]⟩, .int .i64 0, .int .u64 0, .string ⟨#[]⟩, .slice (some ⟨w.heap.size, 0, none⟩) 1 1] 27)) (w.heap.size + 1) 27 #[.string ⟨#[]⟩, .string ⟨#[]⟩, .int .i64 0, .int .u64 0, .string ⟨#[]⟩, .slice (some ⟨w.heap.size, 0, none⟩) 1 1] := Blk.newA (w := (w.alloc (.cells #[.string ⟨#[115, 121, 115, 116, 101, 109]⟩, .string ⟨#[]⟩, .int .i64 5, .int .u64 0, .string ⟨#[97, 98]⟩, .slice none 0 0] 27))) (by simp) _ _
 have hB2 : Below w.heap.size w ((w.alloc (.cells #[.string ⟨#[115, 121, 115, 116, 101, 109]⟩, .string ⟨#[]⟩, .int .i64 5, .int .u64 0, .string ⟨#[97, 98]⟩, .slice none 0 0] 27)).alloc (.cells #[.string ⟨#[]⟩, .string ⟨#[]⟩, .int .i64 0, .int .u64 0, .string ⟨#[]⟩, .slice (some ⟨w.heap.size, 0, none⟩) 1 1] 27)) := bAl.alloc (by simp) _
 have HR := hHd hR
 have HT := hHd hT
 have HB2 := hHd hB2
 have HA := hHd (bytes13 ((w.alloc (.cells #[.string ⟨#[115, 121, 115, 116, 101, 109]⟩, .string ⟨#[]⟩, .int .i64 5, .int .u64 0, .string ⟨#[97, 98]⟩, .slice none 0 0] 27)).alloc (.cells #[.string ⟨#[]⟩, .string ⟨#[]⟩, .int .i64 0, .int .u64 0, .string ⟨#[]⟩, .slice (some ⟨w.heap.size, 0, none⟩) 1 1] 27)) w.heap.size hR)
 have HI : Hid (∀ W, Below ((w.alloc (.cells #[.string ⟨#[115, 121, 115, 116, 101, 109]⟩, .string ⟨#[]⟩, .int .i64 5, .int .u64 0, .string ⟨#[97, 98]⟩, .slice none 0 0] 27)).alloc (.cells #[.string ⟨#[]⟩, .string ⟨#[]⟩, .int .i64 0, .int .u64 0, .string ⟨#[]⟩, .slice (some ⟨w.heap.size, 0, none⟩) 1 1] 27)).heap.size ((w.alloc (.cells #[.string ⟨#[115, 121, 115, 116, 101, 109]⟩, .string ⟨#[]⟩, .int .i64 5, .int .u64 0, .string ⟨#[97, 98]⟩, .slice none 0 0] 27)).alloc (.cells #[.string ⟨#[]⟩, .string ⟨#[]⟩, .int .i64 0, .int .u64 0, .string ⟨#[]⟩, .slice (some ⟨w.heap.size, 0, none⟩) 1 1] 27)) W → Calls Tryz.prog 13 #[.int .i64 3, .agg #[.string ⟨#[]⟩, .string ⟨#[]⟩, .int .i64 0, .int .u64 0, .string ⟨#[]⟩, .slice (some ⟨w.heap.size, 0, none⟩) 1 1]] W (fun r w' => ∃ gi ci, r = .returned (.slice (some ⟨gi, 0, none⟩) 1 ci) ∧ gi < w'.heap.size ∧ w'.cell? ⟨gi, 0, none⟩ = some (.int .u64 2) ∧ Below W.heap.size W w')) := hHd (fun W hW => items13 W w.heap.size (HR.out.below hW HR.out.lt))
 have HN : Hid (∀ W, Below ((w.alloc (.cells #[.string ⟨#[115, 121, 115, 116, 101, 109]⟩, .string ⟨#[]⟩, .int .i64 5, .int .u64 0, .string ⟨#[97, 98]⟩, .slice none 0 0] 27)).alloc (.cells #[.string ⟨#[]⟩, .string ⟨#[]⟩, .int .i64 0, .int .u64 0, .string ⟨#[]⟩, .slice (some ⟨w.heap.size, 0, none⟩) 1 1] 27)).heap.size ((w.alloc (.cells #[.string ⟨#[115, 121, 115, 116, 101, 109]⟩, .string ⟨#[]⟩, .int .i64 5, .int .u64 0, .string ⟨#[97, 98]⟩, .slice none 0 0] 27)).alloc (.cells #[.string ⟨#[]⟩, .string ⟨#[]⟩, .int .i64 0, .int .u64 0, .string ⟨#[]⟩, .slice (some ⟨w.heap.size, 0, none⟩) 1 1] 27)) W → Calls Tryz.prog 9 #[.int .i64 0, .agg #[.string ⟨#[]⟩, .string ⟨#[]⟩, .int .i64 0, .int .u64 0, .string ⟨#[]⟩, .slice (some ⟨w.heap.size, 0, none⟩) 1 1]] W (fun r w' => r = .returned (.tuple #[.slice none 0 0, .int .i64 28]) ∧ Below W.heap.size W w')) := hHd (fun W hW => nobytes13 W w.heap.size (HR.out.below hW HR.out.lt))
 obtain ⟨p0, p1, p2, p3, p4, p5⟩ := cl6 hT
 clear hR hT hB2
 go_enter Tryz.func7, Tryz.ntmps7
 go_wp2_with fail
 refine HA.out.mono ?_
 rintro r w3 ⟨u, rfl, ho, hb3⟩
 have HU := hHd (ho.rd' (by decide))
 have HC3 := hHd hb3
 have HTx := hHd (HT.out.below hb3 HT.out.lt)
 clear ho hb3 p0 p1 p2 p3 p4 p5
 obtain ⟨p0, p1, p2, p3, p4, p5⟩ := cl6 HTx.out
 go_wp2_with fail
 refine (HI.out _ HC3.out).mono ?_
 rintro r w4 ⟨gi, ci, rfl, hgi, hci, hb4⟩
 have HC4 := hHd (HC3.out.trans (hb4.mono HC3.out.size))
 have HTx := hHd (HTx.out.below hb4 HTx.out.lt)
 have HU4 : Hid (∃ d, Rd w4 d u [3, 2, 2, 97, 98]) := hHd (by obtain ⟨d, _, h⟩ := HU.out; exact ⟨d, h.below' hb4⟩)
 have HG := hHd (And.intro hgi hci)
 clear hgi hci hb4 p0 p1 p2 p3 p4 p5
 obtain ⟨p0, p1, p2, p3, p4, p5⟩ := cl6 HTx.out
 go_wp2_with fail
 refine (HN.out _ HC4.out).mono ?_
 rintro r w5 ⟨rfl, hb5⟩
 have HB5 := hHd (HB2.out.trans ((HC4.out.trans (hb5.mono HC4.out.size)).mono HB2.out.size))
 have hg : w5.cell? ⟨gi, 0, none⟩ = some (.int .u64 2) := (hb5.cell (p := ⟨gi, 0, none⟩) HG.out.1).trans HG.out.2
 have hc : (convert 30 9 u).run Tryz.prog w5 = .ok (.string ⟨#[3, 2, 2, 97, 98]⟩) w5 := by obtain ⟨d, h⟩ := HU4.out; exact str_of (h.below' hb5)
 clear hb5 p0 p1 p2 p3 p4 p5
 go_wp2
 go_ret
 exact ⟨rfl, HB5.out⟩
def allF (s : SpF) : NdF → Prop
 | .nil => True
 | .cons a _ r => (findX a.name s).isSome = true ∧ allF s r
theorem scan_all : ∀ {f : NdF} {s : SpF} {c : List Nat}, scanF f s c = none → allF s f := by
 intro f
 induction f with
 | nil => intro s c _; trivial
 | cons a k r _ ih =>
  intro s c h
  cases hf : findX a.name s with
  | none => rw [scan_name hf] at h; cases h
  | some i =>
   obtain ⟨y, hy, _, _⟩ := sp_get hf
   rw [scan_cons hf hy] at h
   cases hk : kidX1 y a k (c.getD i 0) with
   | some e => rw [hk] at h; cases h
   | none => rw [hk] at h; exact ⟨by rw [hf]; rfl, ih h⟩
theorem all_get {s : SpF} : ∀ {f : NdF} {i : Nat} {a : NdD} {k : NdF}, allF s f → f.get? i = some (a, k) → ∃ j y, findX a.name s = some j ∧ s.get? j = some y := by
 intro f
 induction f with
 | nil => intro i a k _ h; cases h
 | cons b q r _ ih =>
  intro i a k ⟨h1, h2⟩ h
  cases i with
  | zero =>
   injection h with h
   injection h with e1 e2
   subst e1 e2
   obtain ⟨j, hj⟩ := Option.isSome_iff_exists.1 h1
   obtain ⟨y, hy, _, _⟩ := sp_get hj
   exact ⟨j, y, hj, hy⟩
  | succ i => exact ih h2 h
theorem may_parts {v : Int} {x : Nd} (h : MayX v x = true) : (rootX v).2 = 0 ∧ x.1 = zeroT ∧ rgtF x.2 = true ∧ insideX (rootX v).1.2 x.2 = none ∧ refsF x.2 = none := by
 have hc : (CheckX v x).1 = 0 := of_decide_eq_true h
 unfold CheckX at hc
 by_cases h1 : (rootX v).2 ≠ 0
 ·rw [if_pos h1] at hc; exact absurd hc h1
 ·rw [if_neg h1] at hc
  by_cases h2 : rootB x = false
  ·rw [if_pos h2] at hc; cases hc
  ·rw [if_neg h2] at hc
   have h3 : rootB x = true := by simpa using h2
   simp only [rootB, Bool.and_eq_true, decide_eq_true_eq] at h3
   have hr : rgtF x.2 = true := by
    have h4 := h3.1
    unfold rgtX at h4
    rw [h3.2] at h4
    simpa using h4
   cases hs : insideX (rootX v).1.2 x.2 with
   | some b =>
    rw [hs] at hc
    have := (scan_err hs).1
    simp only at hc
    omega
   | none =>
    rw [hs] at hc
    refine ⟨Classical.byContradiction h1, h3.2, hr, rfl, ?_⟩
    cases hb : refsF x.2 with
    | none => rfl
    | some b =>
     exfalso
     have hc' : (RefsX x).1 = 0 := hc
     unfold RefsX at hc'
     rw [hb] at hc'
     have : ∀ {f : NdF} {b : Bad}, refsF f = some b → b.1 = 26 := by
      intro f
      induction f with
      | nil => intro b h; cases h
      | cons a k r _ ih =>
       intro b h
       unfold refsF at h
       split at h
       ·split at h
        ·injection h with h; subst h; rfl
        ·exact ih h
       ·exact ih h
     have := this hb
     simp only [badO] at hc'
     omega
theorem rway10_any (l : List Stp) (v : Value) (a : NdD) (u : Value) (w : World) (hv : WayV w.heap.size w v l) (hl : l.length ≤ 1000000) :
  Calls Tryz.prog 62 #[v, .agg (cN a u)] w fun r w' => ∃ v', r = .returned v' ∧ OwnS w.heap.size w' v' (l ++ [stp a]) ∧ Below w.heap.size w w' := by
 obtain ⟨A, c, rfl⟩ := hv.shape
 have hx1 : Below w.heap.size w (w.alloc (.cells (cN a u) 27)) := bAl
 obtain ⟨v1, w1, hr1, hown, hb1⟩ := app_way (w.alloc (.cells (cN a u) 27)) (.slice A l.length c) l (hv.below hx1) hl
 obtain ⟨A1, c1, rfl⟩ := hown.shape
 have HB1 : Hid (Below w.heap.size w w1) := hHd (hx1.trans (hb1.mono hx1.size))
 have HOW := hHd (hown.mono hx1.size)
 have HNB := hHd ((Blk.new w 27 (cN a u)).below hb1 (Blk.new w 27 (cN a u)).lt)
 obtain ⟨v2, w2, hr2, hap⟩ := run_append_k (P := Tryz.prog) (ts := 50) Tryz.underlying50 Tryz.cellsSt szeroN (by omega) (w1.alloc (.cells #[.string (txt a.name), .string (txt a.key)] 125)) w.heap.size (.slice A1 l.length c1) l.length (stC l) ((HOW.out.below bAl : OwnS w.heap.size (w1.alloc (.cells #[.string (txt a.name), .string (txt a.key)] 125)) (.slice A1 l.length c1) l)) w1.heap.size [.string (txt a.name), .string (txt a.key)] (Blk.new w1 125 _) rfl (by simp [Value.oneCell']) (by omega) (by omega) (Nat.le_trans HB1.out.size (by simp))
 have HR1 := hHd hr1
 have HR2 := hHd hr2
 have HAP := hHd hap
 clear hx1 hr1 hown hb1 hr2 hap hv
 obtain ⟨q0, q1, q2, q3, q4, q5⟩ := cl6 HNB.out
 go_enter Tryz.func62, Tryz.ntmps62
 go_wp2_with (at_builtin; first | (refine Lib.wpList_append_run _ rfl (.tmp 6) (.tmp 7) 50 50 rfl _ _ rfl rfl _ _ HR1.out ?_) | (refine Lib.wpList_append_run _ rfl (.tmp 9) (.tmp 15) 50 50 rfl _ _ rfl rfl _ _ HR2.out ?_))
 go_ret
 have hst : stC l ++ [.string (txt a.name), .string (txt a.key)] = stC (l ++ [stp a]) := (stC_app l [stp a]).symm
 refine ⟨v2, rfl, ?_, HB1.out.trans (((Below.refl _ _).alloc HB1.out.size _).trans (HAP.out.below (HOW.out.below bAl) (Nat.le_trans HB1.out.size (by simp))))⟩
 have h := HAP.out.1
 rw [hst] at h
 show OwnK 125 2 w2 w.heap.size v2 (l ++ [stp a]).length (stC (l ++ [stp a]))
 rw [List.length_append]
 exact h
theorem get_one (x : Nd) (s : Stp) : GetX x [s] = match gtF s x.2 with | none => (noN, false) | some y => (y, true) := by
 unfold GetX
 simp only [getX]
 cases gtF s x.2 <;> rfl
theorem get_is (x : Nd) (s : Stp) : (GetX x [s]).2 = (gtF s x.2).isSome := by rw [get_one]; cases gtF s x.2 <;> rfl
theorem rnamed10_any (pa : NdD) (pf : NdF) (Ap : Option Addr) (cp : Nat) (a : NdD) (f : NdF) (A : Option Addr) (c : Nat) (nm : List UInt8) (w : World) (hp : RowT w.heap.size w (.slice Ap pf.len cp) pf) (hn : RowT w.heap.size w (.slice A f.len c) f) (hfp : pf.size ≤ 1000000) (hfn : f.size ≤ 1000000) :
  Calls Tryz.prog 64 #[.agg (cN pa (.slice Ap pf.len cp)), .agg (cN a (.slice A f.len c)), .string (txt nm)] w (Ans9 (.bool (namedB pf (gtF (nm, []) f))) w) := by
 have hx1 : Below w.heap.size w (w.alloc (.cells (cN pa (.slice Ap pf.len cp)) 27)) := bAl
 have hx2 : Below w.heap.size w ((w.alloc (.cells (cN pa (.slice Ap pf.len cp)) 27)).alloc (.cells (cN a (.slice A f.len c)) 27)) := hx1.alloc hx1.size _
 have hx3 : Below w.heap.size w (((w.alloc (.cells (cN pa (.slice Ap pf.len cp)) 27)).alloc (.cells (cN a (.slice A f.len c)) 27)).alloc (.cells #[.string (txt nm), .string ⟨#[]⟩] 125)) := hx2.alloc hx2.size _
 have hz2 : (((w.alloc (.cells (cN pa (.slice Ap pf.len cp)) 27)).alloc (.cells (cN a (.slice A f.len c)) 27))).heap.size = w.heap.size + 2 := by simp
 have hk1 : Blk (((w.alloc (.cells (cN pa (.slice Ap pf.len cp)) 27)).alloc (.cells (cN a (.slice A f.len c)) 27)).alloc (.cells #[.string (txt nm), .string ⟨#[]⟩] 125)) w.heap.size 27 (cN pa (.slice Ap pf.len cp)) := ((Blk.new w 27 (cN pa (.slice Ap pf.len cp))).alloc _).alloc _
 have hk2 : Blk (((w.alloc (.cells (cN pa (.slice Ap pf.len cp)) 27)).alloc (.cells (cN a (.slice A f.len c)) 27)).alloc (.cells #[.string (txt nm), .string ⟨#[]⟩] 125)) (w.heap.size + 1) 27 (cN a (.slice A f.len c)) := (Blk.newA (w := (w.alloc (.cells (cN pa (.slice Ap pf.len cp)) 27))) (by simp) _ _).alloc _
 have HG1 : Hid (Calls Tryz.prog 94 #[.agg (ndC a (.slice A f.len c)).toArray, .slice (some ⟨(((w.alloc (.cells (cN pa (.slice Ap pf.len cp)) 27)).alloc (.cells (cN a (.slice A f.len c)) 27))).heap.size, 0, none⟩) 1 1] (((w.alloc (.cells (cN pa (.slice Ap pf.len cp)) 27)).alloc (.cells (cN a (.slice A f.len c)) 27)).alloc (.cells #[.string (txt nm), .string ⟨#[]⟩] 125)) (RTreP (GetX (a, f) [(nm, [])]).1 (.bool (GetX (a, f) [(nm, [])]).2) (((w.alloc (.cells (cN pa (.slice Ap pf.len cp)) 27)).alloc (.cells (cN a (.slice A f.len c)) 27)).alloc (.cells #[.string (txt nm), .string ⟨#[]⟩] 125)))) :=
  hHd ((rget_any ((((w.alloc (.cells (cN pa (.slice Ap pf.len cp)) 27)).alloc (.cells (cN a (.slice A f.len c)) 27)).alloc (.cells #[.string (txt nm), .string ⟨#[]⟩] 125))).heap.size [(nm, [])] (a, f) _ _ (((w.alloc (.cells (cN pa (.slice Ap pf.len cp)) 27)).alloc (.cells (cN a (.slice A f.len c)) 27)).alloc (.cells #[.string (txt nm), .string ⟨#[]⟩] 125)) (Nat.le_refl _) (LieB.make (hn.under hx3 (Nat.le_refl _) hx3.size)) (OwnS.one (w := ((w.alloc (.cells (cN pa (.slice Ap pf.len cp)) 27)).alloc (.cells (cN a (.slice A f.len c)) 27))) (nm, []) (Nat.le_refl _)).way hfn).mono fun _ _ h => h.r)
 have HP := hHd (And.intro hp hfp)
 have HX3 := hHd hx3
 have HK := hHd (And.intro hk1 hk2)
 rw [hz2, get_one] at HG1
 obtain ⟨o, ho⟩ : ∃ o, o = gtF (nm, []) f := ⟨_, rfl⟩
 rw [← ho]
 rw [show gtF (nm, []) ((a, f) : Nd).2 = o from ho.symm] at HG1
 unfold ndC at HG1
 have HB2 : Hid (Blk ((w.alloc (.cells (cN pa (.slice Ap pf.len cp)) 27)).alloc (.cells (cN a (.slice A f.len c)) 27)) (w.heap.size + 1) 27 (cN a (.slice A f.len c))) := hHd (Blk.newA (w := (w.alloc (.cells (cN pa (.slice Ap pf.len cp)) 27))) (by simp) _ _)
 clear hp hn hfp hfn hx1 hx2 hx3 hk1 hk2 hz2 ho
 obtain ⟨q0, q1, q2, q3, q4, q5⟩ := cl6 HB2.out
 go_enter Tryz.func64, Tryz.ntmps64
 cases o with
 | none =>
  simp only at HG1
  go_wp2_with fail
  refine HG1.out.mono ?_
  rintro r w4 ⟨cs, rfl, hl, hb⟩
  obtain ⟨A4, c4, rfl, -⟩ := hl.shape
  have HB4 := hHd (HX3.out.trans (hb.mono HX3.out.size))
  clear hl hb q0 q1 q2 q3 q4 q5
  unfold ndC
  go_wp2
  go_ret
  exact ⟨rfl, HB4.out.alloc HB4.out.size _⟩
 | some y =>
  simp only at HG1
  obtain ⟨y, yk⟩ := y
  go_wp2_with fail
  refine HG1.out.mono ?_
  rintro r w4 ⟨cs, rfl, hl, hb⟩
  obtain ⟨A4, c4, rfl, -⟩ := hl.shape
  simp only at *
  have HB4 := hHd (HX3.out.trans (hb.mono HX3.out.size))
  have hP4 := HK.out.1.below hb HK.out.1.lt
  have hy1 : Below w4.heap.size w4 (w4.alloc (.cells (cN y (.slice A4 yk.len c4)) 27)) := bAl
  have hy2 : Below w4.heap.size w4 ((w4.alloc (.cells (cN y (.slice A4 yk.len c4)) 27)).alloc (.cells #[.string (txt nClass), .string (txt y.text)] 125)) := hy1.alloc hy1.size _
  have hy3 : Below w.heap.size w ((w4.alloc (.cells (cN y (.slice A4 yk.len c4)) 27)).alloc (.cells #[.string (txt nClass), .string (txt y.text)] 125)) := HB4.out.trans (hy2.mono HB4.out.size)
  have hz4 : ((w4.alloc (.cells (cN y (.slice A4 yk.len c4)) 27))).heap.size = w4.heap.size + 1 := by simp
  have HG2 : Hid (Calls Tryz.prog 94 #[.agg (ndC pa (.slice Ap pf.len cp)).toArray, .slice (some ⟨((w4.alloc (.cells (cN y (.slice A4 yk.len c4)) 27))).heap.size, 0, none⟩) 1 1] ((w4.alloc (.cells (cN y (.slice A4 yk.len c4)) 27)).alloc (.cells #[.string (txt nClass), .string (txt y.text)] 125)) (RTreP (GetX (pa, pf) [(nClass, y.text)]).1 (.bool (GetX (pa, pf) [(nClass, y.text)]).2) ((w4.alloc (.cells (cN y (.slice A4 yk.len c4)) 27)).alloc (.cells #[.string (txt nClass), .string (txt y.text)] 125)))) :=
   hHd ((rget_any (((w4.alloc (.cells (cN y (.slice A4 yk.len c4)) 27)).alloc (.cells #[.string (txt nClass), .string (txt y.text)] 125))).heap.size [(nClass, y.text)] (pa, pf) _ _ ((w4.alloc (.cells (cN y (.slice A4 yk.len c4)) 27)).alloc (.cells #[.string (txt nClass), .string (txt y.text)] 125)) (Nat.le_refl _) (LieB.make (HP.out.1.under hy3 (Nat.le_refl _) hy3.size)) (OwnS.one (w := (w4.alloc (.cells (cN y (.slice A4 yk.len c4)) 27))) (nClass, y.text) (Nat.le_refl _)).way HP.out.2).mono fun _ _ h => h.r)
  rw [hz4] at HG2
  have HP5 := hHd (hP4.below hy1 hP4.lt)
  have HY5 := hHd (Blk.new w4 27 (cN y (.slice A4 yk.len c4)))
  have HY3 := hHd hy3
  have HTH : Hid (namedB pf (some (y, yk)) = (gtF (nClass, y.text) pf).isSome) := hHd rfl
  obtain ⟨R, hz⟩ : ∃ R, R = GetX (pa, pf) [(nClass, y.text)] := ⟨_, rfl⟩
  have hbz := get_is (pa, pf) (nClass, y.text)
  rw [← hz] at HG2 hbz
  obtain ⟨⟨za, zk⟩, bz⟩ := R
  simp only at HG2 hbz
  rw [← hbz] at HTH
  clear hz hbz hl hb hP4 hy1 hy2 hy3 hz4 q0 q1 q2 q3 q4 q5
  obtain ⟨q0, q1, q2, q3, q4, q5⟩ := cl6 HP5.out
  obtain ⟨p0, p1, p2, p3, p4, p5⟩ := cl6 HY5.out
  unfold ndC at HG2 ⊢
  go_wp2_with fail
  refine HG2.out.mono ?_
  rintro r w5 ⟨cs, rfl, hl5, hb5⟩
  obtain ⟨A5, c5, rfl, -⟩ := hl5.shape
  have HB5 := hHd (HY3.out.trans (hb5.mono HY3.out.size))
  clear hl5 hb5 q0 q1 q2 q3 q4 q5 p0 p1 p2 p3 p4 p5
  unfold ndC
  go_wp2
  go_ret
  exact ⟨by rw [HTH.out]; rfl, HB5.out.alloc HB5.out.size _⟩
end Go.Proofs.YtodlhgflfcadmaaGreat
