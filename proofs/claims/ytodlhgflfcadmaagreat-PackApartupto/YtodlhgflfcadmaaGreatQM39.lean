/- VadRefD VadRefE -/
import Derived.Test.YtodlhgflfcadmaaGreatQM38
set_option linter.unusedSimpArgs false
set_option linter.unusedVariables false
set_option maxRecDepth 100000
set_option maxHeartbeats 8000000
namespace Go.Proofs.YtodlhgflfcadmaaGreat
open Go.RowKit
section
attribute [local go_sem] Oper.semAt_some
theorem refs_drop {f : NdF} {i : Nat} {y : NdD} {k : NdF} (h : f.get? i = some (y, k)) : refsF (Fr.drop i f) = if y.name = nPort then (match portX k with | some p => some (26, stp y :: p) | none => refsF (Fr.drop (i + 1) f)) else refsF (Fr.drop (i + 1) f) := by
 rw [(Fr.get_drop h).1]; rfl
theorem rules_drop {all f : NdF} {i : Nat} {y : NdD} {k : NdF} (h : f.get? i = some (y, k)) : rulesX all (Fr.drop i f) = if y.name = nRule ∧ namedB all (gtF clsS k) = false then some [stp y, clsS] else rulesX all (Fr.drop (i + 1) f) := by
 rw [(Fr.get_drop h).1]; rfl
theorem rrefs10_any (a : NdD) (f : NdF) (A : Option Addr) (c : Nat) (w : World) (hrow : RowT w.heap.size w (.slice A f.len c) f) (hf : f.size ≤ 1000000) :
  Calls Tryz.prog 36 #[.agg (cN a (.slice A f.len c))] w (FirstP (RefsX (a, f)) w) := by
 have hx1 : Below w.heap.size w (w.alloc (.cells (cN a (.slice A f.len c)) 27)) := bAl
 have HROW := hHd hrow
 have HF := hHd hf
 have HBK := hHd (Blk.new w 27 (cN a (.slice A f.len c)))
 have HX1 := hHd hx1
 have hlen : f.len ≤ 1000000 := by have := Fr.len_size f; omega
 have hl0 : (f.len : Int) ≤ 1000000 := by omega
 clear hx1 hrow hf
 go_enter Tryz.func36, Tryz.ntmps36
 go_wp2_with fail
 go_loopw [4] (fun v wr => ∃ i : Nat, i ≤ f.len ∧ v = .int .i64 (i : Int) ∧ Hid (refsF f = refsF (Fr.drop i f)) ∧ Hid (Below (w.alloc (.cells (cN a (.slice A f.len c)) 27)).heap.size (w.alloc (.cells (cN a (.slice A f.len c)) 27)) wr)) (fun v _ => f.len - (intOf v).toNat)
 case atStart => exact ⟨0, Nat.zero_le _, rfl, hHd (by cases f <;> rfl), hHd (Below.refl _ _)⟩
 case round =>
  obtain ⟨i, hi, rfl, HE, HW⟩ := hrel
  obtain ⟨w0, hw0⟩ : ∃ w0, w0 = wr := ⟨_, rfl⟩
  subst hw0
  have i1 : (0 : Int) ≤ (i : Int) := by omega
  have HWW : Hid (Below w.heap.size w w0) := hHd (HX1.out.trans (HW.out.mono HX1.out.size))
  have HBW : Hid (Blk w0 w.heap.size 27 (cN a (.slice A f.len c))) := hHd (HBK.out.below HW.out HBK.out.lt)
  by_cases hlt : i < f.len
  ·obtain ⟨y, k, hg⟩ := Fr.get_some hlt
   obtain ⟨g, o, Ay, cy, rfl, -, hnc, hgb, hrk, hcell⟩ := HROW.out.at hg
   have hco : ∀ j u, (ndC y (.slice Ay k.len cy))[j]? = some u → w0.cell? ⟨g, o + i * 6 + j, none⟩ = some u := fun j u hu => (World.cell?_of_block (w := w) (a := ⟨g, o + i * 6 + j, none⟩) (HWW.out.block g hgb)).trans (hcell j u hu)
   have q0 : (w0).cell? ⟨g, o + i * 6, none⟩ = _ := hco 0 _ rfl
   have q1 : (w0).cell? ⟨g, o + i * 6 + 1, none⟩ = _ := hco 1 _ rfl
   have q2 : (w0).cell? ⟨g, o + i * 6 + 2, none⟩ = _ := hco 2 _ rfl
   have q3 : (w0).cell? ⟨g, o + i * 6 + 3, none⟩ = _ := hco 3 _ rfl
   have q4 : (w0).cell? ⟨g, o + i * 6 + 4, none⟩ = _ := hco 4 _ rfl
   have q5 : (w0).cell? ⟨g, o + i * 6 + 5, none⟩ = _ := hco 5 _ rfl
   have q0' : w0.cell? ⟨g, o + i * 6, none⟩ = some (.string (txt y.name)) := q0
   have i2 : (i : Int) < (f.len : Int) := by omega
   have HG := hHd (And.intro hg (And.intro hrk (Fr.size_get hg)))
   have HLT := hHd hlt
   have r5 := (HBW.out.cell 5).trans rfl
   clear hcell hco hrk hg hlt
   have HKB := hHd (Blk.new w0 27 (cN y (.slice Ay k.len cy)))
   obtain ⟨p0, p1, p2, p3, p4, p5⟩ := cl6 HKB.out
   have HY1 : Hid (Below w.heap.size w (w0.alloc (.cells (cN y (.slice Ay k.len cy)) 27))) := hHd (HWW.out.alloc HWW.out.size _)
   have HY2 := hHd (HW.out.alloc HW.out.size (.cells (cN y (.slice Ay k.len cy)) 27))
   by_cases hn : y.name = nPort
   ·have h1 : ((txt y.name).toList == [112, 111, 114, 116]) = true := by rw [txt_toList, hn]; rfl
    have HN := hHd hn
    clear hn
    go_wp2_with fail
    refine (rway10_any [] (.slice none 0 0) y (.slice Ay k.len cy) _ (WayV.nil _ _ _ _) (by simp)).mono ?_
    rintro r w1 ⟨v1, rfl, ho1, hb1⟩
    obtain ⟨A1, c1, rfl⟩ := ho1.shape
    have HK1 := hHd (HKB.out.below hb1 HKB.out.lt)
    have HO1 := hHd (ho1.mono (Nat.zero_le _))
    have HB1 := hHd (HY1.out.trans (hb1.mono HY1.out.size))
    have HC1 := hHd (HY2.out.trans (hb1.mono HY2.out.size))
    have HR1 := hHd (HG.out.2.1.under HB1.out (Nat.le_refl _) HB1.out.size)
    have HKS : Hid (k.size ≤ 1000000) := hHd (by have := HG.out.2.2; have := HF.out; omega)
    clear ho1 hb1 p0 p1 p2 p3 p4 p5 q0 q1 q2 q3 q4 q5 q0' r5 h1
    obtain ⟨p0, p1, p2, p3, p4, p5⟩ := cl6 HK1.out
    go_wp2_with fail
    refine (rnamed10_any y k Ay cy y k Ay cy nDefault _ HR1.out HR1.out HKS.out HKS.out).mono ?_
    rintro r w2 ⟨rfl, hb2⟩
    have HK2 := hHd (HK1.out.below hb2 HK1.out.lt)
    have HO2 := hHd (HO1.out.below hb2)
    have HB2 := hHd (HB1.out.trans (hb2.mono HB1.out.size))
    have HC2 := hHd (HC1.out.trans (hb2.mono HC1.out.size))
    clear hb2 p0 p1 p2 p3 p4 p5
    cases hd : namedB k (gtF (nDefault, []) k) with
    | false =>
     have HX : Hid (RefsX (a, f) = (26, [stp y, defS])) := hHd (by unfold RefsX; rw [show ((a, f) : Nd).2 = f from rfl, HE.out, refs_drop HG.out.1, if_pos HN.out]; unfold portX; rw [if_pos (show namedB k (gtF defS k) = false from hd)]; rfl)
     clear hd
     go_wp2_with fail
     refine (rway10_any [stp y] (.slice A1 1 c1) ⟨nDefault, [], 0, 0, []⟩ (.slice none 0 0) _ HO2.out.way (by simp)).mono ?_
     rintro r w3 ⟨v3, rfl, ho3, hb3⟩
     obtain ⟨A3, c3, rfl⟩ := ho3.shape
     have HV3 := hHd ho3.way
     have HB3 := hHd (HB2.out.trans (hb3.mono HB2.out.size))
     clear ho3 hb3
     go_wp2
     go_ret2
     rw [HX.out]
     exact ⟨_, rfl, HV3.out, HB3.out⟩
    | true =>
     have HPX : Hid (portX k = rulesX k k) := hHd (by unfold portX; rw [if_neg (by rw [show gtF defS k = gtF (nDefault, []) k from rfl, hd]; simp)])
     have hkl : (k.len : Int) ≤ 1000000 := by have := Fr.len_size k; have := HKS.out; omega
     clear hd
     have s5 := (HK2.out.cell 5).trans rfl
     go_wp2_with fail
     clear s5
     go_loopw [7] (fun v wr => ∃ j : Nat, j ≤ k.len ∧ v = .int .i64 (j : Int) ∧ Hid (rulesX k k = rulesX k (Fr.drop j k)) ∧ Hid (Below w2.heap.size w2 wr)) (fun v _ => k.len - (intOf v).toNat)
     case atStart => exact ⟨0, Nat.zero_le _, rfl, hHd (by cases k <;> rfl), hHd (Below.refl _ _)⟩
     case round =>
      obtain ⟨j, hj, rfl, HEJ, HWJ⟩ := hrel
      have j1 : (0 : Int) ≤ (j : Int) := by omega
      have HKJ := hHd (HK2.out.below HWJ.out HK2.out.lt)
      have HBJ := hHd (HB2.out.trans (HWJ.out.mono HB2.out.size))
      have HOJ := hHd (HO2.out.below HWJ.out)
      have s5 := (HKJ.out.cell 5).trans rfl
      by_cases hlt : j < k.len
      ·obtain ⟨z, zk, hg⟩ := Fr.get_some hlt
       obtain ⟨g', o', Az, cz, rfl, -, hnc', hgb', hrz, hzc⟩ := HG.out.2.1.at hg
       simp only at hrz hzc hnc'
       have hzo : ∀ j' u, (ndC z (.slice Az zk.len cz))[j']? = some u → wr.cell? ⟨g', o' + j * 6 + j', none⟩ = some u := fun j' u hu => (World.cell?_of_block (w := w) (a := ⟨g', o' + j * 6 + j', none⟩) (HBJ.out.block g' hgb')).trans (hzc j' u hu)
       have j2 : (j : Int) < (k.len : Int) := by omega
       have n1 : j < k.len := hlt
       have HS0 : Hid (Blk wr.drew w0.heap.size 27 (cN y (.slice (some ⟨g', o', none⟩) k.len cy)) ∧ wr.drew.cell? ⟨g', o' + j * 6, none⟩ = some (.string (txt z.name)) ∧ wr.drew.cell? ⟨g', o' + j * 6 + 1, none⟩ = some (.string (txt z.key)) ∧ wr.drew.cell? ⟨g', o' + j * 6 + 2, none⟩ = some (.int .i64 z.kind) ∧ wr.drew.cell? ⟨g', o' + j * 6 + 3, none⟩ = some (.int .u64 (z.num : Int)) ∧ wr.drew.cell? ⟨g', o' + j * 6 + 4, none⟩ = some (.string (txt z.text)) ∧ wr.drew.cell? ⟨g', o' + j * 6 + 5, none⟩ = some (.slice Az zk.len cz)) := hHd ⟨HKJ.out, hzo 0 _ rfl, hzo 1 _ rfl, hzo 2 _ rfl, hzo 3 _ rfl, hzo 4 _ rfl, hzo 5 _ rfl⟩
       have HGZ := hHd (And.intro hg (And.intro hrz (Fr.size_get hg)))
       have HBD : Hid (Below w.heap.size w wr.drew) := hHd HBJ.out.drew
       have HWD : Hid (Below w2.heap.size w2 wr.drew) := hHd HWJ.out.drew
       have HLJ := hHd hlt
       have HNC := hHd (And.intro hnc hnc')
       clear hzo hzc hrz hg hlt
       by_cases hzr : z.name = nRule
       ·have h2 : ((txt z.name).toList == [114, 117, 108, 101]) = true := by rw [txt_toList, hzr]; rfl
        have HZR := hHd hzr
        clear hzr
        have HRP := hHd (HG.out.2.1.under HBD.out (Nat.le_refl _) HBD.out.size)
        have HRZ := hHd (HGZ.out.2.1.under HBD.out (Nat.le_refl _) HBD.out.size)
        have HZS : Hid (zk.size ≤ 1000000) := hHd (by have := HGZ.out.2.2; have := HKS.out; omega)
        go_wp2_with fail
        refine wp_region_noPanic ?_
        refine wp_region_held_drew (S := fun _ => True) (by kernel_rfl) trivial (fun hS => ?_)
        refine tkH 0 hS ?_
        refine held_more (S' := fun w' => Blk w' w0.heap.size 27 (cN y (.slice (some ⟨g', o', none⟩) k.len cy)) ∧ w'.cell? ⟨g', o' + j * 6, none⟩ = some (.string (txt z.name)) ∧ w'.cell? ⟨g', o' + j * 6 + 1, none⟩ = some (.string (txt z.key)) ∧ w'.cell? ⟨g', o' + j * 6 + 2, none⟩ = some (.int .i64 z.kind) ∧ w'.cell? ⟨g', o' + j * 6 + 3, none⟩ = some (.int .u64 (z.num : Int)) ∧ w'.cell? ⟨g', o' + j * 6 + 4, none⟩ = some (.string (txt z.text)) ∧ w'.cell? ⟨g', o' + j * 6 + 5, none⟩ = some (.slice Az zk.len cz)) (fun _ _ => trivial) _ _ _ _ ?_
        replace hS := HS0.out
        refine tkH 1 hS ?_ (hy := fun w hSw => by have s5 := (hSw.1.cell 5).trans rfl; (go_simp <;> with_reducible rfl))
        refine tkH 2 hS ?_
        refine tkH 3 hS ?_
        refine tkH 4 hS ?_
        refine tkH 5 hS ?_ (hy := fun w hSw => by have z0 := hSw.2.1; (go_simp <;> with_reducible rfl))
        refine tkH 6 hS ?_
        refine tkH 7 hS ?_
        refine tkH 8 hS ?_ (hy := fun w hSw => by obtain ⟨s0, s1, s2, s3, s4, s5⟩ := cl6 hSw.1; (go_simp <;> with_reducible rfl))
        refine tkH 9 hS ?_
        refine tkH 10 hS ?_ (hy := fun w hSw => by have s5 := (hSw.1.cell 5).trans rfl; (go_simp <;> with_reducible rfl))
        refine tkH 11 hS ?_
        refine tkH 12 hS ?_
        refine tkH 13 hS ?_ (hy := fun w hSw => by have z0 := hSw.2.1; have z1 := hSw.2.2.1; have z2 := hSw.2.2.2.1; have z3 := hSw.2.2.2.2.1; have z4 := hSw.2.2.2.2.2.1; have z5 := hSw.2.2.2.2.2.2; (go_simp <;> with_reducible rfl))
        refine rdy1 14 fun K hK => ?_
        go_simp
        refine (rnamed10_any y k _ cy z zk Az cz nClass _ HRP.out HRZ.out HKS.out HZS.out).mono ?_
        rintro r w5 ⟨rfl, hb5⟩
        have HB5 := hHd hb5
        have HS5 : Hid (Blk w5 w0.heap.size 27 (cN y (.slice (some ⟨g', o', none⟩) k.len cy)) ∧ w5.cell? ⟨g', o' + j * 6, none⟩ = some (.string (txt z.name)) ∧ w5.cell? ⟨g', o' + j * 6 + 1, none⟩ = some (.string (txt z.key)) ∧ w5.cell? ⟨g', o' + j * 6 + 2, none⟩ = some (.int .i64 z.kind) ∧ w5.cell? ⟨g', o' + j * 6 + 3, none⟩ = some (.int .u64 (z.num : Int)) ∧ w5.cell? ⟨g', o' + j * 6 + 4, none⟩ = some (.string (txt z.text)) ∧ w5.cell? ⟨g', o' + j * 6 + 5, none⟩ = some (.slice Az zk.len cz)) := hHd (by
         have hc : ∀ (q : Nat) (u : Value), wr.drew.cell? ⟨g', q, none⟩ = some u → w5.cell? ⟨g', q, none⟩ = some u := fun q u hu => (World.cell?_of_block (w := wr.drew) (a := ⟨g', q, none⟩) (hb5.block g' (Nat.lt_of_lt_of_le hgb' HBD.out.size))).trans hu
         exact ⟨HS0.out.1.below hb5 HS0.out.1.lt, hc _ _ HS0.out.2.1, hc _ _ HS0.out.2.2.1, hc _ _ HS0.out.2.2.2.1, hc _ _ HS0.out.2.2.2.2.1, hc _ _ HS0.out.2.2.2.2.2.1, hc _ _ HS0.out.2.2.2.2.2.2⟩)
        clear hb5
        go_wp2_with fail
        refine hK.out _ _ ?sr_0 (fun hS => ?_)
        case sr_0 => (exact HS5.out)
        clear hK K
        (try simp only [Act.put, layS])
        refine tkH 15 hS ?_
        refine tkH 16 hS ?_
        refine wpAnyH_done (by kernel_rfl) ?_ _
        refine NoPanic.normal ?_
        clear hS
        have HO5 : Hid (OwnS 0 w5 (.slice A1 1 c1) [stp y]) := hHd ((HOJ.out.below (Below.refl _ _).drew).below HB5.out)
        have HW5 : Hid (Below w.heap.size w w5) := hHd (HBD.out.trans (HB5.out.mono HBD.out.size))
        have HV5 : Hid (Below w2.heap.size w2 w5) := hHd (HWD.out.trans (HB5.out.mono HWD.out.size))
        cases hb : namedB k (gtF (nClass, []) zk) with
        | false =>
         have HX : Hid (RefsX (a, f) = (26, [stp y, stp z, clsS])) := hHd (by
          unfold RefsX
          rw [show ((a, f) : Nd).2 = f from rfl, HE.out, refs_drop HG.out.1, if_pos HN.out, HPX.out, HEJ.out, rules_drop HGZ.out.1, if_pos ⟨HZR.out, hb⟩]
          rfl)
         clear hb
         have s5 := (HS5.out.1.cell 5).trans rfl
         have z0 := HS5.out.2.1
         have z1 := HS5.out.2.2.1
         have z2 := HS5.out.2.2.2.1
         have z3 := HS5.out.2.2.2.2.1
         have z4 := HS5.out.2.2.2.2.2.1
         have z5 := HS5.out.2.2.2.2.2.2
         go_wp2_with fail
         refine (rway10_any [stp y] (.slice A1 1 c1) z (.slice Az zk.len cz) _ HO5.out.way (by simp)).mono ?_
         rintro r w6 ⟨v6, rfl, ho6, hb6⟩
         obtain ⟨A6, c6, rfl⟩ := ho6.shape
         have HO6 := hHd ho6
         have HB6 := hHd (HW5.out.trans (hb6.mono HW5.out.size))
         clear ho6 hb6 s5 z0 z1 z2 z3 z4 z5
         go_wp2_with fail
         refine (rway10_any [stp y, stp z] (.slice A6 2 c6) ⟨nClass, [], 0, 0, []⟩ (.slice none 0 0) _ HO6.out.way (by simp)).mono ?_
         rintro r w7 ⟨v7, rfl, ho7, hb7⟩
         obtain ⟨A7, c7, rfl⟩ := ho7.shape
         have HV7 := hHd ho7.way
         have HB7 := hHd (HB6.out.trans (hb7.mono HB6.out.size))
         clear ho7 hb7
         go_wp2
         go_ret2
         rw [HX.out]
         exact ⟨_, rfl, HV7.out, HB7.out⟩
        | true =>
         have HEN : Hid (rulesX k k = rulesX k (Fr.drop (j + 1) k)) := hHd (by rw [HEJ.out, rules_drop HGZ.out.1, if_neg (fun h => by have h3 := h.2; rw [show gtF clsS zk = gtF (nClass, []) zk from rfl, hb] at h3; cases h3)])
         clear hb
         go_wp2
         go_roundw
         case rel => exact ⟨j + 1, HLJ.out, by go_num, HEN, HV5⟩
         case measure => have := HLJ.out; simp [intOf]; omega
       ·have h2 : ((txt z.name).toList == [114, 117, 108, 101]) = false := by rw [txt_toList]; exact beq_eq_false_iff_ne.2 hzr
        have HZR := hHd hzr
        clear hzr
        go_wp2_with fail
        refine wp_region_noPanic ?_
        refine wp_region_held_drew (S := fun _ => True) (by kernel_rfl) trivial (fun hS => ?_)
        refine tkH 0 hS ?_
        refine held_more (S' := fun w' => Blk w' w0.heap.size 27 (cN y (.slice (some ⟨g', o', none⟩) k.len cy)) ∧ w'.cell? ⟨g', o' + j * 6, none⟩ = some (.string (txt z.name)) ∧ w'.cell? ⟨g', o' + j * 6 + 1, none⟩ = some (.string (txt z.key)) ∧ w'.cell? ⟨g', o' + j * 6 + 2, none⟩ = some (.int .i64 z.kind) ∧ w'.cell? ⟨g', o' + j * 6 + 3, none⟩ = some (.int .u64 (z.num : Int)) ∧ w'.cell? ⟨g', o' + j * 6 + 4, none⟩ = some (.string (txt z.text)) ∧ w'.cell? ⟨g', o' + j * 6 + 5, none⟩ = some (.slice Az zk.len cz)) (fun _ _ => trivial) _ _ _ _ ?_
        replace hS := HS0.out
        refine tkH 1 hS ?_ (hy := fun w hSw => by have s5 := (hSw.1.cell 5).trans rfl; (go_simp <;> with_reducible rfl))
        refine tkH 2 hS ?_
        refine tkH 3 hS ?_
        refine tkH 4 hS ?_
        refine tkH 5 hS ?_ (hy := fun w hSw => by have z0 := hSw.2.1; (go_simp <;> with_reducible rfl))
        refine tkH 6 hS ?_
        refine tkH 7 hS ?_
        refine tkHo 8 hS ?_
        refine tkHo 9 hS ?_
        refine tkHo 10 hS ?_
        refine tkHo 11 hS ?_
        refine tkHo 12 hS ?_
        refine tkHo 13 hS ?_
        refine tkHo 14 hS ?_
        refine tkHo 15 hS ?_
        refine tkH 16 hS ?_
        refine wpAnyH_done (by kernel_rfl) ?_ _
        refine NoPanic.normal ?_
        clear hS
        go_wp2
        go_roundw
        case rel => exact ⟨j + 1, HLJ.out, by go_num, hHd (by rw [HEJ.out, rules_drop HGZ.out.1, if_neg (fun h => HZR.out h.1)]), HWD⟩
        case measure => have := HLJ.out; simp [intOf]; omega
      ·have j2 : ¬ (j : Int) < (k.len : Int) := by omega
       have HNP : Hid (portX k = none) := hHd (by rw [HPX.out, HEJ.out, show j = k.len by omega, Fr.drop_all]; rfl)
       go_wp2
       go_roundw
       case rel => exact ⟨i + 1, HLT.out, by go_num, hHd (by rw [HE.out, refs_drop HG.out.1, if_pos HN.out, HNP.out]), hHd (HC2.out.trans (HWJ.out.mono HC2.out.size))⟩
       case measure => have := HLT.out; simp [intOf]; omega
   ·have h1 : ((txt y.name).toList == [112, 111, 114, 116]) = false := by rw [txt_toList]; exact beq_eq_false_iff_ne.2 hn
    have HN := hHd hn
    clear hn
    go_wp2
    go_roundw
    case rel => exact ⟨i + 1, HLT.out, by go_num, hHd (by rw [HE.out, refs_drop HG.out.1, if_neg HN.out]), HY2⟩
    case measure => have := HLT.out; simp [intOf]; omega
  ·have i2 : ¬ (i : Int) < (f.len : Int) := by omega
   have HX : Hid (RefsX (a, f) = (0, [])) := hHd (by unfold RefsX; rw [show ((a, f) : Nd).2 = f from rfl, HE.out, show i = f.len by omega, Fr.drop_all]; rfl)
   have r5 := (HBW.out.cell 5).trans rfl
   go_wp2
   go_ret2
   rw [HX.out]
   exact ⟨_, rfl, WayV.nil _ _ _ _, HWW.out⟩
end
section
attribute [local go_sem] Oper.semAt_some
def wayO (l : List Stp) : Option Bad → Bad
 | none => (0, [])
 | some b => (b.1, l ++ b.2)
def RInP (k : NdF) : Prop := ∀ (s : Sp) (cs : List Value) (a : NdD) (A : Option Addr) (c : Nat) (l : List Stp) (vw : Value) (w : World), SpL w.heap.size w cs s → SpOk s.2 → s.2.len ≤ 1000000 → RowT w.heap.size w (.slice A k.len c) k → WayV w.heap.size w vw l →
 l.length + k.size ≤ 1000000 → OkF k → Calls Tryz.prog 35 #[.agg cs.toArray, .agg (cN a (.slice A k.len c)), vw] w (FirstP (wayO l (insideX s.2 k)) w)
theorem rone_box (nm : List UInt8) (kd ty lo hi : Nat) (ns : List (List UInt8)) (mu : Bool) (mo : Nat) (sf : SpF) (B1 : Option Addr) (m1 : Nat) (A1 : Option Addr) (c1 : Nat) (d : Nat) (a : NdD) (k : NdF) (A : Option Addr) (c ahead : Nat) (l : List Stp) (Aw : Option Addr) (cw : Nat) (w : World) (hs : SpL w.heap.size w ((cT nm kd ty lo hi ns mu mo B1 m1 A1 sf.len c1) : Array Value).toList ((⟨nm, kd, ty, lo, hi, ns, mu, mo⟩ : SpD), sf)) (hso : SpOk sf) (hsl : sf.len ≤ 1000000) (hv : Vals w d (.slice B1 ns.length m1) (txts ns)) (hns : ns.length ≤ 1000000) (hrow : RowT w.heap.size w (.slice A k.len c) k) (hway : WayV w.heap.size w (.slice Aw l.length cw) l) (hll : l.length + k.size ≤ 1000000) (hok : OkD a) (hkf : OkF k) (hah : ahead ≤ 1000000) (h1 : kd ≠ 1) (h3 : kd ≠ 3) (hW : RInP k) : Calls Tryz.prog 63 #[.agg (cT nm kd ty lo hi ns mu mo B1 m1 A1 sf.len c1), .agg (cN a (.slice A k.len c)), .int .i64 (ahead : Int), .slice Aw l.length cw] w (FirstP (wayO l (kidX1 ((⟨nm, kd, ty, lo, hi, ns, mu, mo⟩ : SpD), sf) a k ahead)) w) := by
 have hx1 : Below w.heap.size w (w.alloc (.cells (cT nm kd ty lo hi ns mu mo B1 m1 A1 sf.len c1) 67)) := bAl
 have hx2 : Below w.heap.size w ((w.alloc (.cells (cT nm kd ty lo hi ns mu mo B1 m1 A1 sf.len c1) 67)).alloc (.cells (cN a (.slice A k.len c)) 27)) := hx1.alloc hx1.size _
 have hk1 : Blk ((w.alloc (.cells (cT nm kd ty lo hi ns mu mo B1 m1 A1 sf.len c1) 67)).alloc (.cells (cN a (.slice A k.len c)) 27)) w.heap.size 67 (cT nm kd ty lo hi ns mu mo B1 m1 A1 sf.len c1) := (Blk.new w 67 (cT nm kd ty lo hi ns mu mo B1 m1 A1 sf.len c1)).alloc _
 have hk2 : Blk ((w.alloc (.cells (cT nm kd ty lo hi ns mu mo B1 m1 A1 sf.len c1) 67)).alloc (.cells (cN a (.slice A k.len c)) 27)) (w.heap.size + 1) 27 (cN a (.slice A k.len c)) := Blk.newA (w := (w.alloc (.cells (cT nm kd ty lo hi ns mu mo B1 m1 A1 sf.len c1) 67))) (by simp) _ _
 have HK1 := hHd hk1
 have HK2 := hHd hk2
 have HX2 := hHd hx2
 have HW2 := hHd (hway.under hx2 (Nat.le_refl _) hx2.size)
 have y1 := (hk1.cell 1).trans rfl
 obtain ⟨q0, q1, q2, q3, q4, q5⟩ := cl6 HK2.out
 have k1 : ((kd : Int) == 1) = false := beq_eq_false_iff_ne.2 (by omega)
 have k3 : ((kd : Int) == 3) = false := beq_eq_false_iff_ne.2 (by omega)
 have hkx : kidX1 ((⟨nm, kd, ty, lo, hi, ns, mu, mo⟩ : SpD), sf) a k ahead = if a.kind ≠ 0 ∨ a.key ≠ [] then some (23, []) else insideX sf k := by
  unfold kidX1 headX
  simp only [if_neg h1, if_neg h3]
  by_cases h : a.kind ≠ 0 ∨ a.key ≠ []
  ·simp only [if_pos h]
  ·simp only [if_neg h]
 have HKX := hHd hkx
 have HW := hHd (hW ((⟨nm, kd, ty, lo, hi, ns, mu, mo⟩ : SpD), sf) ((cT nm kd ty lo hi ns mu mo B1 m1 A1 sf.len c1) : Array Value).toList a A c l (.slice Aw l.length cw) ((w.alloc (.cells (cT nm kd ty lo hi ns mu mo B1 m1 A1 sf.len c1) 67)).alloc (.cells (cN a (.slice A k.len c)) 27)) (hs.keep (fun g hg => hx2.block g hg) hx2.size) hso hsl (hrow.under hx2 (Nat.le_refl _) hx2.size) (hway.under hx2 (Nat.le_refl _) hx2.size) hll hkf)
 clear hs hso hsl hv hns hrow hway hll hok hkf hah h1 h3 hW hkx hx1 hx2 hk1 hk2
 go_enter Tryz.func63, Tryz.ntmps63
 by_cases ha : a.kind = 0
 ·have e0 : (a.kind != 0) = false := by rw [ha]; rfl
  have HA := hHd ha
  clear ha
  by_cases hb : a.key = []
  ·have e1 : ((txt a.key).toList == []) = true := by rw [txt_toList, hb]; rfl
   have HX : Hid (kidX1 ((⟨nm, kd, ty, lo, hi, ns, mu, mo⟩ : SpD), sf) a k ahead = insideX sf k) := hHd (by rw [HKX.out, if_neg (by rintro (h | h); exact h HA.out; exact h hb)])
   clear hb
   have y0 := (HK1.out.cell 0).trans rfl
   have y2 := (HK1.out.cell 2).trans rfl
   have y3 := (HK1.out.cell 3).trans rfl
   have y4 := (HK1.out.cell 4).trans rfl
   have y5 := (HK1.out.cell 5).trans rfl
   have y6 := (HK1.out.cell 6).trans rfl
   have y7 := (HK1.out.cell 7).trans rfl
   have y8 := (HK1.out.cell 8).trans rfl
   go_wp2_with fail
   refine HW.out.mono ?_
   rintro r w5 ⟨v5, rfl, hv5, hb5⟩
   obtain ⟨A5, c5, rfl⟩ := hv5.shape
   have HV5 := hHd hv5
   have HB5 := hHd (HX2.out.trans (hb5.mono HX2.out.size))
   clear hv5 hb5
   go_wp2
   go_ret2
   rw [HX.out]
   exact ⟨_, rfl, HV5.out, HB5.out⟩
  ·have e1 : ((txt a.key).toList == []) = false := by rw [txt_toList]; exact beq_eq_false_iff_ne.2 hb
   have HX : Hid (kidX1 ((⟨nm, kd, ty, lo, hi, ns, mu, mo⟩ : SpD), sf) a k ahead = some (23, [])) := hHd (by rw [HKX.out, if_pos (.inr hb)])
   clear hb
   go_wp2
   go_ret2
   rw [HX.out]
   exact ⟨_, rfl, by simpa [wayO] using HW2.out, HX2.out⟩
 ·have e0 : (a.kind != 0) = true := by unfold bne; rw [beq_eq_false_iff_ne.2 ha]; rfl
  have HX : Hid (kidX1 ((⟨nm, kd, ty, lo, hi, ns, mu, mo⟩ : SpD), sf) a k ahead = some (23, [])) := hHd (by rw [HKX.out, if_pos (.inl ha)])
  clear ha
  go_wp2
  go_ret2
  rw [HX.out]
  exact ⟨_, rfl, by simpa [wayO] using HW2.out, HX2.out⟩
theorem rone_list (nm : List UInt8) (kd ty lo hi : Nat) (ns : List (List UInt8)) (mu : Bool) (mo : Nat) (sf : SpF) (B1 : Option Addr) (m1 : Nat) (A1 : Option Addr) (c1 : Nat) (d : Nat) (a : NdD) (k : NdF) (A : Option Addr) (c ahead : Nat) (l : List Stp) (Aw : Option Addr) (cw : Nat) (w : World) (hs : SpL w.heap.size w ((cT nm kd ty lo hi ns mu mo B1 m1 A1 sf.len c1) : Array Value).toList ((⟨nm, kd, ty, lo, hi, ns, mu, mo⟩ : SpD), sf)) (hso : SpOk sf) (hsl : sf.len ≤ 1000000) (hv : Vals w d (.slice B1 ns.length m1) (txts ns)) (hns : ns.length ≤ 1000000) (hrow : RowT w.heap.size w (.slice A k.len c) k) (hway : WayV w.heap.size w (.slice Aw l.length cw) l) (hll : l.length + k.size ≤ 1000000) (hok : OkD a) (hkf : OkF k) (hah : ahead ≤ 1000000) (h3 : kd = 3) (hW : RInP k) : Calls Tryz.prog 63 #[.agg (cT nm kd ty lo hi ns mu mo B1 m1 A1 sf.len c1), .agg (cN a (.slice A k.len c)), .int .i64 (ahead : Int), .slice Aw l.length cw] w (FirstP (wayO l (kidX1 ((⟨nm, kd, ty, lo, hi, ns, mu, mo⟩ : SpD), sf) a k ahead)) w) := by
 have hx1 : Below w.heap.size w (w.alloc (.cells (cT nm kd ty lo hi ns mu mo B1 m1 A1 sf.len c1) 67)) := bAl
 have hx2 : Below w.heap.size w ((w.alloc (.cells (cT nm kd ty lo hi ns mu mo B1 m1 A1 sf.len c1) 67)).alloc (.cells (cN a (.slice A k.len c)) 27)) := hx1.alloc hx1.size _
 have hk1 : Blk ((w.alloc (.cells (cT nm kd ty lo hi ns mu mo B1 m1 A1 sf.len c1) 67)).alloc (.cells (cN a (.slice A k.len c)) 27)) w.heap.size 67 (cT nm kd ty lo hi ns mu mo B1 m1 A1 sf.len c1) := (Blk.new w 67 (cT nm kd ty lo hi ns mu mo B1 m1 A1 sf.len c1)).alloc _
 have hk2 : Blk ((w.alloc (.cells (cT nm kd ty lo hi ns mu mo B1 m1 A1 sf.len c1) 67)).alloc (.cells (cN a (.slice A k.len c)) 27)) (w.heap.size + 1) 27 (cN a (.slice A k.len c)) := Blk.newA (w := (w.alloc (.cells (cT nm kd ty lo hi ns mu mo B1 m1 A1 sf.len c1) 67))) (by simp) _ _
 have HK1 := hHd hk1
 have HK2 := hHd hk2
 have HX2 := hHd hx2
 have HW2 := hHd (hway.under hx2 (Nat.le_refl _) hx2.size)
 have y1 := (hk1.cell 1).trans rfl
 obtain ⟨q0, q1, q2, q3, q4, q5⟩ := cl6 HK2.out
 have k1 : ((kd : Int) == 1) = false := beq_eq_false_iff_ne.2 (by omega)
 have k3 : ((kd : Int) == 3) = true := beq_iff_eq.2 (by omega)
 have hkx : kidX1 ((⟨nm, kd, ty, lo, hi, ns, mu, mo⟩ : SpD), sf) a k ahead = if a.kind ≠ 0 ∨ identX a.key = false then some (23, []) else if mo ≤ ahead then some (27, []) else insideX sf k := by
  unfold kidX1 headX
  simp only [if_neg (show ¬ kd = 1 by omega), if_pos h3]
  by_cases h : a.kind ≠ 0 ∨ identX a.key = false
  ·simp only [if_pos h]
  ·simp only [if_neg h]
   by_cases h2 : mo ≤ ahead
   ·simp only [if_pos h2]
   ·simp only [if_neg h2]
 have HKX := hHd hkx
 have HW := hHd (hW ((⟨nm, kd, ty, lo, hi, ns, mu, mo⟩ : SpD), sf) ((cT nm kd ty lo hi ns mu mo B1 m1 A1 sf.len c1) : Array Value).toList a A c l (.slice Aw l.length cw) ((w.alloc (.cells (cT nm kd ty lo hi ns mu mo B1 m1 A1 sf.len c1) 67)).alloc (.cells (cN a (.slice A k.len c)) 27)) (hs.keep (fun g hg => hx2.block g hg) hx2.size) hso hsl (hrow.under hx2 (Nat.le_refl _) hx2.size) (hway.under hx2 (Nat.le_refl _) hx2.size) hll hkf)
 have HID := hHd (rident_any a.key (by have := hok.key; omega) ((w.alloc (.cells (cT nm kd ty lo hi ns mu mo B1 m1 A1 sf.len c1) 67)).alloc (.cells (cN a (.slice A k.len c)) 27)))
 have n0 : (ahead : Int) ≤ 1000000 := by omega
 clear hs hso hsl hv hns hrow hway hll hok hkf h3 hW hkx hx1 hx2 hk1 hk2
 go_enter Tryz.func63, Tryz.ntmps63
 go_wp2_with fail
 refine HID.out.mono ?_
 rintro r w' ⟨rfl, rfl⟩
 by_cases ha : a.kind = 0
 ·have e0 : (a.kind != 0) = false := by rw [ha]; rfl
  have HA := hHd ha
  clear ha
  cases hidx : identX a.key with
  | false =>
   have HX : Hid (kidX1 ((⟨nm, kd, ty, lo, hi, ns, mu, mo⟩ : SpD), sf) a k ahead = some (23, [])) := hHd (by rw [HKX.out, if_pos (.inr hidx)])
   clear hidx
   go_wp2
   go_ret2
   rw [HX.out]
   exact ⟨_, rfl, by simpa [wayO] using HW2.out, HX2.out⟩
  | true =>
   have HKY : Hid (kidX1 ((⟨nm, kd, ty, lo, hi, ns, mu, mo⟩ : SpD), sf) a k ahead = if mo ≤ ahead then some (27, []) else insideX sf k) := hHd (by rw [HKX.out, if_neg (by rintro (h | h); exact h HA.out; rw [hidx] at h; cases h)])
   clear hidx
   have y7 := (HK1.out.cell 7).trans rfl
   by_cases hm : mo ≤ ahead
   ·have k4 : (mo : Int) ≤ (ahead : Int) := by omega
    have HX : Hid (kidX1 ((⟨nm, kd, ty, lo, hi, ns, mu, mo⟩ : SpD), sf) a k ahead = some (27, [])) := hHd (by rw [HKY.out, if_pos hm])
    clear hm
    go_wp2
    go_ret2
    rw [HX.out]
    exact ⟨_, rfl, by simpa [wayO] using HW2.out, HX2.out⟩
   ·have k4 : ¬ (mo : Int) ≤ (ahead : Int) := by omega
    have HX : Hid (kidX1 ((⟨nm, kd, ty, lo, hi, ns, mu, mo⟩ : SpD), sf) a k ahead = insideX sf k) := hHd (by rw [HKY.out, if_neg hm])
    clear hm
    have y0 := (HK1.out.cell 0).trans rfl
    have y2 := (HK1.out.cell 2).trans rfl
    have y3 := (HK1.out.cell 3).trans rfl
    have y4 := (HK1.out.cell 4).trans rfl
    have y5 := (HK1.out.cell 5).trans rfl
    have y6 := (HK1.out.cell 6).trans rfl
    have y7 := (HK1.out.cell 7).trans rfl
    have y8 := (HK1.out.cell 8).trans rfl
    go_wp2_with fail
    refine HW.out.mono ?_
    rintro r w5 ⟨v5, rfl, hv5, hb5⟩
    obtain ⟨A5, c5, rfl⟩ := hv5.shape
    have HV5 := hHd hv5
    have HB5 := hHd (HX2.out.trans (hb5.mono HX2.out.size))
    clear hv5 hb5
    go_wp2
    go_ret2
    rw [HX.out]
    exact ⟨_, rfl, HV5.out, HB5.out⟩
 ·have e0 : (a.kind != 0) = true := by unfold bne; rw [beq_eq_false_iff_ne.2 ha]; rfl
  have HX : Hid (kidX1 ((⟨nm, kd, ty, lo, hi, ns, mu, mo⟩ : SpD), sf) a k ahead = some (23, [])) := hHd (by rw [HKX.out, if_pos (.inl ha)])
  clear ha
  go_wp2
  go_ret2
  rw [HX.out]
  exact ⟨_, rfl, by simpa [wayO] using HW2.out, HX2.out⟩
theorem rone_leaf (nm : List UInt8) (kd ty lo hi : Nat) (ns : List (List UInt8)) (mu : Bool) (mo : Nat) (sf : SpF) (B1 : Option Addr) (m1 : Nat) (A1 : Option Addr) (c1 : Nat) (d : Nat) (a : NdD) (k : NdF) (A : Option Addr) (c ahead : Nat) (l : List Stp) (Aw : Option Addr) (cw : Nat) (w : World) (hs : SpL w.heap.size w ((cT nm kd ty lo hi ns mu mo B1 m1 A1 sf.len c1) : Array Value).toList ((⟨nm, kd, ty, lo, hi, ns, mu, mo⟩ : SpD), sf)) (hso : SpOk sf) (hsl : sf.len ≤ 1000000) (hv : Vals w d (.slice B1 ns.length m1) (txts ns)) (hns : ns.length ≤ 1000000) (hrow : RowT w.heap.size w (.slice A k.len c) k) (hway : WayV w.heap.size w (.slice Aw l.length cw) l) (hll : l.length + k.size ≤ 1000000) (hok : OkD a) (hkf : OkF k) (hah : ahead ≤ 1000000) (h1 : kd = 1) : Calls Tryz.prog 63 #[.agg (cT nm kd ty lo hi ns mu mo B1 m1 A1 sf.len c1), .agg (cN a (.slice A k.len c)), .int .i64 (ahead : Int), .slice Aw l.length cw] w (FirstP (wayO l (kidX1 ((⟨nm, kd, ty, lo, hi, ns, mu, mo⟩ : SpD), sf) a k ahead)) w) := by
 have hx1 : Below w.heap.size w (w.alloc (.cells (cT nm kd ty lo hi ns mu mo B1 m1 A1 sf.len c1) 67)) := bAl
 have hx2 : Below w.heap.size w ((w.alloc (.cells (cT nm kd ty lo hi ns mu mo B1 m1 A1 sf.len c1) 67)).alloc (.cells (cN a (.slice A k.len c)) 27)) := hx1.alloc hx1.size _
 have hk1 : Blk ((w.alloc (.cells (cT nm kd ty lo hi ns mu mo B1 m1 A1 sf.len c1) 67)).alloc (.cells (cN a (.slice A k.len c)) 27)) w.heap.size 67 (cT nm kd ty lo hi ns mu mo B1 m1 A1 sf.len c1) := (Blk.new w 67 (cT nm kd ty lo hi ns mu mo B1 m1 A1 sf.len c1)).alloc _
 have hk2 : Blk ((w.alloc (.cells (cT nm kd ty lo hi ns mu mo B1 m1 A1 sf.len c1) 67)).alloc (.cells (cN a (.slice A k.len c)) 27)) (w.heap.size + 1) 27 (cN a (.slice A k.len c)) := Blk.newA (w := (w.alloc (.cells (cT nm kd ty lo hi ns mu mo B1 m1 A1 sf.len c1) 67))) (by simp) _ _
 have HK1 := hHd hk1
 have HK2 := hHd hk2
 have HX2 := hHd hx2
 have HW2 := hHd (hway.under hx2 (Nat.le_refl _) hx2.size)
 have y1 := (hk1.cell 1).trans rfl
 obtain ⟨q0, q1, q2, q3, q4, q5⟩ := cl6 HK2.out
 have k1 : ((kd : Int) == 1) = true := beq_iff_eq.2 (by omega)
 have hkx : kidX1 ((⟨nm, kd, ty, lo, hi, ns, mu, mo⟩ : SpD), sf) a k ahead = if leafB (⟨nm, kd, ty, lo, hi, ns, mu, mo⟩ : SpD) a k = true then none else some (23, []) := by
  unfold kidX1 headX
  simp only [if_pos h1]
  cases hb : leafB (⟨nm, kd, ty, lo, hi, ns, mu, mo⟩ : SpD) a k with
  | true => simp only [if_true]
  | false => rfl
 have HKX := hHd hkx
 have hv2 : Vals ((w.alloc (.cells (cT nm kd ty lo hi ns mu mo B1 m1 A1 sf.len c1) 67)).alloc (.cells (cN a (.slice A k.len c)) 27)) d (.slice B1 ns.length m1) (txts ns) := hv.heap (fun h0 => by
  obtain ⟨_, _, _, _, h2⟩ := hv
  exact hx2.block d (h2 h0).1)
 have HRI := hHd (vrright_any (⟨nm, kd, ty, lo, hi, ns, mu, mo⟩ : SpD) (vlOf a) B1 m1 d A1 sf.len c1 ((w.alloc (.cells (cT nm kd ty lo hi ns mu mo B1 m1 A1 sf.len c1) 67)).alloc (.cells (cN a (.slice A k.len c)) 27)) hv2 hns hok.vl)
 obtain ⟨rb, hrb⟩ : ∃ rb, rb = rightX (⟨nm, kd, ty, lo, hi, ns, mu, mo⟩ : SpD) (vlOf a) := ⟨_, rfl⟩
 have HLB : Hid (leafB (⟨nm, kd, ty, lo, hi, ns, mu, mo⟩ : SpD) a k = (decide (a.key = []) && decide (k.len = 0) && rb)) := hHd (by rw [hrb]; rfl)
 rw [← hrb] at HRI
 have y0 := (HK1.out.cell 0).trans rfl
 have y2 := (HK1.out.cell 2).trans rfl
 have y3 := (HK1.out.cell 3).trans rfl
 have y4 := (HK1.out.cell 4).trans rfl
 have y5 := (HK1.out.cell 5).trans rfl
 have y6 := (HK1.out.cell 6).trans rfl
 have y7 := (HK1.out.cell 7).trans rfl
 have y8 := (HK1.out.cell 8).trans rfl
 clear hs hso hsl hv hns hrow hway hll hok hkf h1 hkx hx1 hx2 hk1 hk2 hv2 hrb
 go_enter Tryz.func63, Tryz.ntmps63
 go_wp2_with fail
 refine HRI.out.mono ?_
 rintro r w5 ⟨rfl, hb5⟩
 have HB5 := hHd (HX2.out.trans (hb5.mono HX2.out.size))
 have HN5 := hHd (HK2.out.below hb5 HK2.out.lt)
 have HW5 := hHd (HW2.out.below hb5)
 clear hb5 y0 y1 y2 y3 y4 y5 y6 y7 y8 q0 q1 q2 q3 q4 q5
 obtain ⟨q0, q1, q2, q3, q4, q5⟩ := cl6 HN5.out
 by_cases hb : a.key = []
 ·have e1 : ((txt a.key).toList == []) = true := by rw [txt_toList, hb]; rfl
  have HB1 : Hid (decide (a.key = []) = true) := hHd (decide_eq_true hb)
  clear hb
  by_cases hl : k.len = 0
  ·have i1 : ¬ (0 : Int) < (k.len : Int) := by omega
   have HL1 : Hid (decide (k.len = 0) = true) := hHd (decide_eq_true hl)
   clear hl
   cases rb with
   | true =>
    have HX : Hid (kidX1 ((⟨nm, kd, ty, lo, hi, ns, mu, mo⟩ : SpD), sf) a k ahead = none) := hHd (by rw [HKX.out, HLB.out, HB1.out, HL1.out]; rfl)
    go_wp2
    go_ret2
    rw [HX.out]
    exact ⟨_, rfl, WayV.nil _ _ _ _, HB5.out⟩
   | false =>
    have HX : Hid (kidX1 ((⟨nm, kd, ty, lo, hi, ns, mu, mo⟩ : SpD), sf) a k ahead = some (23, [])) := hHd (by rw [HKX.out, HLB.out, HB1.out, HL1.out]; rfl)
    go_wp2
    go_ret2
    rw [HX.out]
    exact ⟨_, rfl, by simpa [wayO] using HW5.out, HB5.out⟩
  ·have i1 : (0 : Int) < (k.len : Int) := by omega
   have HX : Hid (kidX1 ((⟨nm, kd, ty, lo, hi, ns, mu, mo⟩ : SpD), sf) a k ahead = some (23, [])) := hHd (by rw [HKX.out, HLB.out, decide_eq_false hl]; simp)
   clear hl
   go_wp2
   go_ret2
   rw [HX.out]
   exact ⟨_, rfl, by simpa [wayO] using HW5.out, HB5.out⟩
 ·have e1 : ((txt a.key).toList == []) = false := by rw [txt_toList]; exact beq_eq_false_iff_ne.2 hb
  have HX : Hid (kidX1 ((⟨nm, kd, ty, lo, hi, ns, mu, mo⟩ : SpD), sf) a k ahead = some (23, [])) := hHd (by rw [HKX.out, HLB.out, decide_eq_false hb]; simp)
  clear hb
  go_wp2
  go_ret2
  rw [HX.out]
  exact ⟨_, rfl, by simpa [wayO] using HW5.out, HB5.out⟩
theorem rone_any (nm : List UInt8) (kd ty lo hi : Nat) (ns : List (List UInt8)) (mu : Bool) (mo : Nat) (sf : SpF) (B1 : Option Addr) (m1 : Nat) (A1 : Option Addr) (c1 : Nat) (d : Nat) (a : NdD) (k : NdF) (A : Option Addr) (c ahead : Nat) (l : List Stp) (Aw : Option Addr) (cw : Nat) (w : World) (hs : SpL w.heap.size w ((cT nm kd ty lo hi ns mu mo B1 m1 A1 sf.len c1) : Array Value).toList ((⟨nm, kd, ty, lo, hi, ns, mu, mo⟩ : SpD), sf)) (hso : SpOk sf) (hsl : sf.len ≤ 1000000) (hv : Vals w d (.slice B1 ns.length m1) (txts ns)) (hns : ns.length ≤ 1000000) (hrow : RowT w.heap.size w (.slice A k.len c) k) (hway : WayV w.heap.size w (.slice Aw l.length cw) l) (hll : l.length + k.size ≤ 1000000) (hok : OkD a) (hkf : OkF k) (hah : ahead ≤ 1000000) (hW : RInP k) : Calls Tryz.prog 63 #[.agg (cT nm kd ty lo hi ns mu mo B1 m1 A1 sf.len c1), .agg (cN a (.slice A k.len c)), .int .i64 (ahead : Int), .slice Aw l.length cw] w (FirstP (wayO l (kidX1 ((⟨nm, kd, ty, lo, hi, ns, mu, mo⟩ : SpD), sf) a k ahead)) w) := by
 by_cases h1 : kd = 1
 ·exact rone_leaf nm kd ty lo hi ns mu mo sf B1 m1 A1 c1 d a k A c ahead l Aw cw w hs hso hsl hv hns hrow hway hll hok hkf hah h1
 ·by_cases h3 : kd = 3
  ·exact rone_list nm kd ty lo hi ns mu mo sf B1 m1 A1 c1 d a k A c ahead l Aw cw w hs hso hsl hv hns hrow hway hll hok hkf hah h3 hW
  ·exact rone_box nm kd ty lo hi ns mu mo sf B1 m1 A1 c1 d a k A c ahead l Aw cw w hs hso hsl hv hns hrow hway hll hok hkf hah h1 h3 hW
end
end Go.Proofs.YtodlhgflfcadmaaGreat
