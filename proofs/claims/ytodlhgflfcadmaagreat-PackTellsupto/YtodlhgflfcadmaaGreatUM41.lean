/- VadRefB VadRefD -/
import Derived.Test.YtodlhgflfcadmaaGreatUM40
set_option linter.unusedSimpArgs false
set_option linter.unusedVariables false
set_option maxRecDepth 100000
set_option maxHeartbeats 8000000
namespace Go.Proofs.YtodlhgflfcadmaaGreat
open Go.RowKit
theorem get_one (x : Nd) (s : Stp) : GetX x [s] = match gtF s x.2 with | none => (noN, false) | some y => (y, true) := by
 unfold GetX
 simp only [getX]
 cases gtF s x.2 <;> rfl
theorem get_is (x : Nd) (s : Stp) : (GetX x [s]).2 = (gtF s x.2).isSome := by rw [get_one]; cases gtF s x.2 <;> rfl
theorem rnamed10_any (pa : NdD) (pf : NdF) (Ap : Option Addr) (cp : Nat) (a : NdD) (f : NdF) (A : Option Addr) (c : Nat) (nm : List UInt8) (w : World) (hp : RowT w.heap.size w (.slice Ap pf.len cp) pf) (hn : RowT w.heap.size w (.slice A f.len c) f) (hfp : pf.size ≤ 1000000) (hfn : f.size ≤ 1000000) :
  Calls Tryz.prog 64 #[.agg (cN pa (.slice Ap pf.len cp)), .agg (cN a (.slice A f.len c)), .string (txt nm)] w (Ans9 (.bool (namedB pf (gtF (nm, []) f))) w) := by
 have hx1 : Below w.heap.size w (w.alloc (.cells (cN pa (.slice Ap pf.len cp)) 27)) := bAl
 have hx2 : Below w.heap.size w ((w.alloc (.cells (cN pa (.slice Ap pf.len cp)) 27)).alloc (.cells (cN a (.slice A f.len c)) 27)) := hx1.alloc hx1.size _
 have hx3 : Below w.heap.size w (((w.alloc (.cells (cN pa (.slice Ap pf.len cp)) 27)).alloc (.cells (cN a (.slice A f.len c)) 27)).alloc (.cells #[.string (txt nm), .string ⟨#[]⟩] 125)) := hx2.alloc hx2.size _
 have hz2 : (((w.alloc (.cells (cN pa (.slice Ap pf.len cp)) 27)).alloc (.cells (cN a (.slice A f.len c)) 27))).heap.size = w.heap.size + 2 := by simp
 have hk1 : Blk (((w.alloc (.cells (cN pa (.slice Ap pf.len cp)) 27)).alloc (.cells (cN a (.slice A f.len c)) 27)).alloc (.cells #[.string (txt nm), .string ⟨#[]⟩] 125)) w.heap.size 27 (cN pa (.slice Ap pf.len cp)) := ((Blk.new w 27 (cN pa (.slice Ap pf.len cp))).alloc _).alloc _
 have hk2 : Blk (((w.alloc (.cells (cN pa (.slice Ap pf.len cp)) 27)).alloc (.cells (cN a (.slice A f.len c)) 27)).alloc (.cells #[.string (txt nm), .string ⟨#[]⟩] 125)) (w.heap.size + 1) 27 (cN a (.slice A f.len c)) := (Blk.newA (w := (w.alloc (.cells (cN pa (.slice Ap pf.len cp)) 27))) (by simp) _ _).alloc _
 have HG1 : Hid (Calls Tryz.prog 94 #[.agg (ndC a (.slice A f.len c)).toArray, .slice (some ⟨(((w.alloc (.cells (cN pa (.slice Ap pf.len cp)) 27)).alloc (.cells (cN a (.slice A f.len c)) 27))).heap.size, 0, none⟩) 1 1] (((w.alloc (.cells (cN pa (.slice Ap pf.len cp)) 27)).alloc (.cells (cN a (.slice A f.len c)) 27)).alloc (.cells #[.string (txt nm), .string ⟨#[]⟩] 125)) (RTreP (GetX (a, f) [(nm, [])]).1 (.bool (GetX (a, f) [(nm, [])]).2) (((w.alloc (.cells (cN pa (.slice Ap pf.len cp)) 27)).alloc (.cells (cN a (.slice A f.len c)) 27)).alloc (.cells #[.string (txt nm), .string ⟨#[]⟩] 125)))) :=
  hHd ((rget_any ((((w.alloc (.cells (cN pa (.slice Ap pf.len cp)) 27)).alloc (.cells (cN a (.slice A f.len c)) 27)).alloc (.cells #[.string (txt nm), .string ⟨#[]⟩] 125))).heap.size [(nm, [])] (a, f) _ _ (((w.alloc (.cells (cN pa (.slice Ap pf.len cp)) 27)).alloc (.cells (cN a (.slice A f.len c)) 27)).alloc (.cells #[.string (txt nm), .string ⟨#[]⟩] 125)) (Nat.le_refl _) (LieB.make (hn.under hx3 (Nat.le_refl _) hx3.size)) (OwnS.one (w := ((w.alloc (.cells (cN pa (.slice Ap pf.len cp)) 27)).alloc (.cells (cN a (.slice A f.len c)) 27))) (nm, []) (Nat.le_refl _)).way hfn).mono fun _ _ h => h.r)
 have HP := hHd (And.intro hp hfp)
 have HX3 := hHd hx3
 have HK := hHd (And.intro hk1 hk2)
 rw [hz2, get_one] at HG1
 obtain ⟨o, ho⟩ : ∃ o, o = gtF (nm, []) f := ⟨_, rfl⟩
 rw [← ho]
 rw [show gtF (nm, []) ((a, f) : Nd).2 = o from ho.symm] at HG1
 unfold ndC at HG1
 have HB2 : Hid (Blk ((w.alloc (.cells (cN pa (.slice Ap pf.len cp)) 27)).alloc (.cells (cN a (.slice A f.len c)) 27)) (w.heap.size + 1) 27 (cN a (.slice A f.len c))) := hHd (Blk.newA (w := (w.alloc (.cells (cN pa (.slice Ap pf.len cp)) 27))) (by simp) _ _)
 clear hp hn hfp hfn hx1 hx2 hx3 hk1 hk2 hz2 ho
 obtain ⟨q0, q1, q2, q3, q4, q5⟩ := cl6 HB2.out
 go_enter Tryz.func64, Tryz.ntmps64
 cases o with
 | none =>
  simp only at HG1
  go_wp2_with fail
  refine HG1.out.mono ?_
  rintro r w4 ⟨cs, rfl, hl, hb⟩
  obtain ⟨A4, c4, rfl, -⟩ := hl.shape
  have HB4 := hHd (HX3.out.trans (hb.mono HX3.out.size))
  clear hl hb q0 q1 q2 q3 q4 q5
  unfold ndC
  go_wp2
  go_ret
  exact ⟨rfl, HB4.out.alloc HB4.out.size _⟩
 | some y =>
  simp only at HG1
  obtain ⟨y, yk⟩ := y
  go_wp2_with fail
  refine HG1.out.mono ?_
  rintro r w4 ⟨cs, rfl, hl, hb⟩
  obtain ⟨A4, c4, rfl, -⟩ := hl.shape
  simp only at *
  have HB4 := hHd (HX3.out.trans (hb.mono HX3.out.size))
  have hP4 := HK.out.1.below hb HK.out.1.lt
  have hy1 : Below w4.heap.size w4 (w4.alloc (.cells (cN y (.slice A4 yk.len c4)) 27)) := bAl
  have hy2 : Below w4.heap.size w4 ((w4.alloc (.cells (cN y (.slice A4 yk.len c4)) 27)).alloc (.cells #[.string (txt nClass), .string (txt y.text)] 125)) := hy1.alloc hy1.size _
  have hy3 : Below w.heap.size w ((w4.alloc (.cells (cN y (.slice A4 yk.len c4)) 27)).alloc (.cells #[.string (txt nClass), .string (txt y.text)] 125)) := HB4.out.trans (hy2.mono HB4.out.size)
  have hz4 : ((w4.alloc (.cells (cN y (.slice A4 yk.len c4)) 27))).heap.size = w4.heap.size + 1 := by simp
  have HG2 : Hid (Calls Tryz.prog 94 #[.agg (ndC pa (.slice Ap pf.len cp)).toArray, .slice (some ⟨((w4.alloc (.cells (cN y (.slice A4 yk.len c4)) 27))).heap.size, 0, none⟩) 1 1] ((w4.alloc (.cells (cN y (.slice A4 yk.len c4)) 27)).alloc (.cells #[.string (txt nClass), .string (txt y.text)] 125)) (RTreP (GetX (pa, pf) [(nClass, y.text)]).1 (.bool (GetX (pa, pf) [(nClass, y.text)]).2) ((w4.alloc (.cells (cN y (.slice A4 yk.len c4)) 27)).alloc (.cells #[.string (txt nClass), .string (txt y.text)] 125)))) :=
   hHd ((rget_any (((w4.alloc (.cells (cN y (.slice A4 yk.len c4)) 27)).alloc (.cells #[.string (txt nClass), .string (txt y.text)] 125))).heap.size [(nClass, y.text)] (pa, pf) _ _ ((w4.alloc (.cells (cN y (.slice A4 yk.len c4)) 27)).alloc (.cells #[.string (txt nClass), .string (txt y.text)] 125)) (Nat.le_refl _) (LieB.make (HP.out.1.under hy3 (Nat.le_refl _) hy3.size)) (OwnS.one (w := (w4.alloc (.cells (cN y (.slice A4 yk.len c4)) 27))) (nClass, y.text) (Nat.le_refl _)).way HP.out.2).mono fun _ _ h => h.r)
  rw [hz4] at HG2
  have HP5 := hHd (hP4.below hy1 hP4.lt)
  have HY5 := hHd (Blk.new w4 27 (cN y (.slice A4 yk.len c4)))
  have HY3 := hHd hy3
  have HTH : Hid (namedB pf (some (y, yk)) = (gtF (nClass, y.text) pf).isSome) := hHd rfl
  obtain ⟨R, hz⟩ : ∃ R, R = GetX (pa, pf) [(nClass, y.text)] := ⟨_, rfl⟩
  have hbz := get_is (pa, pf) (nClass, y.text)
  rw [← hz] at HG2 hbz
  obtain ⟨⟨za, zk⟩, bz⟩ := R
  simp only at HG2 hbz
  rw [← hbz] at HTH
  clear hz hbz hl hb hP4 hy1 hy2 hy3 hz4 q0 q1 q2 q3 q4 q5
  obtain ⟨q0, q1, q2, q3, q4, q5⟩ := cl6 HP5.out
  obtain ⟨p0, p1, p2, p3, p4, p5⟩ := cl6 HY5.out
  unfold ndC at HG2 ⊢
  go_wp2_with fail
  refine HG2.out.mono ?_
  rintro r w5 ⟨cs, rfl, hl5, hb5⟩
  obtain ⟨A5, c5, rfl, -⟩ := hl5.shape
  have HB5 := hHd (HY3.out.trans (hb5.mono HY3.out.size))
  clear hl5 hb5 q0 q1 q2 q3 q4 q5 p0 p1 p2 p3 p4 p5
  unfold ndC
  go_wp2
  go_ret
  exact ⟨by rw [HTH.out]; rfl, HB5.out.alloc HB5.out.size _⟩
section
attribute [local go_sem] Oper.semAt_some
theorem refs_drop {f : NdF} {i : Nat} {y : NdD} {k : NdF} (h : f.get? i = some (y, k)) : refsF (Fr.drop i f) = if y.name = nPort then (match portX k with | some p => some (26, stp y :: p) | none => refsF (Fr.drop (i + 1) f)) else refsF (Fr.drop (i + 1) f) := by
 rw [(Fr.get_drop h).1]; rfl
theorem rules_drop {all f : NdF} {i : Nat} {y : NdD} {k : NdF} (h : f.get? i = some (y, k)) : rulesX all (Fr.drop i f) = if y.name = nRule ∧ namedB all (gtF clsS k) = false then some [stp y, clsS] else rulesX all (Fr.drop (i + 1) f) := by
 rw [(Fr.get_drop h).1]; rfl
theorem rrefs10_any (a : NdD) (f : NdF) (A : Option Addr) (c : Nat) (w : World) (hrow : RowT w.heap.size w (.slice A f.len c) f) (hf : f.size ≤ 1000000) :
  Calls Tryz.prog 36 #[.agg (cN a (.slice A f.len c))] w (FirstP (RefsX (a, f)) w) := by
 have hx1 : Below w.heap.size w (w.alloc (.cells (cN a (.slice A f.len c)) 27)) := bAl
 have HROW := hHd hrow
 have HF := hHd hf
 have HBK := hHd (Blk.new w 27 (cN a (.slice A f.len c)))
 have HX1 := hHd hx1
 have hlen : f.len ≤ 1000000 := by have := Fr.len_size f; omega
 have hl0 : (f.len : Int) ≤ 1000000 := by omega
 clear hx1 hrow hf
 go_enter Tryz.func36, Tryz.ntmps36
 go_wp2_with fail
 go_loopw [4] (fun v wr => ∃ i : Nat, i ≤ f.len ∧ v = .int .i64 (i : Int) ∧ Hid (refsF f = refsF (Fr.drop i f)) ∧ Hid (Below (w.alloc (.cells (cN a (.slice A f.len c)) 27)).heap.size (w.alloc (.cells (cN a (.slice A f.len c)) 27)) wr)) (fun v _ => f.len - (intOf v).toNat)
 case atStart => exact ⟨0, Nat.zero_le _, rfl, hHd (by cases f <;> rfl), hHd (Below.refl _ _)⟩
 case round =>
  obtain ⟨i, hi, rfl, HE, HW⟩ := hrel
  obtain ⟨w0, hw0⟩ : ∃ w0, w0 = wr := ⟨_, rfl⟩
  subst hw0
  have i1 : (0 : Int) ≤ (i : Int) := by omega
  have HWW : Hid (Below w.heap.size w w0) := hHd (HX1.out.trans (HW.out.mono HX1.out.size))
  have HBW : Hid (Blk w0 w.heap.size 27 (cN a (.slice A f.len c))) := hHd (HBK.out.below HW.out HBK.out.lt)
  by_cases hlt : i < f.len
  ·obtain ⟨y, k, hg⟩ := Fr.get_some hlt
   obtain ⟨g, o, Ay, cy, rfl, -, hnc, hgb, hrk, hcell⟩ := HROW.out.at hg
   have hco : ∀ j u, (ndC y (.slice Ay k.len cy))[j]? = some u → w0.cell? ⟨g, o + i * 6 + j, none⟩ = some u := fun j u hu => (World.cell?_of_block (w := w) (a := ⟨g, o + i * 6 + j, none⟩) (HWW.out.block g hgb)).trans (hcell j u hu)
   have q0 : (w0).cell? ⟨g, o + i * 6, none⟩ = _ := hco 0 _ rfl
   have q1 : (w0).cell? ⟨g, o + i * 6 + 1, none⟩ = _ := hco 1 _ rfl
   have q2 : (w0).cell? ⟨g, o + i * 6 + 2, none⟩ = _ := hco 2 _ rfl
   have q3 : (w0).cell? ⟨g, o + i * 6 + 3, none⟩ = _ := hco 3 _ rfl
   have q4 : (w0).cell? ⟨g, o + i * 6 + 4, none⟩ = _ := hco 4 _ rfl
   have q5 : (w0).cell? ⟨g, o + i * 6 + 5, none⟩ = _ := hco 5 _ rfl
   have q0' : w0.cell? ⟨g, o + i * 6, none⟩ = some (.string (txt y.name)) := q0
   have i2 : (i : Int) < (f.len : Int) := by omega
   have HG := hHd (And.intro hg (And.intro hrk (Fr.size_get hg)))
   have HLT := hHd hlt
   have r5 := (HBW.out.cell 5).trans rfl
   clear hcell hco hrk hg hlt
   have HKB := hHd (Blk.new w0 27 (cN y (.slice Ay k.len cy)))
   obtain ⟨p0, p1, p2, p3, p4, p5⟩ := cl6 HKB.out
   have HY1 : Hid (Below w.heap.size w (w0.alloc (.cells (cN y (.slice Ay k.len cy)) 27))) := hHd (HWW.out.alloc HWW.out.size _)
   have HY2 := hHd (HW.out.alloc HW.out.size (.cells (cN y (.slice Ay k.len cy)) 27))
   by_cases hn : y.name = nPort
   ·have h1 : ((txt y.name).toList == [112, 111, 114, 116]) = true := by rw [txt_toList, hn]; rfl
    have HN := hHd hn
    clear hn
    go_wp2_with fail
    refine (rway10_any [] (.slice none 0 0) y (.slice Ay k.len cy) _ (WayV.nil _ _ _ _) (by simp)).mono ?_
    rintro r w1 ⟨v1, rfl, ho1, hb1⟩
    obtain ⟨A1, c1, rfl⟩ := ho1.shape
    have HK1 := hHd (HKB.out.below hb1 HKB.out.lt)
    have HO1 := hHd (ho1.mono (Nat.zero_le _))
    have HB1 := hHd (HY1.out.trans (hb1.mono HY1.out.size))
    have HC1 := hHd (HY2.out.trans (hb1.mono HY2.out.size))
    have HR1 := hHd (HG.out.2.1.under HB1.out (Nat.le_refl _) HB1.out.size)
    have HKS : Hid (k.size ≤ 1000000) := hHd (by have := HG.out.2.2; have := HF.out; omega)
    clear ho1 hb1 p0 p1 p2 p3 p4 p5 q0 q1 q2 q3 q4 q5 q0' r5 h1
    obtain ⟨p0, p1, p2, p3, p4, p5⟩ := cl6 HK1.out
    go_wp2_with fail
    refine (rnamed10_any y k Ay cy y k Ay cy nDefault _ HR1.out HR1.out HKS.out HKS.out).mono ?_
    rintro r w2 ⟨rfl, hb2⟩
    have HK2 := hHd (HK1.out.below hb2 HK1.out.lt)
    have HO2 := hHd (HO1.out.below hb2)
    have HB2 := hHd (HB1.out.trans (hb2.mono HB1.out.size))
    have HC2 := hHd (HC1.out.trans (hb2.mono HC1.out.size))
    clear hb2 p0 p1 p2 p3 p4 p5
    cases hd : namedB k (gtF (nDefault, []) k) with
    | false =>
     have HX : Hid (RefsX (a, f) = (26, [stp y, defS])) := hHd (by unfold RefsX; rw [show ((a, f) : Nd).2 = f from rfl, HE.out, refs_drop HG.out.1, if_pos HN.out]; unfold portX; rw [if_pos (show namedB k (gtF defS k) = false from hd)]; rfl)
     clear hd
     go_wp2_with fail
     refine (rway10_any [stp y] (.slice A1 1 c1) ⟨nDefault, [], 0, 0, []⟩ (.slice none 0 0) _ HO2.out.way (by simp)).mono ?_
     rintro r w3 ⟨v3, rfl, ho3, hb3⟩
     obtain ⟨A3, c3, rfl⟩ := ho3.shape
     have HV3 := hHd ho3.way
     have HB3 := hHd (HB2.out.trans (hb3.mono HB2.out.size))
     clear ho3 hb3
     go_wp2
     go_ret2
     rw [HX.out]
     exact ⟨_, rfl, HV3.out, HB3.out⟩
    | true =>
     have HPX : Hid (portX k = rulesX k k) := hHd (by unfold portX; rw [if_neg (by rw [show gtF defS k = gtF (nDefault, []) k from rfl, hd]; simp)])
     have hkl : (k.len : Int) ≤ 1000000 := by have := Fr.len_size k; have := HKS.out; omega
     clear hd
     have s5 := (HK2.out.cell 5).trans rfl
     go_wp2_with fail
     clear s5
     go_loopw [7] (fun v wr => ∃ j : Nat, j ≤ k.len ∧ v = .int .i64 (j : Int) ∧ Hid (rulesX k k = rulesX k (Fr.drop j k)) ∧ Hid (Below w2.heap.size w2 wr)) (fun v _ => k.len - (intOf v).toNat)
     case atStart => exact ⟨0, Nat.zero_le _, rfl, hHd (by cases k <;> rfl), hHd (Below.refl _ _)⟩
     case round =>
      obtain ⟨j, hj, rfl, HEJ, HWJ⟩ := hrel
      have j1 : (0 : Int) ≤ (j : Int) := by omega
      have HKJ := hHd (HK2.out.below HWJ.out HK2.out.lt)
      have HBJ := hHd (HB2.out.trans (HWJ.out.mono HB2.out.size))
      have HOJ := hHd (HO2.out.below HWJ.out)
      have s5 := (HKJ.out.cell 5).trans rfl
      by_cases hlt : j < k.len
      ·obtain ⟨z, zk, hg⟩ := Fr.get_some hlt
       obtain ⟨g', o', Az, cz, rfl, -, hnc', hgb', hrz, hzc⟩ := HG.out.2.1.at hg
       simp only at hrz hzc hnc'
       have hzo : ∀ j' u, (ndC z (.slice Az zk.len cz))[j']? = some u → wr.cell? ⟨g', o' + j * 6 + j', none⟩ = some u := fun j' u hu => (World.cell?_of_block (w := w) (a := ⟨g', o' + j * 6 + j', none⟩) (HBJ.out.block g' hgb')).trans (hzc j' u hu)
       have j2 : (j : Int) < (k.len : Int) := by omega
       have n1 : j < k.len := hlt
       have HS0 : Hid (Blk wr.drew w0.heap.size 27 (cN y (.slice (some ⟨g', o', none⟩) k.len cy)) ∧ wr.drew.cell? ⟨g', o' + j * 6, none⟩ = some (.string (txt z.name)) ∧ wr.drew.cell? ⟨g', o' + j * 6 + 1, none⟩ = some (.string (txt z.key)) ∧ wr.drew.cell? ⟨g', o' + j * 6 + 2, none⟩ = some (.int .i64 z.kind) ∧ wr.drew.cell? ⟨g', o' + j * 6 + 3, none⟩ = some (.int .u64 (z.num : Int)) ∧ wr.drew.cell? ⟨g', o' + j * 6 + 4, none⟩ = some (.string (txt z.text)) ∧ wr.drew.cell? ⟨g', o' + j * 6 + 5, none⟩ = some (.slice Az zk.len cz)) := hHd ⟨HKJ.out, hzo 0 _ rfl, hzo 1 _ rfl, hzo 2 _ rfl, hzo 3 _ rfl, hzo 4 _ rfl, hzo 5 _ rfl⟩
       have HGZ := hHd (And.intro hg (And.intro hrz (Fr.size_get hg)))
       have HBD : Hid (Below w.heap.size w wr.drew) := hHd HBJ.out.drew
       have HWD : Hid (Below w2.heap.size w2 wr.drew) := hHd HWJ.out.drew
       have HLJ := hHd hlt
       have HNC := hHd (And.intro hnc hnc')
       clear hzo hzc hrz hg hlt
       by_cases hzr : z.name = nRule
       ·have h2 : ((txt z.name).toList == [114, 117, 108, 101]) = true := by rw [txt_toList, hzr]; rfl
        have HZR := hHd hzr
        clear hzr
        have HRP := hHd (HG.out.2.1.under HBD.out (Nat.le_refl _) HBD.out.size)
        have HRZ := hHd (HGZ.out.2.1.under HBD.out (Nat.le_refl _) HBD.out.size)
        have HZS : Hid (zk.size ≤ 1000000) := hHd (by have := HGZ.out.2.2; have := HKS.out; omega)
        go_wp2_with fail
        refine wp_region_noPanic ?_
        refine wp_region_held_drew (S := fun _ => True) (by kernel_rfl) trivial (fun hS => ?_)
        refine tkH 0 hS ?_
        refine held_more (S' := fun w' => Blk w' w0.heap.size 27 (cN y (.slice (some ⟨g', o', none⟩) k.len cy)) ∧ w'.cell? ⟨g', o' + j * 6, none⟩ = some (.string (txt z.name)) ∧ w'.cell? ⟨g', o' + j * 6 + 1, none⟩ = some (.string (txt z.key)) ∧ w'.cell? ⟨g', o' + j * 6 + 2, none⟩ = some (.int .i64 z.kind) ∧ w'.cell? ⟨g', o' + j * 6 + 3, none⟩ = some (.int .u64 (z.num : Int)) ∧ w'.cell? ⟨g', o' + j * 6 + 4, none⟩ = some (.string (txt z.text)) ∧ w'.cell? ⟨g', o' + j * 6 + 5, none⟩ = some (.slice Az zk.len cz)) (fun _ _ => trivial) _ _ _ _ ?_
        replace hS := HS0.out
        refine tkH 1 hS ?_ (hy := fun w hSw => by have s5 := (hSw.1.cell 5).trans rfl; (go_simp <;> with_reducible rfl))
        refine tkH 2 hS ?_
        refine tkH 3 hS ?_
        refine tkH 4 hS ?_
        refine tkH 5 hS ?_ (hy := fun w hSw => by have z0 := hSw.2.1; (go_simp <;> with_reducible rfl))
        refine tkH 6 hS ?_
        refine tkH 7 hS ?_
        refine tkH 8 hS ?_ (hy := fun w hSw => by obtain ⟨s0, s1, s2, s3, s4, s5⟩ := cl6 hSw.1; (go_simp <;> with_reducible rfl))
        refine tkH 9 hS ?_
        refine tkH 10 hS ?_ (hy := fun w hSw => by have s5 := (hSw.1.cell 5).trans rfl; (go_simp <;> with_reducible rfl))
        refine tkH 11 hS ?_
        refine tkH 12 hS ?_
        refine tkH 13 hS ?_ (hy := fun w hSw => by have z0 := hSw.2.1; have z1 := hSw.2.2.1; have z2 := hSw.2.2.2.1; have z3 := hSw.2.2.2.2.1; have z4 := hSw.2.2.2.2.2.1; have z5 := hSw.2.2.2.2.2.2; (go_simp <;> with_reducible rfl))
        refine rdy1 14 fun K hK => ?_
        go_simp
        refine (rnamed10_any y k _ cy z zk Az cz nClass _ HRP.out HRZ.out HKS.out HZS.out).mono ?_
        rintro r w5 ⟨rfl, hb5⟩
        have HB5 := hHd hb5
        have HS5 : Hid (Blk w5 w0.heap.size 27 (cN y (.slice (some ⟨g', o', none⟩) k.len cy)) ∧ w5.cell? ⟨g', o' + j * 6, none⟩ = some (.string (txt z.name)) ∧ w5.cell? ⟨g', o' + j * 6 + 1, none⟩ = some (.string (txt z.key)) ∧ w5.cell? ⟨g', o' + j * 6 + 2, none⟩ = some (.int .i64 z.kind) ∧ w5.cell? ⟨g', o' + j * 6 + 3, none⟩ = some (.int .u64 (z.num : Int)) ∧ w5.cell? ⟨g', o' + j * 6 + 4, none⟩ = some (.string (txt z.text)) ∧ w5.cell? ⟨g', o' + j * 6 + 5, none⟩ = some (.slice Az zk.len cz)) := hHd (by
         have hc : ∀ (q : Nat) (u : Value), wr.drew.cell? ⟨g', q, none⟩ = some u → w5.cell? ⟨g', q, none⟩ = some u := fun q u hu => (World.cell?_of_block (w := wr.drew) (a := ⟨g', q, none⟩) (hb5.block g' (Nat.lt_of_lt_of_le hgb' HBD.out.size))).trans hu
         exact ⟨HS0.out.1.below hb5 HS0.out.1.lt, hc _ _ HS0.out.2.1, hc _ _ HS0.out.2.2.1, hc _ _ HS0.out.2.2.2.1, hc _ _ HS0.out.2.2.2.2.1, hc _ _ HS0.out.2.2.2.2.2.1, hc _ _ HS0.out.2.2.2.2.2.2⟩)
        clear hb5
        go_wp2_with fail
        refine hK.out _ _ ?sr_0 (fun hS => ?_)
        case sr_0 => (exact HS5.out)
        clear hK K
        (try simp only [Act.put, layS])
        refine tkH 15 hS ?_
        refine tkH 16 hS ?_
        refine wpAnyH_done (by kernel_rfl) ?_ _
        refine NoPanic.normal ?_
        clear hS
        have HO5 : Hid (OwnS 0 w5 (.slice A1 1 c1) [stp y]) := hHd ((HOJ.out.below (Below.refl _ _).drew).below HB5.out)
        have HW5 : Hid (Below w.heap.size w w5) := hHd (HBD.out.trans (HB5.out.mono HBD.out.size))
        have HV5 : Hid (Below w2.heap.size w2 w5) := hHd (HWD.out.trans (HB5.out.mono HWD.out.size))
        cases hb : namedB k (gtF (nClass, []) zk) with
        | false =>
         have HX : Hid (RefsX (a, f) = (26, [stp y, stp z, clsS])) := hHd (by
          unfold RefsX
          rw [show ((a, f) : Nd).2 = f from rfl, HE.out, refs_drop HG.out.1, if_pos HN.out, HPX.out, HEJ.out, rules_drop HGZ.out.1, if_pos ⟨HZR.out, hb⟩]
          rfl)
         clear hb
         have s5 := (HS5.out.1.cell 5).trans rfl
         have z0 := HS5.out.2.1
         have z1 := HS5.out.2.2.1
         have z2 := HS5.out.2.2.2.1
         have z3 := HS5.out.2.2.2.2.1
         have z4 := HS5.out.2.2.2.2.2.1
         have z5 := HS5.out.2.2.2.2.2.2
         go_wp2_with fail
         refine (rway10_any [stp y] (.slice A1 1 c1) z (.slice Az zk.len cz) _ HO5.out.way (by simp)).mono ?_
         rintro r w6 ⟨v6, rfl, ho6, hb6⟩
         obtain ⟨A6, c6, rfl⟩ := ho6.shape
         have HO6 := hHd ho6
         have HB6 := hHd (HW5.out.trans (hb6.mono HW5.out.size))
         clear ho6 hb6 s5 z0 z1 z2 z3 z4 z5
         go_wp2_with fail
         refine (rway10_any [stp y, stp z] (.slice A6 2 c6) ⟨nClass, [], 0, 0, []⟩ (.slice none 0 0) _ HO6.out.way (by simp)).mono ?_
         rintro r w7 ⟨v7, rfl, ho7, hb7⟩
         obtain ⟨A7, c7, rfl⟩ := ho7.shape
         have HV7 := hHd ho7.way
         have HB7 := hHd (HB6.out.trans (hb7.mono HB6.out.size))
         clear ho7 hb7
         go_wp2
         go_ret2
         rw [HX.out]
         exact ⟨_, rfl, HV7.out, HB7.out⟩
        | true =>
         have HEN : Hid (rulesX k k = rulesX k (Fr.drop (j + 1) k)) := hHd (by rw [HEJ.out, rules_drop HGZ.out.1, if_neg (fun h => by have h3 := h.2; rw [show gtF clsS zk = gtF (nClass, []) zk from rfl, hb] at h3; cases h3)])
         clear hb
         go_wp2
         go_roundw
         case rel => exact ⟨j + 1, HLJ.out, by go_num, HEN, HV5⟩
         case measure => have := HLJ.out; simp [intOf]; omega
       ·have h2 : ((txt z.name).toList == [114, 117, 108, 101]) = false := by rw [txt_toList]; exact beq_eq_false_iff_ne.2 hzr
        have HZR := hHd hzr
        clear hzr
        go_wp2_with fail
        refine wp_region_noPanic ?_
        refine wp_region_held_drew (S := fun _ => True) (by kernel_rfl) trivial (fun hS => ?_)
        refine tkH 0 hS ?_
        refine held_more (S' := fun w' => Blk w' w0.heap.size 27 (cN y (.slice (some ⟨g', o', none⟩) k.len cy)) ∧ w'.cell? ⟨g', o' + j * 6, none⟩ = some (.string (txt z.name)) ∧ w'.cell? ⟨g', o' + j * 6 + 1, none⟩ = some (.string (txt z.key)) ∧ w'.cell? ⟨g', o' + j * 6 + 2, none⟩ = some (.int .i64 z.kind) ∧ w'.cell? ⟨g', o' + j * 6 + 3, none⟩ = some (.int .u64 (z.num : Int)) ∧ w'.cell? ⟨g', o' + j * 6 + 4, none⟩ = some (.string (txt z.text)) ∧ w'.cell? ⟨g', o' + j * 6 + 5, none⟩ = some (.slice Az zk.len cz)) (fun _ _ => trivial) _ _ _ _ ?_
        replace hS := HS0.out
        refine tkH 1 hS ?_ (hy := fun w hSw => by have s5 := (hSw.1.cell 5).trans rfl; (go_simp <;> with_reducible rfl))
        refine tkH 2 hS ?_
        refine tkH 3 hS ?_
        refine tkH 4 hS ?_
        refine tkH 5 hS ?_ (hy := fun w hSw => by have z0 := hSw.2.1; (go_simp <;> with_reducible rfl))
        refine tkH 6 hS ?_
        refine tkH 7 hS ?_
        refine tkHo 8 hS ?_
        refine tkHo 9 hS ?_
        refine tkHo 10 hS ?_
        refine tkHo 11 hS ?_
        refine tkHo 12 hS ?_
        refine tkHo 13 hS ?_
        refine tkHo 14 hS ?_
        refine tkHo 15 hS ?_
        refine tkH 16 hS ?_
        refine wpAnyH_done (by kernel_rfl) ?_ _
        refine NoPanic.normal ?_
        clear hS
        go_wp2
        go_roundw
        case rel => exact ⟨j + 1, HLJ.out, by go_num, hHd (by rw [HEJ.out, rules_drop HGZ.out.1, if_neg (fun h => HZR.out h.1)]), HWD⟩
        case measure => have := HLJ.out; simp [intOf]; omega
      ·have j2 : ¬ (j : Int) < (k.len : Int) := by omega
       have HNP : Hid (portX k = none) := hHd (by rw [HPX.out, HEJ.out, show j = k.len by omega, Fr.drop_all]; rfl)
       go_wp2
       go_roundw
       case rel => exact ⟨i + 1, HLT.out, by go_num, hHd (by rw [HE.out, refs_drop HG.out.1, if_pos HN.out, HNP.out]), hHd (HC2.out.trans (HWJ.out.mono HC2.out.size))⟩
       case measure => have := HLT.out; simp [intOf]; omega
   ·have h1 : ((txt y.name).toList == [112, 111, 114, 116]) = false := by rw [txt_toList]; exact beq_eq_false_iff_ne.2 hn
    have HN := hHd hn
    clear hn
    go_wp2
    go_roundw
    case rel => exact ⟨i + 1, HLT.out, by go_num, hHd (by rw [HE.out, refs_drop HG.out.1, if_neg HN.out]), HY2⟩
    case measure => have := HLT.out; simp [intOf]; omega
  ·have i2 : ¬ (i : Int) < (f.len : Int) := by omega
   have HX : Hid (RefsX (a, f) = (0, [])) := hHd (by unfold RefsX; rw [show ((a, f) : Nd).2 = f from rfl, HE.out, show i = f.len by omega, Fr.drop_all]; rfl)
   have r5 := (HBW.out.cell 5).trans rfl
   go_wp2
   go_ret2
   rw [HX.out]
   exact ⟨_, rfl, WayV.nil _ _ _ _, HWW.out⟩
end
end Go.Proofs.YtodlhgflfcadmaaGreat
