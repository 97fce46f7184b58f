/- VadFst VadRefD VadNam VadKls VadRfs VadDng RngSeqC VadKid VadIsd VadRut SpvNum SpvOwn SpvFnE SpvChg SpvFnG SpvFnC SpvFnH VadPrs -/
import Derived.Test.YtleidkpdpabkpaaGreatDoorBM21
import Derived.Shelf.RegionOpen
import Derived.LoopNIn
import Derived.LoopIn
import Derived.Maps.OwnIn
import Derived.Laws.EntriesVeiled
set_option linter.unusedSimpArgs false
set_option linter.unusedVariables false
set_option maxRecDepth 100000
set_option maxHeartbeats 8000000
namespace Go.Proofs.YtleidkpdpabkpaaGreatDoor
open Go.RowKit
section
open Go.RowKit Go.Shelf
attribute [local go_sem] Oper.semAt_some
def EncP (b : Bad) (B : Nat) (args : Array Value) (W : World) : Prop := ∃ v, args = #[.agg #[.int .i64 (b.1 : Int), v]] ∧ OwnS B W v b.2
def EncO (o : Option Bad) (B : Nat) (args : Array Value) (W : World) : Prop := ∃ b, o = some b ∧ EncP b B args W
theorem EncP.mono {b : Bad} {B B' : Nat} {args : Array Value} {W : World} (h : EncP b B args W) (hb : B' ≤ B) : EncP b B' args W := by
 obtain ⟨v, h1, h2⟩ := h; exact ⟨v, h1, h2.mono hb⟩
theorem EncO.mono {o : Option Bad} {B B' : Nat} {args : Array Value} {W : World} (h : EncO o B args W) (hb : B' ≤ B) : EncO o B' args W := by
 obtain ⟨b, h1, h2⟩ := h; exact ⟨b, h1, h2.mono hb⟩
theorem EncO.size {o : Option Bad} {B : Nat} {args : Array Value} {W : World} (h : EncO o B args W) : args.size = 1 := by
 obtain ⟨b, _, v, rfl, _⟩ := h; rfl
theorem SeqOne.later {P : Program} {g : Nat} {lb : Array Value} {Enc : Nat → Array Value → World → Prop} {has : Bool} {w w' : World} (h : SeqOne P g lb Enc has w) (hb : Below w.heap.size w w') : SeqOne P g lb Enc has w' :=
 fun l Jx W hW => h l Jx W (hb.trans (hW.mono hb.size))
def FirstP (b : Bad) (w : World) (r : Ending) (w' : World) : Prop := ∃ v, r = .returned (.tuple #[.int .i64 (b.1 : Int), v]) ∧ WayV w'.heap.size w' v b.2 ∧ Below w.heap.size w w'
end
section
attribute [local go_sem] Oper.semAt_some
theorem refs_drop {f : NdF} {i : Nat} {y : NdD} {k : NdF} (h : f.get? i = some (y, k)) : refsF (Fr.drop i f) = if y.name = nPort then (match portX k with | some p => some (26, stp y :: p) | none => refsF (Fr.drop (i + 1) f)) else refsF (Fr.drop (i + 1) f) := by
 rw [(Fr.get_drop h).1]; rfl
theorem rules_drop {all f : NdF} {i : Nat} {y : NdD} {k : NdF} (h : f.get? i = some (y, k)) : rulesX all (Fr.drop i f) = if y.name = nRule ∧ namedB all (gtF clsS k) = false then some [stp y, clsS] else rulesX all (Fr.drop (i + 1) f) := by
 rw [(Fr.get_drop h).1]; rfl
theorem rrefs10_any (a : NdD) (f : NdF) (A : Option Addr) (c : Nat) (w : World) (hrow : RowT w.heap.size w (.slice A f.len c) f) (hf : f.size ≤ 1000000) :
  Calls Tryz.prog 68 #[.agg (cN a (.slice A f.len c))] w (FirstP (RefsX (a, f)) w) := by
 have hx1 : Below w.heap.size w (w.alloc (.cells (cN a (.slice A f.len c)) 42)) := bAl
 have HROW := hHd hrow
 have HF := hHd hf
 have HBK := hHd (Blk.new w 42 (cN a (.slice A f.len c)))
 have HX1 := hHd hx1
 have hlen : f.len ≤ 1000000 := by have := Fr.len_size f; omega
 have hl0 : (f.len : Int) ≤ 1000000 := by omega
 clear hx1 hrow hf
 go_enter Tryz.func68, Tryz.ntmps68
 go_wp2_with fail
 go_loopw [4] (fun v wr => ∃ i : Nat, i ≤ f.len ∧ v = .int .i64 (i : Int) ∧ Hid (refsF f = refsF (Fr.drop i f)) ∧ Hid (Below (w.alloc (.cells (cN a (.slice A f.len c)) 42)).heap.size (w.alloc (.cells (cN a (.slice A f.len c)) 42)) wr)) (fun v _ => f.len - (intOf v).toNat)
 case atStart => exact ⟨0, Nat.zero_le _, rfl, hHd (by cases f <;> rfl), hHd (Below.refl _ _)⟩
 case round =>
  obtain ⟨i, hi, rfl, HE, HW⟩ := hrel
  obtain ⟨w0, hw0⟩ : ∃ w0, w0 = wr := ⟨_, rfl⟩
  subst hw0
  have i1 : (0 : Int) ≤ (i : Int) := by omega
  have HWW : Hid (Below w.heap.size w w0) := hHd (HX1.out.trans (HW.out.mono HX1.out.size))
  have HBW : Hid (Blk w0 w.heap.size 42 (cN a (.slice A f.len c))) := hHd (HBK.out.below HW.out HBK.out.lt)
  by_cases hlt : i < f.len
  ·obtain ⟨y, k, hg⟩ := Fr.get_some hlt
   obtain ⟨g, o, Ay, cy, rfl, -, hnc, hgb, hrk, hcell⟩ := HROW.out.at hg
   have hco : ∀ j u, (ndC y (.slice Ay k.len cy))[j]? = some u → w0.cell? ⟨g, o + i * 6 + j, none⟩ = some u := fun j u hu => (World.cell?_of_block (w := w) (a := ⟨g, o + i * 6 + j, none⟩) (HWW.out.block g hgb)).trans (hcell j u hu)
   have q0 : (w0).cell? ⟨g, o + i * 6, none⟩ = _ := hco 0 _ rfl
   have q1 : (w0).cell? ⟨g, o + i * 6 + 1, none⟩ = _ := hco 1 _ rfl
   have q2 : (w0).cell? ⟨g, o + i * 6 + 2, none⟩ = _ := hco 2 _ rfl
   have q3 : (w0).cell? ⟨g, o + i * 6 + 3, none⟩ = _ := hco 3 _ rfl
   have q4 : (w0).cell? ⟨g, o + i * 6 + 4, none⟩ = _ := hco 4 _ rfl
   have q5 : (w0).cell? ⟨g, o + i * 6 + 5, none⟩ = _ := hco 5 _ rfl
   have q0' : w0.cell? ⟨g, o + i * 6, none⟩ = some (.string (txt y.name)) := q0
   have i2 : (i : Int) < (f.len : Int) := by omega
   have HG := hHd (And.intro hg (And.intro hrk (Fr.size_get hg)))
   have HLT := hHd hlt
   have r5 := (HBW.out.cell 5).trans rfl
   clear hcell hco hrk hg hlt
   have HKB := hHd (Blk.new w0 42 (cN y (.slice Ay k.len cy)))
   obtain ⟨p0, p1, p2, p3, p4, p5⟩ := cl6 HKB.out
   have HY1 : Hid (Below w.heap.size w (w0.alloc (.cells (cN y (.slice Ay k.len cy)) 42))) := hHd (HWW.out.alloc HWW.out.size _)
   have HY2 := hHd (HW.out.alloc HW.out.size (.cells (cN y (.slice Ay k.len cy)) 42))
   by_cases hn : y.name = nPort
   ·have h1 : ((txt y.name).toList == [112, 111, 114, 116]) = true := by rw [txt_toList, hn]; rfl
    have HN := hHd hn
    clear hn
    go_wp2_with fail
    refine (rway10_any [] (.slice none 0 0) y (.slice Ay k.len cy) _ (WayV.nil _ _ _ _) (by simp)).mono ?_
    rintro r w1 ⟨v1, rfl, ho1, hb1⟩
    obtain ⟨A1, c1, rfl⟩ := ho1.shape
    have HK1 := hHd (HKB.out.below hb1 HKB.out.lt)
    have HO1 := hHd (ho1.mono (Nat.zero_le _))
    have HB1 := hHd (HY1.out.trans (hb1.mono HY1.out.size))
    have HC1 := hHd (HY2.out.trans (hb1.mono HY2.out.size))
    have HR1 := hHd (HG.out.2.1.under HB1.out (Nat.le_refl _) HB1.out.size)
    have HKS : Hid (k.size ≤ 1000000) := hHd (by have := HG.out.2.2; have := HF.out; omega)
    clear ho1 hb1 p0 p1 p2 p3 p4 p5 q0 q1 q2 q3 q4 q5 q0' r5 h1
    obtain ⟨p0, p1, p2, p3, p4, p5⟩ := cl6 HK1.out
    go_wp2_with fail
    refine (rnamed10_any y k Ay cy y k Ay cy nDefault _ HR1.out HR1.out HKS.out HKS.out).mono ?_
    rintro r w2 ⟨rfl, hb2⟩
    have HK2 := hHd (HK1.out.below hb2 HK1.out.lt)
    have HO2 := hHd (HO1.out.below hb2)
    have HB2 := hHd (HB1.out.trans (hb2.mono HB1.out.size))
    have HC2 := hHd (HC1.out.trans (hb2.mono HC1.out.size))
    clear hb2 p0 p1 p2 p3 p4 p5
    cases hd : namedB k (gtF (nDefault, []) k) with
    | false =>
     have HX : Hid (RefsX (a, f) = (26, [stp y, defS])) := hHd (by unfold RefsX; rw [show ((a, f) : Nd).2 = f from rfl, HE.out, refs_drop HG.out.1, if_pos HN.out]; unfold portX; rw [if_pos (show namedB k (gtF defS k) = false from hd)]; rfl)
     clear hd
     go_wp2_with fail
     refine (rway10_any [stp y] (.slice A1 1 c1) ⟨nDefault, [], 0, 0, []⟩ (.slice none 0 0) _ HO2.out.way (by simp)).mono ?_
     rintro r w3 ⟨v3, rfl, ho3, hb3⟩
     obtain ⟨A3, c3, rfl⟩ := ho3.shape
     have HV3 := hHd ho3.way
     have HB3 := hHd (HB2.out.trans (hb3.mono HB2.out.size))
     clear ho3 hb3
     go_wp2
     go_ret2
     rw [HX.out]
     exact ⟨_, rfl, HV3.out, HB3.out⟩
    | true =>
     have HPX : Hid (portX k = rulesX k k) := hHd (by unfold portX; rw [if_neg (by rw [show gtF defS k = gtF (nDefault, []) k from rfl, hd]; simp)])
     have hkl : (k.len : Int) ≤ 1000000 := by have := Fr.len_size k; have := HKS.out; omega
     clear hd
     have s5 := (HK2.out.cell 5).trans rfl
     go_wp2_with fail
     clear s5
     go_loopw [7] (fun v wr => ∃ j : Nat, j ≤ k.len ∧ v = .int .i64 (j : Int) ∧ Hid (rulesX k k = rulesX k (Fr.drop j k)) ∧ Hid (Below w2.heap.size w2 wr)) (fun v _ => k.len - (intOf v).toNat)
     case atStart => exact ⟨0, Nat.zero_le _, rfl, hHd (by cases k <;> rfl), hHd (Below.refl _ _)⟩
     case round =>
      obtain ⟨j, hj, rfl, HEJ, HWJ⟩ := hrel
      have j1 : (0 : Int) ≤ (j : Int) := by omega
      have HKJ := hHd (HK2.out.below HWJ.out HK2.out.lt)
      have HBJ := hHd (HB2.out.trans (HWJ.out.mono HB2.out.size))
      have HOJ := hHd (HO2.out.below HWJ.out)
      have s5 := (HKJ.out.cell 5).trans rfl
      by_cases hlt : j < k.len
      ·obtain ⟨z, zk, hg⟩ := Fr.get_some hlt
       obtain ⟨g', o', Az, cz, rfl, -, hnc', hgb', hrz, hzc⟩ := HG.out.2.1.at hg
       simp only at hrz hzc hnc'
       have hzo : ∀ j' u, (ndC z (.slice Az zk.len cz))[j']? = some u → wr.cell? ⟨g', o' + j * 6 + j', none⟩ = some u := fun j' u hu => (World.cell?_of_block (w := w) (a := ⟨g', o' + j * 6 + j', none⟩) (HBJ.out.block g' hgb')).trans (hzc j' u hu)
       have j2 : (j : Int) < (k.len : Int) := by omega
       have n1 : j < k.len := hlt
       have HS0 : Hid (Blk wr.drew w0.heap.size 42 (cN y (.slice (some ⟨g', o', none⟩) k.len cy)) ∧ wr.drew.cell? ⟨g', o' + j * 6, none⟩ = some (.string (txt z.name)) ∧ wr.drew.cell? ⟨g', o' + j * 6 + 1, none⟩ = some (.string (txt z.key)) ∧ wr.drew.cell? ⟨g', o' + j * 6 + 2, none⟩ = some (.int .i64 z.kind) ∧ wr.drew.cell? ⟨g', o' + j * 6 + 3, none⟩ = some (.int .u64 (z.num : Int)) ∧ wr.drew.cell? ⟨g', o' + j * 6 + 4, none⟩ = some (.string (txt z.text)) ∧ wr.drew.cell? ⟨g', o' + j * 6 + 5, none⟩ = some (.slice Az zk.len cz)) := hHd ⟨HKJ.out, hzo 0 _ rfl, hzo 1 _ rfl, hzo 2 _ rfl, hzo 3 _ rfl, hzo 4 _ rfl, hzo 5 _ rfl⟩
       have HGZ := hHd (And.intro hg (And.intro hrz (Fr.size_get hg)))
       have HBD : Hid (Below w.heap.size w wr.drew) := hHd HBJ.out.drew
       have HWD : Hid (Below w2.heap.size w2 wr.drew) := hHd HWJ.out.drew
       have HLJ := hHd hlt
       have HNC := hHd (And.intro hnc hnc')
       clear hzo hzc hrz hg hlt
       by_cases hzr : z.name = nRule
       ·have h2 : ((txt z.name).toList == [114, 117, 108, 101]) = true := by rw [txt_toList, hzr]; rfl
        have HZR := hHd hzr
        clear hzr
        have HRP := hHd (HG.out.2.1.under HBD.out (Nat.le_refl _) HBD.out.size)
        have HRZ := hHd (HGZ.out.2.1.under HBD.out (Nat.le_refl _) HBD.out.size)
        have HZS : Hid (zk.size ≤ 1000000) := hHd (by have := HGZ.out.2.2; have := HKS.out; omega)
        go_wp2_with fail
        refine wp_region_noPanic ?_
        refine wp_region_held_drew (S := fun _ => True) (by kernel_rfl) trivial (fun hS => ?_)
        refine tkH 0 hS ?_
        refine held_more (S' := fun w' => Blk w' w0.heap.size 42 (cN y (.slice (some ⟨g', o', none⟩) k.len cy)) ∧ w'.cell? ⟨g', o' + j * 6, none⟩ = some (.string (txt z.name)) ∧ w'.cell? ⟨g', o' + j * 6 + 1, none⟩ = some (.string (txt z.key)) ∧ w'.cell? ⟨g', o' + j * 6 + 2, none⟩ = some (.int .i64 z.kind) ∧ w'.cell? ⟨g', o' + j * 6 + 3, none⟩ = some (.int .u64 (z.num : Int)) ∧ w'.cell? ⟨g', o' + j * 6 + 4, none⟩ = some (.string (txt z.text)) ∧ w'.cell? ⟨g', o' + j * 6 + 5, none⟩ = some (.slice Az zk.len cz)) (fun _ _ => trivial) _ _ _ _ ?_
        replace hS := HS0.out
        refine tkH 1 hS ?_ (hy := fun w hSw => by have s5 := (hSw.1.cell 5).trans rfl; (go_simp <;> with_reducible rfl))
        refine tkH 2 hS ?_
        refine tkH 3 hS ?_
        refine tkH 4 hS ?_
        refine tkH 5 hS ?_ (hy := fun w hSw => by have z0 := hSw.2.1; (go_simp <;> with_reducible rfl))
        refine tkH 6 hS ?_
        refine tkH 7 hS ?_
        refine tkH 8 hS ?_ (hy := fun w hSw => by obtain ⟨s0, s1, s2, s3, s4, s5⟩ := cl6 hSw.1; (go_simp <;> with_reducible rfl))
        refine tkH 9 hS ?_
        refine tkH 10 hS ?_ (hy := fun w hSw => by have s5 := (hSw.1.cell 5).trans rfl; (go_simp <;> with_reducible rfl))
        refine tkH 11 hS ?_
        refine tkH 12 hS ?_
        refine tkH 13 hS ?_ (hy := fun w hSw => by have z0 := hSw.2.1; have z1 := hSw.2.2.1; have z2 := hSw.2.2.2.1; have z3 := hSw.2.2.2.2.1; have z4 := hSw.2.2.2.2.2.1; have z5 := hSw.2.2.2.2.2.2; (go_simp <;> with_reducible rfl))
        refine rdy1 14 fun K hK => ?_
        go_simp
        refine (rnamed10_any y k _ cy z zk Az cz nClass _ HRP.out HRZ.out HKS.out HZS.out).mono ?_
        rintro r w5 ⟨rfl, hb5⟩
        have HB5 := hHd hb5
        have HS5 : Hid (Blk w5 w0.heap.size 42 (cN y (.slice (some ⟨g', o', none⟩) k.len cy)) ∧ w5.cell? ⟨g', o' + j * 6, none⟩ = some (.string (txt z.name)) ∧ w5.cell? ⟨g', o' + j * 6 + 1, none⟩ = some (.string (txt z.key)) ∧ w5.cell? ⟨g', o' + j * 6 + 2, none⟩ = some (.int .i64 z.kind) ∧ w5.cell? ⟨g', o' + j * 6 + 3, none⟩ = some (.int .u64 (z.num : Int)) ∧ w5.cell? ⟨g', o' + j * 6 + 4, none⟩ = some (.string (txt z.text)) ∧ w5.cell? ⟨g', o' + j * 6 + 5, none⟩ = some (.slice Az zk.len cz)) := hHd (by
         have hc : ∀ (q : Nat) (u : Value), wr.drew.cell? ⟨g', q, none⟩ = some u → w5.cell? ⟨g', q, none⟩ = some u := fun q u hu => (World.cell?_of_block (w := wr.drew) (a := ⟨g', q, none⟩) (hb5.block g' (Nat.lt_of_lt_of_le hgb' HBD.out.size))).trans hu
         exact ⟨HS0.out.1.below hb5 HS0.out.1.lt, hc _ _ HS0.out.2.1, hc _ _ HS0.out.2.2.1, hc _ _ HS0.out.2.2.2.1, hc _ _ HS0.out.2.2.2.2.1, hc _ _ HS0.out.2.2.2.2.2.1, hc _ _ HS0.out.2.2.2.2.2.2⟩)
        clear hb5
        go_wp2_with fail
        refine hK.out _ _ ?sr_0 (fun hS => ?_)
        case sr_0 => (exact HS5.out)
        clear hK K
        (try simp only [Act.put, layS])
        refine tkH 15 hS ?_
        refine tkH 16 hS ?_
        refine wpAnyH_done (by kernel_rfl) ?_ _
        refine NoPanic.normal ?_
        clear hS
        have HO5 : Hid (OwnS 0 w5 (.slice A1 1 c1) [stp y]) := hHd ((HOJ.out.below (Below.refl _ _).drew).below HB5.out)
        have HW5 : Hid (Below w.heap.size w w5) := hHd (HBD.out.trans (HB5.out.mono HBD.out.size))
        have HV5 : Hid (Below w2.heap.size w2 w5) := hHd (HWD.out.trans (HB5.out.mono HWD.out.size))
        cases hb : namedB k (gtF (nClass, []) zk) with
        | false =>
         have HX : Hid (RefsX (a, f) = (26, [stp y, stp z, clsS])) := hHd (by
          unfold RefsX
          rw [show ((a, f) : Nd).2 = f from rfl, HE.out, refs_drop HG.out.1, if_pos HN.out, HPX.out, HEJ.out, rules_drop HGZ.out.1, if_pos ⟨HZR.out, hb⟩]
          rfl)
         clear hb
         have s5 := (HS5.out.1.cell 5).trans rfl
         have z0 := HS5.out.2.1
         have z1 := HS5.out.2.2.1
         have z2 := HS5.out.2.2.2.1
         have z3 := HS5.out.2.2.2.2.1
         have z4 := HS5.out.2.2.2.2.2.1
         have z5 := HS5.out.2.2.2.2.2.2
         go_wp2_with fail
         refine (rway10_any [stp y] (.slice A1 1 c1) z (.slice Az zk.len cz) _ HO5.out.way (by simp)).mono ?_
         rintro r w6 ⟨v6, rfl, ho6, hb6⟩
         obtain ⟨A6, c6, rfl⟩ := ho6.shape
         have HO6 := hHd ho6
         have HB6 := hHd (HW5.out.trans (hb6.mono HW5.out.size))
         clear ho6 hb6 s5 z0 z1 z2 z3 z4 z5
         go_wp2_with fail
         refine (rway10_any [stp y, stp z] (.slice A6 2 c6) ⟨nClass, [], 0, 0, []⟩ (.slice none 0 0) _ HO6.out.way (by simp)).mono ?_
         rintro r w7 ⟨v7, rfl, ho7, hb7⟩
         obtain ⟨A7, c7, rfl⟩ := ho7.shape
         have HV7 := hHd ho7.way
         have HB7 := hHd (HB6.out.trans (hb7.mono HB6.out.size))
         clear ho7 hb7
         go_wp2
         go_ret2
         rw [HX.out]
         exact ⟨_, rfl, HV7.out, HB7.out⟩
        | true =>
         have HEN : Hid (rulesX k k = rulesX k (Fr.drop (j + 1) k)) := hHd (by rw [HEJ.out, rules_drop HGZ.out.1, if_neg (fun h => by have h3 := h.2; rw [show gtF clsS zk = gtF (nClass, []) zk from rfl, hb] at h3; cases h3)])
         clear hb
         go_wp2
         go_roundw
         case rel => exact ⟨j + 1, HLJ.out, by go_num, HEN, HV5⟩
         case measure => have := HLJ.out; simp [intOf]; omega
       ·have h2 : ((txt z.name).toList == [114, 117, 108, 101]) = false := by rw [txt_toList]; exact beq_eq_false_iff_ne.2 hzr
        have HZR := hHd hzr
        clear hzr
        go_wp2_with fail
        refine wp_region_noPanic ?_
        refine wp_region_held_drew (S := fun _ => True) (by kernel_rfl) trivial (fun hS => ?_)
        refine tkH 0 hS ?_
        refine held_more (S' := fun w' => Blk w' w0.heap.size 42 (cN y (.slice (some ⟨g', o', none⟩) k.len cy)) ∧ w'.cell? ⟨g', o' + j * 6, none⟩ = some (.string (txt z.name)) ∧ w'.cell? ⟨g', o' + j * 6 + 1, none⟩ = some (.string (txt z.key)) ∧ w'.cell? ⟨g', o' + j * 6 + 2, none⟩ = some (.int .i64 z.kind) ∧ w'.cell? ⟨g', o' + j * 6 + 3, none⟩ = some (.int .u64 (z.num : Int)) ∧ w'.cell? ⟨g', o' + j * 6 + 4, none⟩ = some (.string (txt z.text)) ∧ w'.cell? ⟨g', o' + j * 6 + 5, none⟩ = some (.slice Az zk.len cz)) (fun _ _ => trivial) _ _ _ _ ?_
        replace hS := HS0.out
        refine tkH 1 hS ?_ (hy := fun w hSw => by have s5 := (hSw.1.cell 5).trans rfl; (go_simp <;> with_reducible rfl))
        refine tkH 2 hS ?_
        refine tkH 3 hS ?_
        refine tkH 4 hS ?_
        refine tkH 5 hS ?_ (hy := fun w hSw => by have z0 := hSw.2.1; (go_simp <;> with_reducible rfl))
        refine tkH 6 hS ?_
        refine tkH 7 hS ?_
        refine tkHo 8 hS ?_
        refine tkHo 9 hS ?_
        refine tkHo 10 hS ?_
        refine tkHo 11 hS ?_
        refine tkHo 12 hS ?_
        refine tkHo 13 hS ?_
        refine tkHo 14 hS ?_
        refine tkHo 15 hS ?_
        refine tkH 16 hS ?_
        refine wpAnyH_done (by kernel_rfl) ?_ _
        refine NoPanic.normal ?_
        clear hS
        go_wp2
        go_roundw
        case rel => exact ⟨j + 1, HLJ.out, by go_num, hHd (by rw [HEJ.out, rules_drop HGZ.out.1, if_neg (fun h => HZR.out h.1)]), HWD⟩
        case measure => have := HLJ.out; simp [intOf]; omega
      ·have j2 : ¬ (j : Int) < (k.len : Int) := by omega
       have HNP : Hid (portX k = none) := hHd (by rw [HPX.out, HEJ.out, show j = k.len by omega, Fr.drop_all]; rfl)
       go_wp2
       go_roundw
       case rel => exact ⟨i + 1, HLT.out, by go_num, hHd (by rw [HE.out, refs_drop HG.out.1, if_pos HN.out, HNP.out]), hHd (HC2.out.trans (HWJ.out.mono HC2.out.size))⟩
       case measure => have := HLT.out; simp [intOf]; omega
   ·have h1 : ((txt y.name).toList == [112, 111, 114, 116]) = false := by rw [txt_toList]; exact beq_eq_false_iff_ne.2 hn
    have HN := hHd hn
    clear hn
    go_wp2
    go_roundw
    case rel => exact ⟨i + 1, HLT.out, by go_num, hHd (by rw [HE.out, refs_drop HG.out.1, if_neg HN.out]), HY2⟩
    case measure => have := HLT.out; simp [intOf]; omega
  ·have i2 : ¬ (i : Int) < (f.len : Int) := by omega
   have HX : Hid (RefsX (a, f) = (0, [])) := hHd (by unfold RefsX; rw [show ((a, f) : Nd).2 = f from rfl, HE.out, show i = f.len by omega, Fr.drop_all]; rfl)
   have r5 := (HBW.out.cell 5).trans rfl
   go_wp2
   go_ret2
   rw [HX.out]
   exact ⟨_, rfl, WayV.nil _ _ _ _, HWW.out⟩
end
section
attribute [local go_sem] Oper.semAt_some
theorem KeepN.at {N : Nat → Prop} {m : Nat} {A B : World} (h : KeepN N m A B) {k : Nat} (hk : N k) (hlt : k < A.heap.size) : B.heap[k]? = A.heap[k]? := h.block k hlt (.inl hk)
theorem KeepN.lie {N : Nat → Prop} {m b : Nat} {A B : World} (h : KeepN N m A B) {cs : List Value} {x : Nd} (hx : LieB b A cs x) (hk : ∀ k, k < b → N k) (hb : b ≤ A.heap.size) : LieB b B cs x :=
 hx.keep (fun g hg => h.at (hk g hg) (by omega)) (Nat.le_refl _)
end
theorem RTreP.flat {a : NdD} {f : NdF} {u : Value} {w : World} {r : Ending} {w' : World} (h : RTreP (a, f) u w r w') : ∃ A c, r = .returned (.tuple #[.agg (cN a (.slice A f.len c)), u]) ∧ LieN w' (ndC a (.slice A f.len c)) (a, f) ∧ Below w.heap.size w w' := by
 obtain ⟨cs, rfl, h2, h3⟩ := h
 obtain ⟨A, c, rfl, _⟩ := h2.shape
 exact ⟨A, c, rfl, h2, h3⟩
theorem NewT.p {base : Nat} {w : World} {cs : List Value} {x : Nd} (h : NewT base w cs x) : LieP 0 base w cs x := by
 obtain ⟨S, h1, h2, h3, v, h4, h5⟩ := h
 exact FrN.mono stay_nd ⟨h2, h3.1, v, h4, h5.plain⟩ (fun g hg => .inr ⟨(h1 g hg).1, (h1 g hg).lt⟩) (fun _ h => h)
theorem TreP.p {x : Nd} {u : Value} {w : World} {r : Ending} {w' : World} (h : TreP x u w r w') : PTreP 0 x u w r w' := by
 obtain ⟨cs, h1, h2, h3⟩ := h; exact ⟨cs, h1, h2.p, h3⟩
section
attribute [local go_sem] Oper.semAt_some
theorem LieB.row9 {b : Nat} {w : World} {a : NdD} {f : NdF} {A : Option Addr} {c : Nat} (h : LieB b w (ndC a (.slice A f.len c)) (a, f)) : RowT b w (.slice A f.len c) f := LieB.row h
end
section
attribute [local go_sem] Oper.semAt_some
theorem OwnS.cells {base : Nat} {w : World} {v : Value} {l : List Stp} (h : OwnS base w v l) : ∀ r, v.ownBlock = some r → ∃ o : Obj, w.heap[r]? = some o ∧ o.isCells = true := by
 intro r hr
 rcases h.2 with ⟨rfl, _⟩ | ⟨g, cap, cur, rfl, _, hg, _⟩
 ·simp [Value.ownBlock] at hr
 ·obtain rfl : g = r := by simpa [Value.ownBlock] using hr
  exact ⟨_, hg, rfl⟩
end
inductive Marks (B : Nat) (W : World) : List Deferred → Prop
 | nil : Marks B W []
 | cons {D : Nat} {ds : List Deferred} : B ≤ D → W.heap[D]? = some (.deferred (some [])) → (∀ d ∈ ds, ∃ D', d.target = .collected D' ∧ D' < D) → Marks B W ds → Marks B W ({ target := .collected D, args := #[] } :: ds)
theorem Marks.keep {B : Nat} {W W' : World} {ds : List Deferred} (h : Marks B W ds) (hk : KeepsFrom B W W') : Marks B W' ds := by
 induction h with
 | nil => exact .nil
 | cons h1 h2 h3 _ ih => exact .cons h1 (hk.same _ _ h1 h2 rfl) h3 ih
theorem Marks.lt {B : Nat} {W : World} {ds : List Deferred} (h : Marks B W ds) : ∀ d ∈ ds, ∃ D', d.target = .collected D' ∧ D' < W.heap.size := by
 induction h with
 | nil => intro d hd; cases hd
 | cons h1 h2 h3 _ ih =>
  intro d hd
  rcases List.mem_cons.1 hd with rfl | hd
  ·exact ⟨_, rfl, (Array.getElem?_eq_some_iff.1 h2).1⟩
  ·exact ih d hd
theorem Marks.put {B D : Nat} {W : World} {ds : List Deferred} (h : Marks B W ds) (o : Obj) (hd : ∀ d ∈ ds, ∃ D', d.target = .collected D' ∧ D' < D) : Marks B (W.putObj D o) ds := by
 induction h with
 | nil => exact .nil
 | cons h1 h2 h3 _ ih =>
  obtain ⟨D', e, hlt⟩ := hd _ (List.mem_cons_self ..)
  injection e with e
  subst e
  exact .cons h1 ((World.putObj_heap_other (by omega)).trans h2) h3 (ih fun d hm => hd d (by simp [hm]))
section
attribute [local go_sem] Oper.semAt_some
def SpL (b : Nat) (w : World) (cs : List Value) (x : Sp) : Prop := SpN w (fun g => g < b) (fun g => g < b) cs x
theorem SpL.keep {b b' : Nat} {w w' : World} {cs : List Value} {x : Sp} (h : SpL b w cs x) (hk : ∀ g, g < b → w'.heap[g]? = w.heap[g]?) (hb : b ≤ b') : SpL b' w' cs x :=
 FrN.kept stay_spc h hk (fun g hg => Nat.lt_of_lt_of_le hg hb) hk (fun g hg => Nat.lt_of_lt_of_le hg hb)
def SpOk : SpF → Prop
 | .nil => True
 | .cons a k r => a.names.length ≤ 1000000 ∧ k.len ≤ 1000000 ∧ SpOk k ∧ SpOk r
theorem SpOk.at {f : SpF} : ∀ {i : Nat} {y : Sp}, SpOk f → f.get? i = some y → y.1.names.length ≤ 1000000 ∧ y.2.len ≤ 1000000 ∧ SpOk y.2 := by
 induction f with
 | nil => intro i y _ h; cases h
 | cons a k r _ ih =>
  intro i y hf h
  cases i with
  | zero => injection h with h; subst h; exact ⟨hf.1, hf.2.1, hf.2.2.1⟩
  | succ i => exact ih hf.2.2.2 h
def cntC (c : List Nat) : Array Value := (c.map fun n : Nat => Value.int .i64 (n : Int)).toArray
theorem cnt_at {c : List Nat} {i : Nat} (h : i < c.length) : (cntC c)[i]? = some (.int .i64 ((c.getD i 0 : Nat) : Int)) := by
 unfold cntC
 simp [h, List.getD_eq_getElem?_getD]
theorem cnt_bump {c : List Nat} {i : Nat} (h : i < c.length) : (cntC c).setIfInBounds i (.int .i64 ((c.getD i 0 : Nat) + 1 : Int)) = cntC (bump c i) := by
 unfold cntC bump
 simp [List.getD_eq_getElem?_getD, h, List.map_set]
def kidO10 (s : SpF) (a : NdD) (k : NdF) (c : List Nat) : Option Bad := match findX a.name s with
 | none => some (22, [])
 | some i => match s.get? i with
  | none => none
  | some y => kidX1 y a k (c.getD i 0)
def kidC10 (s : SpF) (a : NdD) (c : List Nat) : List Nat := match findX a.name s with
 | none => c
 | some i => bump c i
end
section
attribute [local go_sem] Oper.semAt_some
theorem Tryz.infoI : (Tryz.prog.info? 3).map (fun i => (i.zero, i.size, i.bytes)) = some (some (.int .i64 0), 1, 8) := by kernel_rfl
theorem made_cnt (L : Nat) : madeCells #[Value.int .i64 0] (L * 1) = cntC (List.replicate L 0) := by
 apply Array.toList_inj.1
 rw [toList_madeCells_one]
 unfold cntC
 simp
theorem run_had (w : World) (L : Nat) (hL : L ≤ 1000000) : (Instr.makeSlice 36 (.int .i64 (L : Int)) (.int .i64 (L : Int))).run Tryz.prog w = .ok (.slice (some ⟨w.heap.size, 0, none⟩) L L) (w.alloc (.cells (cntC (List.replicate L 0)) 3)) := by
 obtain ⟨i, hi, hz0, hz1, hz2⟩ := info_parts Tryz.infoI
 have h := run_make (P := Tryz.prog) w 36 3 i (.int .i64 0) Tryz.underlying36 hi hz0 .i64 .i64 (L : Int) (L : Int) (by omega) (by omega) (by rw [hz2]; omega) (by omega)
 rw [hz1] at h
 simp only [Int.toNat_natCast] at h
 rw [h]
 have e : (Value.int .i64 0).cells = #[Value.int .i64 0] := rfl
 rw [e, made_cnt]
theorem scan_drop {f : NdF} {i : Nat} {a : NdD} {k : NdF} (h : f.get? i = some (a, k)) (s : SpF) (c : List Nat) : scanF (Fr.drop i f) s c = match under a (kidO10 s a k c) with
  | some b => some b
  | none => scanF (Fr.drop (i + 1) f) s (kidC10 s a c) := by
 rw [(Fr.get_drop h).1]
 unfold kidO10 kidC10
 cases hf : findX a.name s with
 | none => rw [scan_name hf]; rfl
 | some j =>
  obtain ⟨y, hy, _⟩ := sp_get hf
  rw [scan_cons hf hy]
  simp only [hy]
  cases under a (kidX1 y a k (c.getD j 0)) <;> rfl
theorem drop0 (f : NdF) : Fr.drop 0 f = f := by cases f <;> rfl
theorem inside_zero (s : SpF) (f : NdF) : insideX s f = scanF (Fr.drop 0 f) s (List.replicate s.len 0) := by
 rw [drop0]
 rfl
theorem lack_drop {s : SpF} {c : List Nat} {j : Nat} {d : SpD} {k : SpF} (h : s.get? j = some (d, k)) : lackX (Fr.drop j s) (c.drop j) = if d.must = true ∧ c.getD j 0 = 0 then some (25, [(d.name, [])]) else lackX (Fr.drop (j + 1) s) (c.drop (j + 1)) := by
 rw [(Fr.get_drop h).1]
 show (if d.must = true ∧ (c.drop j).headD 0 = 0 then _ else lackX _ (c.drop j).tail) = _
 rw [List.tail_drop, List.headD_eq_head?_getD, List.head?_drop, List.getD_eq_getElem?_getD]
end
section
attribute [local go_sem] Oper.semAt_some
theorem root_dec (a : NdD) (f : NdF) (h : rgtX (a, f) = true) : rootB (a, f) = (decide (a.name = [] ∧ a.key = []) && decide (a.kind = 0 ∧ a.num = 0 ∧ a.text = [])) := by
 unfold rootB
 rw [h, Bool.true_and]
 have e : ((a, f) : Nd).1 = zeroT ↔ (a.name = [] ∧ a.key = []) ∧ a.kind = 0 ∧ a.num = 0 ∧ a.text = [] := by
  obtain ⟨nm, ky, kd, nu, tx⟩ := a
  simp only [zeroT, NdD.mk.injEq]
  constructor
  ·rintro ⟨h1, h2, h3, h4, h5⟩; exact ⟨⟨h1, h2⟩, h3, h4, h5⟩
  ·rintro ⟨⟨h1, h2⟩, h3, h4, h5⟩; exact ⟨h1, h2, h3, h4, h5⟩
 rw [← Bool.decide_and]
 exact decide_eq_decide.2 e
end
structure ChD where
 kind : Nat
 name : List UInt8
 kid : SpD
abbrev ChF := Fr ChD
def SKeeps (base : Nat) (F : List Nat) (w w' : World) : Prop := Below base w w' ∧ ∀ g, g < w.heap.size → g ∉ F → w'.heap[g]? = w.heap[g]?
theorem SKeeps.refl (base : Nat) (F : List Nat) (w : World) : SKeeps base F w w := ⟨Below.refl _ _, fun _ _ _ => rfl⟩
theorem SKeeps.trans {base : Nat} {F G : List Nat} {a b c : World} (h : SKeeps base F a b) (k : SKeeps base G b c) (hG : ∀ g, g ∈ G → g ∈ F ∨ a.heap.size ≤ g) : SKeeps base F a c :=
 ⟨h.1.trans k.1, fun g hg hF => (k.2 g (Nat.lt_of_lt_of_le hg h.1.size) (fun hm => by rcases hG g hm with h' | h'; exact hF h'; omega)).trans (h.2 g hg hF)⟩
theorem SpcD.last {w : World} {R : Nat → Prop} {hd : List Value} {v v' : Value} {a : SpD} (h : SpcD w R (hd ++ [v]) a) (hv : v'.oneCell' = true) : SpcD w R (hd ++ [v']) a := by
 obtain ⟨nv, kv, d, e, h2, h3, h4⟩ := h
 have e2 : hd ++ [v] = [.string (txt a.name), .int .i64 (a.kind : Int), .int .i64 (a.typ : Int), .int .u64 (a.low : Int), .int .u64 (a.high : Int), nv, .bool a.must, .int .i64 (a.most : Int)] ++ [kv] := e
 obtain ⟨e3, -⟩ := List.append_inj' e2 rfl
 exact ⟨nv, v', d, by rw [e3]; rfl, h2, h3, hv⟩
theorem SpcD.len {w : World} {R : Nat → Prop} {cs : List Value} {a : SpD} (h : SpcD w R cs a) : cs.length = 9 := by
 obtain ⟨nv, kv, d, e, _⟩ := h
 rw [e]; rfl
theorem Blk.later {w0 w w' : World} {g : Nat} {t : TypeId} {cs : Array Value} (h : Blk w0 g t cs) (hb : Below w.heap.size w w') (e : w.heap = w0.heap) : Blk w' g t cs := by
 have h2 : Blk w g t cs := by unfold Blk at h ⊢; rw [e]; exact h
 exact h2.below hb h2.lt
theorem Blk.same {w w' : World} {g : Nat} {t : TypeId} {cs : Array Value} (h : Blk w g t cs) (e : w'.heap[g]? = w.heap[g]?) : Blk w' g t cs := e.trans h
theorem drop_zero (f : ChF) : Fr.drop 0 f = f := by cases f <;> rfl
theorem drop_cons {f : ChF} {j : Nat} {d : ChD} {k : ChF} (h : f.get? j = some (d, k)) : Fr.drop j f = .cons d k (Fr.drop (j + 1) f) := (Fr.get_drop h).1
abbrev lf (a : SpD) : List Value := spC a (.slice none 0 0) (.slice none 0 0)
abbrev ls (a : SpD) (g n : Nat) : List Value := spC a (.slice none 0 0) (.slice (some ⟨g, 0, none⟩) n n)
def Rw (lo base : Nat) (w : World) (g : Nat) : Prop := lo ≤ g ∧ Fresh base w g
theorem Rw.below {lo base : Nat} {w w' : World} {g : Nat} (h : Rw lo base w g) (hb : Below w.heap.size w w') : Rw lo base w' g := ⟨h.1, h.2.below hb⟩
theorem Rw.of {lo base : Nat} {w : World} {g : Nat} {t : TypeId} {cs : Array Value} (h : Blk w g t cs) (h1 : lo ≤ g) (h2 : base ≤ g) : Rw lo base w g := ⟨h1, h2, cs, t, h⟩
theorem Rw.lt {lo base : Nat} {w : World} {g : Nat} (h : Rw lo base w g) : g < w.heap.size := h.2.lt
theorem SpcD.below {w w' : World} {lo base : Nat} {cs : List Value} {a : SpD} (h : SpcD w (Rw lo base w) cs a) (hb : Below w.heap.size w w') : SpcD w' (Rw lo base w') cs a := stay_spc _ _ _ _ _ _ (fun g hg => hb.block g hg.lt) (fun g hg => hg.below hb) h
section
attribute [local go_sem] Oper.semAt_some
def spOkB : SpF → Bool
 | .nil => true
 | .cons a k r => decide (a.names.length ≤ 1000000) && decide (k.len ≤ 1000000) && spOkB k && spOkB r
theorem spOk_of : ∀ {f : SpF}, spOkB f = true → SpOk f := by
 intro f
 induction f with
 | nil => intro _; trivial
 | cons a k r ihk ihr =>
  intro h
  simp only [spOkB, Bool.and_eq_true, decide_eq_true_eq] at h
  exact ⟨h.1.1.1, h.1.1.2, ihk h.1.2, ihr h.2⟩
theorem root_ok (v : Int) : SpOk (rootX v).1.2 ∧ (rootX v).1.2.len ≤ 1000000 := by
 unfold rootX
 split
 ·exact ⟨trivial, by decide⟩
 ·rename_i h
  have h' : v = 1 ∨ v = 2 ∨ v = 3 := by omega
  rcases h' with rfl | rfl | rfl
  ·exact ⟨spOk_of (by decide), by decide⟩
  ·exact ⟨spOk_of (by decide), by decide⟩
  ·exact ⟨spOk_of (by decide), by decide⟩
end
end Go.Proofs.YtleidkpdpabkpaaGreatDoor
