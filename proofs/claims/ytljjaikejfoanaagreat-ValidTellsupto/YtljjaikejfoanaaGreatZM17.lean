/- What ValidTells stands on: VadRefD. -/
import Derived.Test.YtljjaikejfoanaaGreatZM0
import Derived.Test.YtljjaikejfoanaaGreatZM15
import Derived.Test.YtljjaikejfoanaaGreatZM16
set_option linter.unusedSimpArgs false
set_option linter.unusedVariables false
namespace Go.Proofs.YtljjaikejfoanaaGreat
open Go.RowKit
attribute [local go_sem] Oper.semAt_some
theorem refs_drop {f : NdF} {i : Nat} {y : NdD} {k : NdF} (h : f.get? i = some (y, k)) : refsF (Fr.drop i f) = if y.name = nPort then (match portX k with | some p => some (26, stp y :: p) | none => refsF (Fr.drop (i + 1) f)) else refsF (Fr.drop (i + 1) f) := by
  rw [(Fr.get_drop h).1]; rfl
theorem rules_drop {all f : NdF} {i : Nat} {y : NdD} {k : NdF} (h : f.get? i = some (y, k)) : rulesX all (Fr.drop i f) = if y.name = nRule ∧ namedB all (gtF clsS k) = false then some [stp y, clsS] else rulesX all (Fr.drop (i + 1) f) := by
  rw [(Fr.get_drop h).1]; rfl
set_option maxRecDepth 100000 in
set_option maxHeartbeats 8000000 in
theorem rrefs10_any (a : NdD) (f : NdF) (A : Option Addr) (c : Nat) (w : World) (hrow : RowT w.heap.size w (.slice A f.len c) f) (hf : f.size ≤ 1000000) :
    Calls Tryz.prog 11 #[.agg #[.string (txt a.name), .string (txt a.key), .int .i64 a.kind, .int .u64 (a.num : Int), .string (txt a.text), .slice A f.len c]] w (FirstP (RefsX (a, f)) w) := by
  have hx1 : Below w.heap.size w (w.alloc (.cells #[.string (txt a.name), .string (txt a.key), .int .i64 a.kind, .int .u64 (a.num : Int), .string (txt a.text), .slice A f.len c] 27)) := (Below.refl _ _).alloc (Nat.le_refl _) _
  have HROW := Lib.hid hrow
  have HF := Lib.hid hf
  have HBK := Lib.hid (Blk.new w 27 #[.string (txt a.name), .string (txt a.key), .int .i64 a.kind, .int .u64 (a.num : Int), .string (txt a.text), .slice A f.len c])
  have HX1 := Lib.hid hx1
  have hlen : f.len ≤ 1000000 := by have := Fr.len_size f; omega
  have hl0 : (f.len : Int) ≤ 1000000 := by omega
  clear hx1 hrow hf
  go_enter Tryz.func11, Tryz.ntmps11
  go_wp2_with fail
  go_loopw [4] (fun v wr => ∃ i : Nat, i ≤ f.len ∧ v = .int .i64 (i : Int) ∧ Hid (refsF f = refsF (Fr.drop i f)) ∧ Hid (Below (w.alloc (.cells #[.string (txt a.name), .string (txt a.key), .int .i64 a.kind, .int .u64 (a.num : Int), .string (txt a.text), .slice A f.len c] 27)).heap.size (w.alloc (.cells #[.string (txt a.name), .string (txt a.key), .int .i64 a.kind, .int .u64 (a.num : Int), .string (txt a.text), .slice A f.len c] 27)) wr)) (fun v _ => f.len - (intOf v).toNat)
  case atStart => exact ⟨0, Nat.zero_le _, rfl, Lib.hid (by cases f <;> rfl), Lib.hid (Below.refl _ _)⟩
  case round =>
    obtain ⟨i, hi, rfl, HE, HW⟩ := hrel
    obtain ⟨w0, hw0⟩ : ∃ w0, w0 = wr := ⟨_, rfl⟩
    subst hw0
    have i1 : (0 : Int) ≤ (i : Int) := by omega
    have HWW : Hid (Below w.heap.size w w0) := Lib.hid (HX1.out.trans (HW.out.mono HX1.out.size))
    have HBW : Hid (Blk w0 w.heap.size 27 #[.string (txt a.name), .string (txt a.key), .int .i64 a.kind, .int .u64 (a.num : Int), .string (txt a.text), .slice A f.len c]) := Lib.hid (HBK.out.below HW.out HBK.out.lt)
    by_cases hlt : i < f.len
    · obtain ⟨y, k, hg⟩ := Fr.get_some hlt
      obtain ⟨g, o, Ay, cy, rfl, -, hnc, hgb, hrk, hcell⟩ := HROW.out.at hg
      have hco : ∀ j u, (ndC y (.slice Ay k.len cy))[j]? = some u → w0.cell? ⟨g, o + i * 6 + j, none⟩ = some u := fun j u hu => (World.cell?_of_block (w := w) (a := ⟨g, o + i * 6 + j, none⟩) (HWW.out.block g hgb)).trans (hcell j u hu)
      have q0 : (w0).cell? ⟨g, o + i * 6, none⟩ = _ := hco 0 _ rfl
      have q1 : (w0).cell? ⟨g, o + i * 6 + 1, none⟩ = _ := hco 1 _ rfl
      have q2 : (w0).cell? ⟨g, o + i * 6 + 2, none⟩ = _ := hco 2 _ rfl
      have q3 : (w0).cell? ⟨g, o + i * 6 + 3, none⟩ = _ := hco 3 _ rfl
      have q4 : (w0).cell? ⟨g, o + i * 6 + 4, none⟩ = _ := hco 4 _ rfl
      have q5 : (w0).cell? ⟨g, o + i * 6 + 5, none⟩ = _ := hco 5 _ rfl
      have q0' : w0.cell? ⟨g, o + i * 6, none⟩ = some (.string (txt y.name)) := q0
      have i2 : (i : Int) < (f.len : Int) := by omega
      have HG := Lib.hid (And.intro hg (And.intro hrk (Fr.size_get hg)))
      have HLT := Lib.hid hlt
      have r5 := (HBW.out.cell 5).trans rfl
      clear hcell hco hrk hg hlt
      have HKB := Lib.hid (Blk.new w0 27 #[.string (txt y.name), .string (txt y.key), .int .i64 y.kind, .int .u64 (y.num : Int), .string (txt y.text), .slice Ay k.len cy])
      have p0 := (HKB.out.cell 0).trans rfl
      have p1 := (HKB.out.cell 1).trans rfl
      have p2 := (HKB.out.cell 2).trans rfl
      have p3 := (HKB.out.cell 3).trans rfl
      have p4 := (HKB.out.cell 4).trans rfl
      have p5 := (HKB.out.cell 5).trans rfl
      have HY1 : Hid (Below w.heap.size w (w0.alloc (.cells #[.string (txt y.name), .string (txt y.key), .int .i64 y.kind, .int .u64 (y.num : Int), .string (txt y.text), .slice Ay k.len cy] 27))) := Lib.hid (HWW.out.alloc HWW.out.size _)
      have HY2 := Lib.hid (HW.out.alloc HW.out.size (.cells #[.string (txt y.name), .string (txt y.key), .int .i64 y.kind, .int .u64 (y.num : Int), .string (txt y.text), .slice Ay k.len cy] 27))
      by_cases hn : y.name = nPort
      · have h1 : ((txt y.name).toList == [112, 111, 114, 116]) = true := by rw [txt_toList, hn]; rfl
        have HN := Lib.hid hn
        clear hn
        go_wp2_with fail
        refine (rway10_any [] (.slice none 0 0) y (.slice Ay k.len cy) _ (WayV.nil _ _ _ _) (by simp)).mono ?_
        rintro r w1 ⟨v1, rfl, ho1, hb1⟩
        obtain ⟨A1, c1, rfl⟩ := ho1.shape
        have HK1 := Lib.hid (HKB.out.below hb1 HKB.out.lt)
        have HO1 := Lib.hid (ho1.mono (Nat.zero_le _))
        have HB1 := Lib.hid (HY1.out.trans (hb1.mono HY1.out.size))
        have HC1 := Lib.hid (HY2.out.trans (hb1.mono HY2.out.size))
        have HR1 := Lib.hid (HG.out.2.1.under HB1.out (Nat.le_refl _) HB1.out.size)
        have HKS : Hid (k.size ≤ 1000000) := Lib.hid (by have := HG.out.2.2; have := HF.out; omega)
        clear ho1 hb1 p0 p1 p2 p3 p4 p5 q0 q1 q2 q3 q4 q5 q0' r5 h1
        have p0 := (HK1.out.cell 0).trans rfl
        have p1 := (HK1.out.cell 1).trans rfl
        have p2 := (HK1.out.cell 2).trans rfl
        have p3 := (HK1.out.cell 3).trans rfl
        have p4 := (HK1.out.cell 4).trans rfl
        have p5 := (HK1.out.cell 5).trans rfl
        go_wp2_with fail
        refine (rnamed10_any y k Ay cy y k Ay cy nDefault _ HR1.out HR1.out HKS.out HKS.out).mono ?_
        rintro r w2 ⟨rfl, hb2⟩
        have HK2 := Lib.hid (HK1.out.below hb2 HK1.out.lt)
        have HO2 := Lib.hid (HO1.out.below hb2)
        have HB2 := Lib.hid (HB1.out.trans (hb2.mono HB1.out.size))
        have HC2 := Lib.hid (HC1.out.trans (hb2.mono HC1.out.size))
        clear hb2 p0 p1 p2 p3 p4 p5
        cases hd : namedB k (gtF (nDefault, []) k) with
        | false =>
          have HX : Hid (RefsX (a, f) = (26, [stp y, defS])) := Lib.hid (by unfold RefsX; rw [show ((a, f) : Nd).2 = f from rfl, HE.out, refs_drop HG.out.1, if_pos HN.out]; unfold portX; rw [if_pos (show namedB k (gtF defS k) = false from hd)]; rfl)
          clear hd
          go_wp2_with fail
          refine (rway10_any [stp y] (.slice A1 1 c1) ⟨nDefault, [], 0, 0, []⟩ (.slice none 0 0) _ HO2.out.way (by simp)).mono ?_
          rintro r w3 ⟨v3, rfl, ho3, hb3⟩
          obtain ⟨A3, c3, rfl⟩ := ho3.shape
          have HV3 := Lib.hid ho3.way
          have HB3 := Lib.hid (HB2.out.trans (hb3.mono HB2.out.size))
          clear ho3 hb3
          go_wp2
          go_ret2
          rw [HX.out]
          exact ⟨_, rfl, HV3.out, HB3.out⟩
        | true =>
          have HPX : Hid (portX k = rulesX k k) := Lib.hid (by unfold portX; rw [if_neg (by rw [show gtF defS k = gtF (nDefault, []) k from rfl, hd]; simp)])
          have hkl : (k.len : Int) ≤ 1000000 := by have := Fr.len_size k; have := HKS.out; omega
          clear hd
          have s5 := (HK2.out.cell 5).trans rfl
          go_wp2_with fail
          clear s5
          go_loopw [7] (fun v wr => ∃ j : Nat, j ≤ k.len ∧ v = .int .i64 (j : Int) ∧ Hid (rulesX k k = rulesX k (Fr.drop j k)) ∧ Hid (Below w2.heap.size w2 wr)) (fun v _ => k.len - (intOf v).toNat)
          case atStart => exact ⟨0, Nat.zero_le _, rfl, Lib.hid (by cases k <;> rfl), Lib.hid (Below.refl _ _)⟩
          case round =>
            obtain ⟨j, hj, rfl, HEJ, HWJ⟩ := hrel
            have j1 : (0 : Int) ≤ (j : Int) := by omega
            have HKJ := Lib.hid (HK2.out.below HWJ.out HK2.out.lt)
            have HBJ := Lib.hid (HB2.out.trans (HWJ.out.mono HB2.out.size))
            have HOJ := Lib.hid (HO2.out.below HWJ.out)
            have s5 := (HKJ.out.cell 5).trans rfl
            by_cases hlt : j < k.len
            · obtain ⟨z, zk, hg⟩ := Fr.get_some hlt
              obtain ⟨g', o', Az, cz, rfl, -, hnc', hgb', hrz, hzc⟩ := HG.out.2.1.at hg
              simp only at hrz hzc hnc'
              have hzo : ∀ j' u, (ndC z (.slice Az zk.len cz))[j']? = some u → wr.cell? ⟨g', o' + j * 6 + j', none⟩ = some u := fun j' u hu => (World.cell?_of_block (w := w) (a := ⟨g', o' + j * 6 + j', none⟩) (HBJ.out.block g' hgb')).trans (hzc j' u hu)
              have j2 : (j : Int) < (k.len : Int) := by omega
              have n1 : j < k.len := hlt
              have HS0 : Hid (Blk wr.drew w0.heap.size 27 #[.string (txt y.name), .string (txt y.key), .int .i64 y.kind, .int .u64 (y.num : Int), .string (txt y.text), .slice (some ⟨g', o', none⟩) k.len cy] ∧ wr.drew.cell? ⟨g', o' + j * 6, none⟩ = some (.string (txt z.name)) ∧ wr.drew.cell? ⟨g', o' + j * 6 + 1, none⟩ = some (.string (txt z.key)) ∧ wr.drew.cell? ⟨g', o' + j * 6 + 2, none⟩ = some (.int .i64 z.kind) ∧ wr.drew.cell? ⟨g', o' + j * 6 + 3, none⟩ = some (.int .u64 (z.num : Int)) ∧ wr.drew.cell? ⟨g', o' + j * 6 + 4, none⟩ = some (.string (txt z.text)) ∧ wr.drew.cell? ⟨g', o' + j * 6 + 5, none⟩ = some (.slice Az zk.len cz)) := Lib.hid ⟨HKJ.out, hzo 0 _ rfl, hzo 1 _ rfl, hzo 2 _ rfl, hzo 3 _ rfl, hzo 4 _ rfl, hzo 5 _ rfl⟩
              have HGZ := Lib.hid (And.intro hg (And.intro hrz (Fr.size_get hg)))
              have HBD : Hid (Below w.heap.size w wr.drew) := Lib.hid HBJ.out.drew
              have HWD : Hid (Below w2.heap.size w2 wr.drew) := Lib.hid HWJ.out.drew
              have HLJ := Lib.hid hlt
              have HNC := Lib.hid (And.intro hnc hnc')
              clear hzo hzc hrz hg hlt
              by_cases hzr : z.name = nRule
              · have h2 : ((txt z.name).toList == [114, 117, 108, 101]) = true := by rw [txt_toList, hzr]; rfl
                have HZR := Lib.hid hzr
                clear hzr
                have HRP := Lib.hid (HG.out.2.1.under HBD.out (Nat.le_refl _) HBD.out.size)
                have HRZ := Lib.hid (HGZ.out.2.1.under HBD.out (Nat.le_refl _) HBD.out.size)
                have HZS : Hid (zk.size ≤ 1000000) := Lib.hid (by have := HGZ.out.2.2; have := HKS.out; omega)
                go_wp2_with fail
                refine wp_region_noPanic ?_
                refine wp_region_held_drew (S := fun _ => True) (by kernel_rfl) trivial (fun hS => ?_)
                refine wpAnyH_take (i := 0) (oi := ?o_0) (v := ?v_0) ?i_0 (by kernel_rfl) (by kernel_rfl) (by kernel_rfl) (fun _ _ _ h => h) (Or.inl ⟨?g_0, ?y_0⟩) hS ?_
                case i_0 => simp only [layG]; rfl
                case g_0 => rfl
                case y_0 => (intro w hSw; (go_simp <;> with_reducible rfl))
                (try simp only [Act.put, layS])
                refine held_more (S' := fun w' => Blk w' w0.heap.size 27 #[.string (txt y.name), .string (txt y.key), .int .i64 y.kind, .int .u64 (y.num : Int), .string (txt y.text), .slice (some ⟨g', o', none⟩) k.len cy] ∧ w'.cell? ⟨g', o' + j * 6, none⟩ = some (.string (txt z.name)) ∧ w'.cell? ⟨g', o' + j * 6 + 1, none⟩ = some (.string (txt z.key)) ∧ w'.cell? ⟨g', o' + j * 6 + 2, none⟩ = some (.int .i64 z.kind) ∧ w'.cell? ⟨g', o' + j * 6 + 3, none⟩ = some (.int .u64 (z.num : Int)) ∧ w'.cell? ⟨g', o' + j * 6 + 4, none⟩ = some (.string (txt z.text)) ∧ w'.cell? ⟨g', o' + j * 6 + 5, none⟩ = some (.slice Az zk.len cz)) (fun _ _ => trivial) _ _ _ _ ?_
                replace hS := HS0.out
                refine wpAnyH_take (i := 1) (oi := ?o_1) (v := ?v_1) ?i_1 (by kernel_rfl) (by kernel_rfl) (by kernel_rfl) (fun _ _ _ h => h) (Or.inl ⟨?g_1, ?y_1⟩) hS ?_
                case i_1 => simp only [layG]; rfl
                case g_1 => rfl
                case y_1 => (intro w hSw; have s5 := (hSw.1.cell 5).trans rfl; (go_simp <;> with_reducible rfl))
                (try simp only [Act.put, layS])
                refine wpAnyH_take (i := 2) (oi := ?o_2) (v := ?v_2) ?i_2 (by kernel_rfl) (by kernel_rfl) (by kernel_rfl) (fun _ _ _ h => h) (Or.inl ⟨?g_2, ?y_2⟩) hS ?_
                case i_2 => simp only [layG]; rfl
                case g_2 => rfl
                case y_2 => (intro w hSw; (go_simp <;> with_reducible rfl))
                (try simp only [Act.put, layS])
                refine wpAnyH_take (i := 3) (oi := ?o_3) (v := ?v_3) ?i_3 (by kernel_rfl) (by kernel_rfl) (by kernel_rfl) (fun _ _ _ h => h) (Or.inl ⟨?g_3, ?y_3⟩) hS ?_
                case i_3 => simp only [layG]; rfl
                case g_3 => rfl
                case y_3 => (intro w hSw; (go_simp <;> with_reducible rfl))
                (try simp only [Act.put, layS])
                refine wpAnyH_take (i := 4) (oi := ?o_4) (v := ?v_4) ?i_4 (by kernel_rfl) (by kernel_rfl) (by kernel_rfl) (fun _ _ _ h => h) (Or.inl ⟨?g_4, ?y_4⟩) hS ?_
                case i_4 => simp only [layG]; rfl
                case g_4 => rfl
                case y_4 => (intro w hSw; (go_simp <;> with_reducible rfl))
                (try simp only [Act.put, layS])
                refine wpAnyH_take (i := 5) (oi := ?o_5) (v := ?v_5) ?i_5 (by kernel_rfl) (by kernel_rfl) (by kernel_rfl) (fun _ _ _ h => h) (Or.inl ⟨?g_5, ?y_5⟩) hS ?_
                case i_5 => simp only [layG]; rfl
                case g_5 => rfl
                case y_5 => (intro w hSw; have z0 := hSw.2.1; (go_simp <;> with_reducible rfl))
                (try simp only [Act.put, layS])
                refine wpAnyH_take (i := 6) (oi := ?o_6) (v := ?v_6) ?i_6 (by kernel_rfl) (by kernel_rfl) (by kernel_rfl) (fun _ _ _ h => h) (Or.inl ⟨?g_6, ?y_6⟩) hS ?_
                case i_6 => simp only [layG]; rfl
                case g_6 => rfl
                case y_6 => (intro w hSw; (go_simp <;> with_reducible rfl))
                (try simp only [Act.put, layS])
                refine wpAnyH_take (i := 7) (oi := ?o_7) (v := ?v_7) ?i_7 (by kernel_rfl) (by kernel_rfl) (by kernel_rfl) (fun _ _ _ h => h) (Or.inl ⟨?g_7, ?y_7⟩) hS ?_
                case i_7 => simp only [layG]; rfl
                case g_7 => rfl
                case y_7 => (intro w hSw; (go_simp <;> with_reducible rfl))
                (try simp only [Act.put, layS])
                refine wpAnyH_take (i := 8) (oi := ?o_8) (v := ?v_8) ?i_8 (by kernel_rfl) (by kernel_rfl) (by kernel_rfl) (fun _ _ _ h => h) (Or.inl ⟨?g_8, ?y_8⟩) hS ?_
                case i_8 => simp only [layG]; rfl
                case g_8 => rfl
                case y_8 => (intro w hSw; have s0 := (hSw.1.cell 0).trans rfl; have s1 := (hSw.1.cell 1).trans rfl; have s2 := (hSw.1.cell 2).trans rfl; have s3 := (hSw.1.cell 3).trans rfl; have s4 := (hSw.1.cell 4).trans rfl; have s5 := (hSw.1.cell 5).trans rfl; (go_simp <;> with_reducible rfl))
                (try simp only [Act.put, layS])
                refine wpAnyH_take (i := 9) (oi := ?o_9) (v := ?v_9) ?i_9 (by kernel_rfl) (by kernel_rfl) (by kernel_rfl) (fun _ _ _ h => h) (Or.inl ⟨?g_9, ?y_9⟩) hS ?_
                case i_9 => simp only [layG]; rfl
                case g_9 => rfl
                case y_9 => (intro w hSw; (go_simp <;> with_reducible rfl))
                (try simp only [Act.put, layS])
                refine wpAnyH_take (i := 10) (oi := ?o_a) (v := ?v_a) ?i_a (by kernel_rfl) (by kernel_rfl) (by kernel_rfl) (fun _ _ _ h => h) (Or.inl ⟨?g_a, ?y_a⟩) hS ?_
                case i_a => simp only [layG]; rfl
                case g_a => rfl
                case y_a => (intro w hSw; have s5 := (hSw.1.cell 5).trans rfl; (go_simp <;> with_reducible rfl))
                (try simp only [Act.put, layS])
                refine wpAnyH_take (i := 11) (oi := ?o_b) (v := ?v_b) ?i_b (by kernel_rfl) (by kernel_rfl) (by kernel_rfl) (fun _ _ _ h => h) (Or.inl ⟨?g_b, ?y_b⟩) hS ?_
                case i_b => simp only [layG]; rfl
                case g_b => rfl
                case y_b => (intro w hSw; (go_simp <;> with_reducible rfl))
                (try simp only [Act.put, layS])
                refine wpAnyH_take (i := 12) (oi := ?o_c) (v := ?v_c) ?i_c (by kernel_rfl) (by kernel_rfl) (by kernel_rfl) (fun _ _ _ h => h) (Or.inl ⟨?g_c, ?y_c⟩) hS ?_
                case i_c => simp only [layG]; rfl
                case g_c => rfl
                case y_c => (intro w hSw; (go_simp <;> with_reducible rfl))
                (try simp only [Act.put, layS])
                refine wpAnyH_take (i := 13) (oi := ?o_d) (v := ?v_d) ?i_d (by kernel_rfl) (by kernel_rfl) (by kernel_rfl) (fun _ _ _ h => h) (Or.inl ⟨?g_d, ?y_d⟩) hS ?_
                case i_d => simp only [layG]; rfl
                case g_d => rfl
                case y_d => (intro w hSw; have z0 := hSw.2.1; have z1 := hSw.2.2.1; have z2 := hSw.2.2.2.1; have z3 := hSw.2.2.2.2.1; have z4 := hSw.2.2.2.2.2.1; have z5 := hSw.2.2.2.2.2.2; (go_simp <;> with_reducible rfl))
                (try simp only [Act.put, layS])
                refine wpAnyH_ready (rs := [14]) (by kernel_rfl) (by simp) ?_
                refine (AllReadyH.cons (o := ?or_e) ?ir_e (fun K hK => ?str_e) AllReadyH.nil)
                case ir_e => simp only [layG]; rfl
                rw [if_pos (by rfl)]
                go_simp
                refine (rnamed10_any y k _ cy z zk Az cz nClass _ HRP.out HRZ.out HKS.out HZS.out).mono ?_
                rintro r w5 ⟨rfl, hb5⟩
                have HB5 := Lib.hid hb5
                have HS5 : Hid (Blk w5 w0.heap.size 27 #[.string (txt y.name), .string (txt y.key), .int .i64 y.kind, .int .u64 (y.num : Int), .string (txt y.text), .slice (some ⟨g', o', none⟩) k.len cy] ∧ w5.cell? ⟨g', o' + j * 6, none⟩ = some (.string (txt z.name)) ∧ w5.cell? ⟨g', o' + j * 6 + 1, none⟩ = some (.string (txt z.key)) ∧ w5.cell? ⟨g', o' + j * 6 + 2, none⟩ = some (.int .i64 z.kind) ∧ w5.cell? ⟨g', o' + j * 6 + 3, none⟩ = some (.int .u64 (z.num : Int)) ∧ w5.cell? ⟨g', o' + j * 6 + 4, none⟩ = some (.string (txt z.text)) ∧ w5.cell? ⟨g', o' + j * 6 + 5, none⟩ = some (.slice Az zk.len cz)) := Lib.hid (by
                  have hc : ∀ (q : Nat) (u : Value), wr.drew.cell? ⟨g', q, none⟩ = some u → w5.cell? ⟨g', q, none⟩ = some u := fun q u hu => (World.cell?_of_block (w := wr.drew) (a := ⟨g', q, none⟩) (hb5.block g' (Nat.lt_of_lt_of_le hgb' HBD.out.size))).trans hu
                  exact ⟨HS0.out.1.below hb5 HS0.out.1.lt, hc _ _ HS0.out.2.1, hc _ _ HS0.out.2.2.1, hc _ _ HS0.out.2.2.2.1, hc _ _ HS0.out.2.2.2.2.1, hc _ _ HS0.out.2.2.2.2.2.1, hc _ _ HS0.out.2.2.2.2.2.2⟩)
                clear hb5
                go_wp2_with fail
                refine hK.out _ _ ?sr_e (fun hS => ?_)
                case sr_e => (exact HS5.out)
                clear hK K
                (try simp only [Act.put, layS])
                refine wpAnyH_take (i := 15) (oi := ?o_f) (v := ?v_f) ?i_f (by kernel_rfl) (by kernel_rfl) (by kernel_rfl) (fun _ _ _ h => h) (Or.inl ⟨?g_f, ?y_f⟩) hS ?_
                case i_f => simp only [layG]; rfl
                case g_f => rfl
                case y_f => (intro w hSw; (go_simp <;> with_reducible rfl))
                (try simp only [Act.put, layS])
                refine wpAnyH_take (i := 16) (oi := ?o_g) (v := ?v_g) ?i_g (by kernel_rfl) (by kernel_rfl) (by kernel_rfl) (fun _ _ _ h => h) (Or.inl ⟨?g_g, ?y_g⟩) hS ?_
                case i_g => simp only [layG]; rfl
                case g_g => rfl
                case y_g => (intro w hSw; (go_simp <;> with_reducible rfl))
                (try simp only [Act.put, layS])
                refine wpAnyH_done (by kernel_rfl) ?_ _
                refine NoPanic.normal ?_
                clear hS
                have HO5 : Hid (OwnS 0 w5 (.slice A1 1 c1) [stp y]) := Lib.hid ((HOJ.out.below (Below.refl _ _).drew).below HB5.out)
                have HW5 : Hid (Below w.heap.size w w5) := Lib.hid (HBD.out.trans (HB5.out.mono HBD.out.size))
                have HV5 : Hid (Below w2.heap.size w2 w5) := Lib.hid (HWD.out.trans (HB5.out.mono HWD.out.size))
                cases hb : namedB k (gtF (nClass, []) zk) with
                | false =>
                  have HX : Hid (RefsX (a, f) = (26, [stp y, stp z, clsS])) := Lib.hid (by
                    unfold RefsX
                    rw [show ((a, f) : Nd).2 = f from rfl, HE.out, refs_drop HG.out.1, if_pos HN.out, HPX.out, HEJ.out, rules_drop HGZ.out.1, if_pos ⟨HZR.out, hb⟩]
                    rfl)
                  clear hb
                  have s5 := (HS5.out.1.cell 5).trans rfl
                  have z0 := HS5.out.2.1
                  have z1 := HS5.out.2.2.1
                  have z2 := HS5.out.2.2.2.1
                  have z3 := HS5.out.2.2.2.2.1
                  have z4 := HS5.out.2.2.2.2.2.1
                  have z5 := HS5.out.2.2.2.2.2.2
                  go_wp2_with fail
                  refine (rway10_any [stp y] (.slice A1 1 c1) z (.slice Az zk.len cz) _ HO5.out.way (by simp)).mono ?_
                  rintro r w6 ⟨v6, rfl, ho6, hb6⟩
                  obtain ⟨A6, c6, rfl⟩ := ho6.shape
                  have HO6 := Lib.hid ho6
                  have HB6 := Lib.hid (HW5.out.trans (hb6.mono HW5.out.size))
                  clear ho6 hb6 s5 z0 z1 z2 z3 z4 z5
                  go_wp2_with fail
                  refine (rway10_any [stp y, stp z] (.slice A6 2 c6) ⟨nClass, [], 0, 0, []⟩ (.slice none 0 0) _ HO6.out.way (by simp)).mono ?_
                  rintro r w7 ⟨v7, rfl, ho7, hb7⟩
                  obtain ⟨A7, c7, rfl⟩ := ho7.shape
                  have HV7 := Lib.hid ho7.way
                  have HB7 := Lib.hid (HB6.out.trans (hb7.mono HB6.out.size))
                  clear ho7 hb7
                  go_wp2
                  go_ret2
                  rw [HX.out]
                  exact ⟨_, rfl, HV7.out, HB7.out⟩
                | true =>
                  have HEN : Hid (rulesX k k = rulesX k (Fr.drop (j + 1) k)) := Lib.hid (by rw [HEJ.out, rules_drop HGZ.out.1, if_neg (fun h => by have h3 := h.2; rw [show gtF clsS zk = gtF (nClass, []) zk from rfl, hb] at h3; cases h3)])
                  clear hb
                  go_wp2
                  go_roundw
                  case rel => exact ⟨j + 1, HLJ.out, by go_num, HEN, HV5⟩
                  case measure => have := HLJ.out; simp [intOf]; omega
              · have h2 : ((txt z.name).toList == [114, 117, 108, 101]) = false := by rw [txt_toList]; exact beq_eq_false_iff_ne.2 hzr
                have HZR := Lib.hid hzr
                clear hzr
                go_wp2_with fail
                refine wp_region_noPanic ?_
                refine wp_region_held_drew (S := fun _ => True) (by kernel_rfl) trivial (fun hS => ?_)
                refine wpAnyH_take (i := 0) (oi := ?o_h) (v := ?v_h) ?i_h (by kernel_rfl) (by kernel_rfl) (by kernel_rfl) (fun _ _ _ h => h) (Or.inl ⟨?g_h, ?y_h⟩) hS ?_
                case i_h => simp only [layG]; rfl
                case g_h => rfl
                case y_h => (intro w hSw; (go_simp <;> with_reducible rfl))
                (try simp only [Act.put, layS])
                refine held_more (S' := fun w' => Blk w' w0.heap.size 27 #[.string (txt y.name), .string (txt y.key), .int .i64 y.kind, .int .u64 (y.num : Int), .string (txt y.text), .slice (some ⟨g', o', none⟩) k.len cy] ∧ w'.cell? ⟨g', o' + j * 6, none⟩ = some (.string (txt z.name)) ∧ w'.cell? ⟨g', o' + j * 6 + 1, none⟩ = some (.string (txt z.key)) ∧ w'.cell? ⟨g', o' + j * 6 + 2, none⟩ = some (.int .i64 z.kind) ∧ w'.cell? ⟨g', o' + j * 6 + 3, none⟩ = some (.int .u64 (z.num : Int)) ∧ w'.cell? ⟨g', o' + j * 6 + 4, none⟩ = some (.string (txt z.text)) ∧ w'.cell? ⟨g', o' + j * 6 + 5, none⟩ = some (.slice Az zk.len cz)) (fun _ _ => trivial) _ _ _ _ ?_
                replace hS := HS0.out
                refine wpAnyH_take (i := 1) (oi := ?o_i) (v := ?v_i) ?i_i (by kernel_rfl) (by kernel_rfl) (by kernel_rfl) (fun _ _ _ h => h) (Or.inl ⟨?g_i, ?y_i⟩) hS ?_
                case i_i => simp only [layG]; rfl
                case g_i => rfl
                case y_i => (intro w hSw; have s5 := (hSw.1.cell 5).trans rfl; (go_simp <;> with_reducible rfl))
                (try simp only [Act.put, layS])
                refine wpAnyH_take (i := 2) (oi := ?o_j) (v := ?v_j) ?i_j (by kernel_rfl) (by kernel_rfl) (by kernel_rfl) (fun _ _ _ h => h) (Or.inl ⟨?g_j, ?y_j⟩) hS ?_
                case i_j => simp only [layG]; rfl
                case g_j => rfl
                case y_j => (intro w hSw; (go_simp <;> with_reducible rfl))
                (try simp only [Act.put, layS])
                refine wpAnyH_take (i := 3) (oi := ?o_k) (v := ?v_k) ?i_k (by kernel_rfl) (by kernel_rfl) (by kernel_rfl) (fun _ _ _ h => h) (Or.inl ⟨?g_k, ?y_k⟩) hS ?_
                case i_k => simp only [layG]; rfl
                case g_k => rfl
                case y_k => (intro w hSw; (go_simp <;> with_reducible rfl))
                (try simp only [Act.put, layS])
                refine wpAnyH_take (i := 4) (oi := ?o_l) (v := ?v_l) ?i_l (by kernel_rfl) (by kernel_rfl) (by kernel_rfl) (fun _ _ _ h => h) (Or.inl ⟨?g_l, ?y_l⟩) hS ?_
                case i_l => simp only [layG]; rfl
                case g_l => rfl
                case y_l => (intro w hSw; (go_simp <;> with_reducible rfl))
                (try simp only [Act.put, layS])
                refine wpAnyH_take (i := 5) (oi := ?o_m) (v := ?v_m) ?i_m (by kernel_rfl) (by kernel_rfl) (by kernel_rfl) (fun _ _ _ h => h) (Or.inl ⟨?g_m, ?y_m⟩) hS ?_
                case i_m => simp only [layG]; rfl
                case g_m => rfl
                case y_m => (intro w hSw; have z0 := hSw.2.1; (go_simp <;> with_reducible rfl))
                (try simp only [Act.put, layS])
                refine wpAnyH_take (i := 6) (oi := ?o_n) (v := ?v_n) ?i_n (by kernel_rfl) (by kernel_rfl) (by kernel_rfl) (fun _ _ _ h => h) (Or.inl ⟨?g_n, ?y_n⟩) hS ?_
                case i_n => simp only [layG]; rfl
                case g_n => rfl
                case y_n => (intro w hSw; (go_simp <;> with_reducible rfl))
                (try simp only [Act.put, layS])
                refine wpAnyH_take (i := 7) (oi := ?o_o) (v := ?v_o) ?i_o (by kernel_rfl) (by kernel_rfl) (by kernel_rfl) (fun _ _ _ h => h) (Or.inl ⟨?g_o, ?y_o⟩) hS ?_
                case i_o => simp only [layG]; rfl
                case g_o => rfl
                case y_o => (intro w hSw; (go_simp <;> with_reducible rfl))
                (try simp only [Act.put, layS])
                refine wpAnyH_take (i := 8) (oi := ?o_p) (v := undef) ?i_p (by kernel_rfl) (by kernel_rfl) (by kernel_rfl) (fun _ _ _ h => h) (Or.inr ⟨?g_p, rfl⟩) hS ?_
                case i_p => simp only [layG]; rfl
                case g_p => rfl
                (try simp only [Act.put, layS])
                refine wpAnyH_take (i := 9) (oi := ?o_q) (v := undef) ?i_q (by kernel_rfl) (by kernel_rfl) (by kernel_rfl) (fun _ _ _ h => h) (Or.inr ⟨?g_q, rfl⟩) hS ?_
                case i_q => simp only [layG]; rfl
                case g_q => rfl
                (try simp only [Act.put, layS])
                refine wpAnyH_take (i := 10) (oi := ?o_r) (v := undef) ?i_r (by kernel_rfl) (by kernel_rfl) (by kernel_rfl) (fun _ _ _ h => h) (Or.inr ⟨?g_r, rfl⟩) hS ?_
                case i_r => simp only [layG]; rfl
                case g_r => rfl
                (try simp only [Act.put, layS])
                refine wpAnyH_take (i := 11) (oi := ?o_s) (v := undef) ?i_s (by kernel_rfl) (by kernel_rfl) (by kernel_rfl) (fun _ _ _ h => h) (Or.inr ⟨?g_s, rfl⟩) hS ?_
                case i_s => simp only [layG]; rfl
                case g_s => rfl
                (try simp only [Act.put, layS])
                refine wpAnyH_take (i := 12) (oi := ?o_t) (v := undef) ?i_t (by kernel_rfl) (by kernel_rfl) (by kernel_rfl) (fun _ _ _ h => h) (Or.inr ⟨?g_t, rfl⟩) hS ?_
                case i_t => simp only [layG]; rfl
                case g_t => rfl
                (try simp only [Act.put, layS])
                refine wpAnyH_take (i := 13) (oi := ?o_u) (v := undef) ?i_u (by kernel_rfl) (by kernel_rfl) (by kernel_rfl) (fun _ _ _ h => h) (Or.inr ⟨?g_u, rfl⟩) hS ?_
                case i_u => simp only [layG]; rfl
                case g_u => rfl
                (try simp only [Act.put, layS])
                refine wpAnyH_take (i := 14) (oi := ?o_v) (v := undef) ?i_v (by kernel_rfl) (by kernel_rfl) (by kernel_rfl) (fun _ _ _ h => h) (Or.inr ⟨?g_v, rfl⟩) hS ?_
                case i_v => simp only [layG]; rfl
                case g_v => rfl
                (try simp only [Act.put, layS])
                refine wpAnyH_take (i := 15) (oi := ?o_w) (v := undef) ?i_w (by kernel_rfl) (by kernel_rfl) (by kernel_rfl) (fun _ _ _ h => h) (Or.inr ⟨?g_w, rfl⟩) hS ?_
                case i_w => simp only [layG]; rfl
                case g_w => rfl
                (try simp only [Act.put, layS])
                refine wpAnyH_take (i := 16) (oi := ?o_x) (v := ?v_x) ?i_x (by kernel_rfl) (by kernel_rfl) (by kernel_rfl) (fun _ _ _ h => h) (Or.inl ⟨?g_x, ?y_x⟩) hS ?_
                case i_x => simp only [layG]; rfl
                case g_x => rfl
                case y_x => (intro w hSw; (go_simp <;> with_reducible rfl))
                (try simp only [Act.put, layS])
                refine wpAnyH_done (by kernel_rfl) ?_ _
                refine NoPanic.normal ?_
                clear hS
                go_wp2
                go_roundw
                case rel => exact ⟨j + 1, HLJ.out, by go_num, Lib.hid (by rw [HEJ.out, rules_drop HGZ.out.1, if_neg (fun h => HZR.out h.1)]), HWD⟩
                case measure => have := HLJ.out; simp [intOf]; omega
            · have j2 : ¬ (j : Int) < (k.len : Int) := by omega
              have HNP : Hid (portX k = none) := Lib.hid (by rw [HPX.out, HEJ.out, show j = k.len by omega, Fr.drop_all]; rfl)
              go_wp2
              go_roundw
              case rel => exact ⟨i + 1, HLT.out, by go_num, Lib.hid (by rw [HE.out, refs_drop HG.out.1, if_pos HN.out, HNP.out]), Lib.hid (HC2.out.trans (HWJ.out.mono HC2.out.size))⟩
              case measure => have := HLT.out; simp [intOf]; omega
      · have h1 : ((txt y.name).toList == [112, 111, 114, 116]) = false := by rw [txt_toList]; exact beq_eq_false_iff_ne.2 hn
        have HN := Lib.hid hn
        clear hn
        go_wp2
        go_roundw
        case rel => exact ⟨i + 1, HLT.out, by go_num, Lib.hid (by rw [HE.out, refs_drop HG.out.1, if_neg HN.out]), HY2⟩
        case measure => have := HLT.out; simp [intOf]; omega
    · have i2 : ¬ (i : Int) < (f.len : Int) := by omega
      have HX : Hid (RefsX (a, f) = (0, [])) := Lib.hid (by unfold RefsX; rw [show ((a, f) : Nd).2 = f from rfl, HE.out, show i = f.len by omega, Fr.drop_all]; rfl)
      have r5 := (HBW.out.cell 5).trans rfl
      go_wp2
      go_ret2
      rw [HX.out]
      exact ⟨_, rfl, WayV.nil _ _ _ _, HWW.out⟩
end Go.Proofs.YtljjaikejfoanaaGreat
