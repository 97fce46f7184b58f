/- What ValidTells stands on: SpcRefF, VadRefG, Law10A, Law10B. -/
import Derived.Test.YtljjaikejfoanaaGreatZM0
import Derived.Test.YtljjaikejfoanaaGreatZM39
import Derived.Test.YtljjaikejfoanaaGreatZM6
import Derived.Test.YtljjaikejfoanaaGreatZM37
import Derived.Test.YtljjaikejfoanaaGreatZM35
set_option linter.unusedSimpArgs false
set_option linter.unusedVariables false
namespace Go.Proofs.YtljjaikejfoanaaGreat
open Go.RowKit
set_option maxRecDepth 100000 in
set_option maxHeartbeats 1000000 in
theorem rroot_no (v : Int) (h : v < 1 ∨ 3 < v) (w : World) : Calls Tryz.prog 14 #[.int .i64 v] w (RSpP (rootX v) w) := by
  have HX : Hid (rootX v = ((zeroD, .nil), 28)) := Lib.hid (by unfold rootX; rw [if_pos h])
  rcases h with h | h
  · go_enter Tryz.func14, Tryz.ntmps14
    go_wp2
    refine bodyPost_ret (res_cell_tmp rfl _ _ w.heap.size 41 _ (0, 0) _ rfl (heap_alloc_new w _) Tryz.underlying41 rfl (by kernel_rfl)) rfl ?_
    exact ⟨spC zeroD (.slice none 0 0) (.slice none 0 0), by rw [HX.out]; rfl, by rw [HX.out]; exact leaf_n rfl, (Below.refl _ _).alloc (Nat.le_refl _) _⟩
  · have h1 : ¬ v < 1 := by omega
    go_enter Tryz.func14, Tryz.ntmps14
    go_wp2
    refine bodyPost_ret (res_cell_tmp rfl _ _ w.heap.size 41 _ (0, 0) _ rfl (heap_alloc_new w _) Tryz.underlying41 rfl (by kernel_rfl)) rfl ?_
    exact ⟨spC zeroD (.slice none 0 0) (.slice none 0 0), by rw [HX.out]; rfl, by rw [HX.out]; exact leaf_n rfl, (Below.refl _ _).alloc (Nat.le_refl _) _⟩
theorem rroot_any (v : Int) (w : World) : Calls Tryz.prog 14 #[.int .i64 v] w (RSpP (rootX v) w) := by
  by_cases h : v < 1 ∨ 3 < v
  · exact rroot_no v h w
  · have h2 : v = 1 ∨ v = 2 ∨ v = 3 := by omega
    rcases h2 with rfl | rfl | rfl
    · exact rroot_1 w
    · exact rroot_2 w
    · exact rroot_3 w
end Go.Proofs.YtljjaikejfoanaaGreat
namespace Go.Proofs.YtljjaikejfoanaaGreat
open Go.RowKit
attribute [local go_sem] Oper.semAt_some
theorem val_neq0 (a : NdD) (W : World) : (binOp .neq 24 (.agg #[.int .i64 a.kind, .int .u64 (a.num : Int), .string (txt a.text)]) (.agg #[.int .i64 0, .int .u64 0, .string ⟨#[]⟩])).run Tryz.prog W = .ok (.bool (!decide (a.kind = 0 ∧ a.num = 0 ∧ a.text = []))) W := by
  rw [show Value.string ⟨#[]⟩ = Value.string (txt []) from rfl, run_neq_struct, show (10000 : Nat) = 9999 + 1 from rfl, run_equalIn_agg W 9999 24 _ _ (by simp only [Program.fieldsOf, Tryz.underlying24]) (by kernel_rfl)]
  simp only [Program.fieldsOf, Tryz.underlying24]
  simp only [Op.eqFields]
  go_simp
  simp only [txt_toList]
  by_cases h1 : a.kind = 0 <;> by_cases h2 : a.num = 0 <;> by_cases h3 : a.text = [] <;> simp [h1, h2, h3]
theorem check_r (v : Int) (x : Nd) {sd : SpD} {sf : SpF} {er : Nat} (h : rootX v = ((sd, sf), er)) : CheckX v x = if er ≠ 0 then (er, []) else if rootB x = false then (1, []) else match insideX sf x.2 with
  | some b => b
  | none => RefsX x := by
  unfold CheckX
  rw [h]
  rfl
set_option maxRecDepth 100000 in
set_option maxHeartbeats 8000000 in
theorem rcheck10_any (v : Int) (a : NdD) (f : NdF) (A : Option Addr) (c : Nat) (w : World) (hrow : RowT w.heap.size w (.slice A f.len c) f) (hf : f.size ≤ 1000000) (hok : OkF f) :
    Calls Tryz.prog 9 #[.int .i64 v, .agg #[.string (txt a.name), .string (txt a.key), .int .i64 a.kind, .int .u64 (a.num : Int), .string (txt a.text), .slice A f.len c]] w (FirstP (CheckX v (a, f)) w) := by
  have hx1 : Below w.heap.size w (w.alloc (.cells #[.string (txt a.name), .string (txt a.key), .int .i64 a.kind, .int .u64 (a.num : Int), .string (txt a.text), .slice A f.len c] 27)) := (Below.refl _ _).alloc (Nat.le_refl _) _
  have HX1 := Lib.hid hx1
  have HBK := Lib.hid (Blk.new w 27 #[.string (txt a.name), .string (txt a.key), .int .i64 a.kind, .int .u64 (a.num : Int), .string (txt a.text), .slice A f.len c])
  have HROW := Lib.hid hrow
  have HSZ := Lib.hid (And.intro hf hok)
  have HRT := Lib.hid (rroot_any v (w.alloc (.cells #[.string (txt a.name), .string (txt a.key), .int .i64 a.kind, .int .u64 (a.num : Int), .string (txt a.text), .slice A f.len c] 27)))
  have HSO := Lib.hid (root_ok v)
  obtain ⟨rx, hrx⟩ : ∃ rx, rx = rootX v := ⟨_, rfl⟩
  rw [← hrx] at HRT HSO
  obtain ⟨⟨sd, sf⟩, er⟩ := rx
  have HC := Lib.hid (check_r v (a, f) hrx.symm)
  simp only at HSO HC
  clear hx1 hrow hf hok hrx
  go_enter Tryz.func9, Tryz.ntmps9
  go_wp2_with fail
  refine HRT.out.mono ?_
  rintro r w2 ⟨cs, rfl, hnew, hb2⟩
  have hsl : SpL w2.heap.size w2 cs (sd, sf) := FrN.kept stay_spc hnew (fun g _ => rfl) (fun g hg => hg.2) (fun g _ => rfl) (fun g hg => hg.2)
  obtain ⟨B0, m0, A0, c0, d0, rfl, -, -, -⟩ := SpN.shape (x := (sd, sf)) hsl
  have hvq : Below w.heap.size w (w2.alloc (.cells #[.string (txt sd.name), .int .i64 (sd.kind : Int), .int .i64 (sd.typ : Int), .int .u64 (sd.low : Int), .int .u64 (sd.high : Int), .slice B0 sd.names.length m0, .bool sd.must, .int .i64 (sd.most : Int), .slice A0 sf.len c0] 41)) := (HX1.out.trans (hb2.mono HX1.out.size)).alloc (Nat.le_trans HX1.out.size hb2.size) _
  have HVQ := Lib.hid hvq
  have HNQ : Hid (Blk (w2.alloc (.cells #[.string (txt sd.name), .int .i64 (sd.kind : Int), .int .i64 (sd.typ : Int), .int .u64 (sd.low : Int), .int .u64 (sd.high : Int), .slice B0 sd.names.length m0, .bool sd.must, .int .i64 (sd.most : Int), .slice A0 sf.len c0] 41)) w.heap.size 27 #[.string (txt a.name), .string (txt a.key), .int .i64 a.kind, .int .u64 (a.num : Int), .string (txt a.text), .slice A f.len c]) := Lib.hid ((HBK.out.below hb2 HBK.out.lt).alloc _)
  have HSQ : Hid (SpL w2.heap.size (w2.alloc (.cells #[.string (txt sd.name), .int .i64 (sd.kind : Int), .int .i64 (sd.typ : Int), .int .u64 (sd.low : Int), .int .u64 (sd.high : Int), .slice B0 sd.names.length m0, .bool sd.must, .int .i64 (sd.most : Int), .slice A0 sf.len c0] 41)) (#[.string (txt sd.name), .int .i64 (sd.kind : Int), .int .i64 (sd.typ : Int), .int .u64 (sd.low : Int), .int .u64 (sd.high : Int), .slice B0 sd.names.length m0, .bool sd.must, .int .i64 (sd.most : Int), .slice A0 sf.len c0] : Array Value).toList (sd, sf) ∧ Blk (w2.alloc (.cells #[.string (txt sd.name), .int .i64 (sd.kind : Int), .int .i64 (sd.typ : Int), .int .u64 (sd.low : Int), .int .u64 (sd.high : Int), .slice B0 sd.names.length m0, .bool sd.must, .int .i64 (sd.most : Int), .slice A0 sf.len c0] 41)) w2.heap.size 41 #[.string (txt sd.name), .int .i64 (sd.kind : Int), .int .i64 (sd.typ : Int), .int .u64 (sd.low : Int), .int .u64 (sd.high : Int), .slice B0 sd.names.length m0, .bool sd.must, .int .i64 (sd.most : Int), .slice A0 sf.len c0]) := Lib.hid ⟨hsl.keep (fun g hg => Below.heap_alloc _ _ _ hg) (Nat.le_refl _), Blk.new _ _ _⟩
  clear hnew hb2 hsl hvq HRT
  by_cases he : er = 0
  · subst he
    have k1 : (((0 : Nat) : Int) != 0) = false := rfl
    have HCC : Hid (CheckX v (a, f) = if rootB (a, f) = false then (1, []) else match insideX sf f with | some b => b | none => RefsX (a, f)) := Lib.hid (by rw [HC.out, if_neg (by simp)])
    have HRI := Lib.hid (rright_any (a, f) _ (w2.alloc (.cells #[.string (txt sd.name), .int .i64 (sd.kind : Int), .int .i64 (sd.typ : Int), .int .u64 (sd.low : Int), .int .u64 (sd.high : Int), .slice B0 sd.names.length m0, .bool sd.must, .int .i64 (sd.most : Int), .slice A0 sf.len c0] 41)) (LieB.make (HROW.out.under HVQ.out (Nat.le_refl _) HVQ.out.size)) HSZ.out.1)
    unfold ndC at HRI
    have q0 := (HNQ.out.cell 0).trans rfl
    have q1 := (HNQ.out.cell 1).trans rfl
    have q2 := (HNQ.out.cell 2).trans rfl
    have q3 := (HNQ.out.cell 3).trans rfl
    have q4 := (HNQ.out.cell 4).trans rfl
    have q5 := (HNQ.out.cell 5).trans rfl
    go_wp2_with fail
    refine HRI.out.mono ?_
    rintro r w3 ⟨rfl, hb3⟩
    have HB3 := Lib.hid (HVQ.out.trans (hb3.mono HVQ.out.size))
    have HN3 := Lib.hid (HNQ.out.below hb3 HNQ.out.lt)
    have HS3 : Hid (SpL w2.heap.size w3 (#[.string (txt sd.name), .int .i64 (sd.kind : Int), .int .i64 (sd.typ : Int), .int .u64 (sd.low : Int), .int .u64 (sd.high : Int), .slice B0 sd.names.length m0, .bool sd.must, .int .i64 (sd.most : Int), .slice A0 sf.len c0] : Array Value).toList (sd, sf) ∧ Blk w3 w2.heap.size 41 #[.string (txt sd.name), .int .i64 (sd.kind : Int), .int .i64 (sd.typ : Int), .int .u64 (sd.low : Int), .int .u64 (sd.high : Int), .slice B0 sd.names.length m0, .bool sd.must, .int .i64 (sd.most : Int), .slice A0 sf.len c0]) := Lib.hid ⟨HSQ.out.1.keep (fun g hg => hb3.block g (Nat.lt_trans hg HSQ.out.2.lt)) (Nat.le_refl _), HSQ.out.2.below hb3 HSQ.out.2.lt⟩
    clear hb3 q0 q1 q2 q3 q4 q5
    have q0 := (HN3.out.cell 0).trans rfl
    have q1 := (HN3.out.cell 1).trans rfl
    have q2 := (HN3.out.cell 2).trans rfl
    have q3 := (HN3.out.cell 3).trans rfl
    have q4 := (HN3.out.cell 4).trans rfl
    have q5 := (HN3.out.cell 5).trans rfl
    cases hg : rgtX (a, f) with
    | false =>
      have HX : Hid (CheckX v (a, f) = (1, [])) := Lib.hid (by rw [HCC.out, if_pos (by unfold rootB; rw [hg]; rfl)])
      clear hg
      go_wp2
      go_ret2
      rw [HX.out]
      exact ⟨_, rfl, WayV.nil _ _ _ _, HB3.out⟩
    | true =>
      have HRB := Lib.hid (root_dec a f hg)
      clear hg
      have e3 := fun W => val_neq0 a W
      by_cases hn : a.name = []
      · have e1 : ((txt a.name).toList == []) = true := by rw [txt_toList, hn]; rfl
        by_cases hk : a.key = []
        · have e2 : ((txt a.key).toList == []) = true := by rw [txt_toList, hk]; rfl
          have HNK : Hid (decide (a.name = [] ∧ a.key = []) = true) := Lib.hid (decide_eq_true ⟨hn, hk⟩)
          clear hn hk
          cases hz : decide (a.kind = 0 ∧ a.num = 0 ∧ a.text = []) with
          | false =>
            have HX : Hid (CheckX v (a, f) = (1, [])) := Lib.hid (by rw [HCC.out, if_pos (by rw [HRB.out, HNK.out, hz]; rfl)])
            simp only [hz] at e3
            clear hz
            go_wp2
            go_ret2
            rw [HX.out]
            exact ⟨_, rfl, WayV.nil _ _ _ _, HB3.out⟩
          | true =>
            have HCD : Hid (CheckX v (a, f) = match insideX sf f with | some b => b | none => RefsX (a, f)) := Lib.hid (by rw [HCC.out, if_neg (by rw [HRB.out, HNK.out, hz]; simp)])
            simp only [hz] at e3
            clear hz
            have HIN := Lib.hid (rInP f (sd, sf) (#[.string (txt sd.name), .int .i64 (sd.kind : Int), .int .i64 (sd.typ : Int), .int .u64 (sd.low : Int), .int .u64 (sd.high : Int), .slice B0 sd.names.length m0, .bool sd.must, .int .i64 (sd.most : Int), .slice A0 sf.len c0] : Array Value).toList a A c [] (.slice none 0 0) w3 (HS3.out.1.keep (fun g _ => rfl) (Nat.le_of_lt HS3.out.2.lt)) HSO.out.1 HSO.out.2 (HROW.out.under HB3.out (Nat.le_refl _) HB3.out.size) (WayV.nil _ _ _ _) (by have := HSZ.out.1; simpa using this) HSZ.out.2)
            have HRW := Lib.hid (HROW.out.under HB3.out (Nat.le_refl _) HB3.out.size)
            have y0 := (HS3.out.2.cell 0).trans rfl
            have y1 := (HS3.out.2.cell 1).trans rfl
            have y2 := (HS3.out.2.cell 2).trans rfl
            have y3 := (HS3.out.2.cell 3).trans rfl
            have y4 := (HS3.out.2.cell 4).trans rfl
            have y5 := (HS3.out.2.cell 5).trans rfl
            have y6 := (HS3.out.2.cell 6).trans rfl
            have y7 := (HS3.out.2.cell 7).trans rfl
            have y8 := (HS3.out.2.cell 8).trans rfl
            obtain ⟨oo, hoo⟩ : ∃ oo, oo = insideX sf f := ⟨_, rfl⟩
            simp only at HIN
            rw [← hoo] at HIN HCD
            go_wp2_with fail
            refine HIN.out.mono ?_
            rintro r w4 ⟨v4, rfl, hv4, hb4⟩
            have HB4 := Lib.hid (HB3.out.trans (hb4.mono HB3.out.size))
            have HN4 := Lib.hid (HN3.out.below hb4 HN3.out.lt)
            have HV4 := Lib.hid hv4
            have HR4 := Lib.hid (HRW.out.below hb4)
            clear hb4 hv4 y0 y1 y2 y3 y4 y5 y6 y7 y8 q0 q1 q2 q3 q4 q5
            cases oo with
            | some bb =>
              have k2 : ((bb.1 : Int) != 0) = true := by
                have h := (scan_err (show scanF f sf (zeros sf) = some bb from hoo.symm)).1
                unfold bne
                rw [beq_eq_false_iff_ne.2 (by omega)]
                rfl
              have HX : Hid (CheckX v (a, f) = bb) := Lib.hid (by rw [HCD.out])
              clear hoo
              unfold wayO
              simp only
              go_wp2
              go_ret2
              rw [HX.out]
              exact ⟨_, rfl, HV4.out, HB4.out⟩
            | none =>
              have HX : Hid (CheckX v (a, f) = RefsX (a, f)) := Lib.hid (by rw [HCD.out])
              clear hoo
              unfold wayO
              simp only
              have q0 := (HN4.out.cell 0).trans rfl
              have q1 := (HN4.out.cell 1).trans rfl
              have q2 := (HN4.out.cell 2).trans rfl
              have q3 := (HN4.out.cell 3).trans rfl
              have q4 := (HN4.out.cell 4).trans rfl
              have q5 := (HN4.out.cell 5).trans rfl
              go_wp2_with fail
              refine (rrefs10_any a f A c _ HR4.out HSZ.out.1).mono ?_
              rintro r w5 ⟨v5, rfl, hv5, hb5⟩
              have HV5 := Lib.hid hv5
              have HB5 := Lib.hid (HB4.out.trans (hb5.mono HB4.out.size))
              clear hv5 hb5 q0 q1 q2 q3 q4 q5
              go_wp2
              go_ret2
              rw [HX.out]
              exact ⟨_, rfl, HV5.out, HB5.out⟩
        · have e2 : ((txt a.key).toList == []) = false := by rw [txt_toList]; exact beq_eq_false_iff_ne.2 hk
          have HX : Hid (CheckX v (a, f) = (1, [])) := Lib.hid (by rw [HCC.out, if_pos (by rw [HRB.out, decide_eq_false (fun h => hk h.2)]; rfl)])
          clear hn hk
          go_wp2
          go_ret2
          rw [HX.out]
          exact ⟨_, rfl, WayV.nil _ _ _ _, HB3.out⟩
      · have e1 : ((txt a.name).toList == []) = false := by rw [txt_toList]; exact beq_eq_false_iff_ne.2 hn
        have HX : Hid (CheckX v (a, f) = (1, [])) := Lib.hid (by rw [HCC.out, if_pos (by rw [HRB.out, decide_eq_false (fun h => hn h.1)]; rfl)])
        clear hn
        go_wp2
        go_ret2
        rw [HX.out]
        exact ⟨_, rfl, WayV.nil _ _ _ _, HB3.out⟩
  · have k1 : ((er : Int) != 0) = true := by unfold bne; rw [beq_eq_false_iff_ne.2 (by omega)]; rfl
    have HX : Hid (CheckX v (a, f) = (er, [])) := Lib.hid (by rw [HC.out, if_pos he])
    clear he
    go_wp2
    go_ret2
    rw [HX.out]
    exact ⟨_, rfl, WayV.nil _ _ _ _, HVQ.out⟩
end Go.Proofs.YtljjaikejfoanaaGreat
namespace Go.Proofs.YtljjaikejfoanaaGreat
open Go.RowKit
attribute [local go_sem] Oper.semAt_some
set_option maxRecDepth 100000 in
set_option maxHeartbeats 1000000 in
theorem rsmall10_any (a : NdD) (f : NdF) (A : Option Addr) (c : Nat) (w : World) (hk : RowT w.heap.size w (.slice A f.len c) f) (hf : f.size ≤ 1000000) :
    Calls Tryz.prog 7 #[.agg #[.string (txt a.name), .string (txt a.key), .int .i64 a.kind, .int .u64 (a.num : Int), .string (txt a.text), .slice A f.len c]] w (Ans9 (.bool (decide (f.size + 1 ≤ 300))) w) := by
  have hB : Below w.heap.size w (w.alloc (.cells #[.string (txt a.name), .string (txt a.key), .int .i64 a.kind, .int .u64 (a.num : Int), .string (txt a.text), .slice A f.len c] 27)) := (Below.refl _ _).alloc (Nat.le_refl _) _
  obtain ⟨z, hz⟩ : ∃ z, z = f.size + 1 := ⟨_, rfl⟩
  have HC : Hid (Calls Tryz.prog 18 #[.agg #[.string (txt a.name), .string (txt a.key), .int .i64 a.kind, .int .u64 (a.num : Int), .string (txt a.text), .slice A f.len c]] (w.alloc (.cells #[.string (txt a.name), .string (txt a.key), .int .i64 a.kind, .int .u64 (a.num : Int), .string (txt a.text), .slice A f.len c] 27)) (Ans9 (.int .i64 (z : Int)) (w.alloc (.cells #[.string (txt a.name), .string (txt a.key), .int .i64 a.kind, .int .u64 (a.num : Int), .string (txt a.text), .slice A f.len c] 27)))) := Lib.hid (by
    rw [hz]; exact rsizef_any f a A c _ (hk.under hB (Nat.le_refl _) hB.size) hf)
  have HB := Lib.hid hB
  have HV : Hid (decide ((z : Int) ≤ 300) = decide (f.size + 1 ≤ 300)) := Lib.hid (by rw [hz, Bool.eq_iff_iff]; simp; omega)
  clear hB hk hf hz
  go_enter Tryz.func7, Tryz.ntmps7
  go_wp2_with fail
  refine HC.out.mono ?_
  rintro r w2 ⟨rfl, hb⟩
  have HB2 := Lib.hid (HB.out.trans (hb.mono HB.out.size))
  clear hb
  go_wp2
  go_ret
  exact ⟨congrArg (fun b => Ending.returned (Value.bool b)) HV.out, HB2.out⟩
def Awake10 (w : World) : Prop := ∀ W, Below w.heap.size w W → Calls Tryz.prog 6 #[] W (Ans9 (.bool true) W)
set_option maxRecDepth 100000 in
set_option maxHeartbeats 8000000 in
theorem validTells_walk (v : Int) (a : NdD) (f : NdF) (A : Option Addr) (c : Nat) (w : World) (hrow : RowT w.heap.size w (.slice A f.len c) f) (hf : f.size ≤ 999990) (hok : OkF f) (HAW : Awake10 w) :
    Calls Tryz.prog 3 #[.int .i64 v, .agg #[.string (txt a.name), .string (txt a.key), .int .i64 a.kind, .int .u64 (a.num : Int), .string (txt a.text), .slice A f.len c]] w (Ans9 (.bool true) w) := by
  have hx1 : Below w.heap.size w (w.alloc (.cells #[.string (txt a.name), .string (txt a.key), .int .i64 a.kind, .int .u64 (a.num : Int), .string (txt a.text), .slice A f.len c] 27)) := (Below.refl _ _).alloc (Nat.le_refl _) _
  have HAU := Lib.hid (HAW (w.alloc (.cells #[.string (txt a.name), .string (txt a.key), .int .i64 a.kind, .int .u64 (a.num : Int), .string (txt a.text), .slice A f.len c] 27)) hx1)
  have HX1 := Lib.hid hx1
  have HBK := Lib.hid (Blk.new w 27 #[.string (txt a.name), .string (txt a.key), .int .i64 a.kind, .int .u64 (a.num : Int), .string (txt a.text), .slice A f.len c])
  have HROW := Lib.hid hrow
  have HOK := Lib.hid hok
  have HF : Hid (f.size ≤ 1000000) := Lib.hid (by omega)
  have HCL : Hid ((CheckX v (a, f)).2.length ≤ 1000000 ∧ (RefsX (a, f)).2.length ≤ 1000000) := Lib.hid ⟨by have := (check_len v (a, f)).1; simp only at this; omega, by have := (refs_len (a, f)).1; omega⟩
  have HM : Hid (MayX v (a, f) = ((((CheckX v (a, f)).1 : Nat) : Int) == 0)) := Lib.hid (by
    unfold MayX
    by_cases h : (CheckX v (a, f)).1 = 0
    · rw [h]; rfl
    · rw [decide_eq_false h]; exact (beq_eq_false_iff_ne.2 (by omega)).symm)
  clear hx1 hrow hf hok HAW
  go_enter Tryz.func3, Tryz.ntmps3
  go_wp2_with fail
  refine HAU.out.mono ?_
  rintro r w1 ⟨rfl, hb1⟩
  have HB1 := Lib.hid (HX1.out.trans (hb1.mono HX1.out.size))
  have HN1 := Lib.hid (HBK.out.below hb1 HBK.out.lt)
  clear hb1
  have q0 := (HN1.out.cell 0).trans rfl
  have q1 := (HN1.out.cell 1).trans rfl
  have q2 := (HN1.out.cell 2).trans rfl
  have q3 := (HN1.out.cell 3).trans rfl
  have q4 := (HN1.out.cell 4).trans rfl
  have q5 := (HN1.out.cell 5).trans rfl
  go_wp2_with fail
  refine (rsmall10_any a f A c _ (HROW.out.under HB1.out (Nat.le_refl _) HB1.out.size) HF.out).mono ?_
  rintro r w2 ⟨rfl, hb2⟩
  have HB2 := Lib.hid (HB1.out.trans (hb2.mono HB1.out.size))
  have HN2 := Lib.hid (HN1.out.below hb2 HN1.out.lt)
  clear hb2 q0 q1 q2 q3 q4 q5
  cases hsm : decide (f.size + 1 ≤ 300) with
  | false =>
    clear hsm
    go_wp2
    go_ret
    exact ⟨rfl, HB2.out⟩
  | true =>
    clear hsm
    obtain ⟨e, he⟩ : ∃ e, e = CheckX v (a, f) := ⟨_, rfl⟩
    obtain ⟨d, hd⟩ : ∃ d, d = RefsX (a, f) := ⟨_, rfl⟩
    have HE := Lib.hid he
    have HD := Lib.hid hd
    clear he hd
    rw [← HE.out] at HCL HM
    rw [← HD.out] at HCL
    have q0 := (HN2.out.cell 0).trans rfl
    have q1 := (HN2.out.cell 1).trans rfl
    have q2 := (HN2.out.cell 2).trans rfl
    have q3 := (HN2.out.cell 3).trans rfl
    have q4 := (HN2.out.cell 4).trans rfl
    have q5 := (HN2.out.cell 5).trans rfl
    go_wp2_with fail
    refine (vcheck_any v a f A c _ (HROW.out.under HB2.out (Nat.le_refl _) HB2.out.size) HF.out HOK.out).mono ?_
    rw [← HE.out]
    rintro r w3 ⟨v3, rfl, hv3, hb3⟩
    have HB3 := Lib.hid (HB2.out.trans (hb3.mono HB2.out.size))
    have HN3 := Lib.hid (HN2.out.below hb3 HN2.out.lt)
    have HV3 := Lib.hid hv3
    clear hb3 hv3 q0 q1 q2 q3 q4 q5
    have q0 := (HN3.out.cell 0).trans rfl
    have q1 := (HN3.out.cell 1).trans rfl
    have q2 := (HN3.out.cell 2).trans rfl
    have q3 := (HN3.out.cell 3).trans rfl
    have q4 := (HN3.out.cell 4).trans rfl
    have q5 := (HN3.out.cell 5).trans rfl
    go_wp2_with fail
    refine (rcheck10_any v a f A c _ (HROW.out.under HB3.out (Nat.le_refl _) HB3.out.size) HF.out HOK.out).mono ?_
    rw [← HE.out]
    rintro r w4 ⟨v4, rfl, hv4, hb4⟩
    have HB4 := Lib.hid (HB3.out.trans (hb4.mono HB3.out.size))
    have HN4 := Lib.hid (HN3.out.below hb4 HN3.out.lt)
    have HV43 := Lib.hid (HV3.out.below hb4)
    have HV4 := Lib.hid hv4
    clear hb4 hv4 q0 q1 q2 q3 q4 q5
    have q0 := (HN4.out.cell 0).trans rfl
    have q1 := (HN4.out.cell 1).trans rfl
    have q2 := (HN4.out.cell 2).trans rfl
    have q3 := (HN4.out.cell 3).trans rfl
    have q4 := (HN4.out.cell 4).trans rfl
    have q5 := (HN4.out.cell 5).trans rfl
    go_wp2_with fail
    refine (vrefs_any a f A c _ (HROW.out.under HB4.out (Nat.le_refl _) HB4.out.size) HF.out HOK.out).mono ?_
    rw [← HD.out]
    rintro r w5 ⟨v5, rfl, hv5, hb5⟩
    have HB5 := Lib.hid (HB4.out.trans (hb5.mono HB4.out.size))
    have HN5 := Lib.hid (HN4.out.below hb5 HN4.out.lt)
    have HV53 := Lib.hid (HV43.out.below hb5)
    have HV54 := Lib.hid (HV4.out.below hb5)
    have HV5 := Lib.hid hv5
    clear hb5 hv5 q0 q1 q2 q3 q4 q5
    have q0 := (HN5.out.cell 0).trans rfl
    have q1 := (HN5.out.cell 1).trans rfl
    have q2 := (HN5.out.cell 2).trans rfl
    have q3 := (HN5.out.cell 3).trans rfl
    have q4 := (HN5.out.cell 4).trans rfl
    have q5 := (HN5.out.cell 5).trans rfl
    go_wp2_with fail
    refine (rrefs10_any a f A c _ (HROW.out.under HB5.out (Nat.le_refl _) HB5.out.size) HF.out).mono ?_
    rw [← HD.out]
    rintro r w6 ⟨v6, rfl, hv6, hb6⟩
    have HB6 := Lib.hid (HB5.out.trans (hb6.mono HB5.out.size))
    have HN6 := Lib.hid (HN5.out.below hb6 HN5.out.lt)
    have HV63 := Lib.hid (HV53.out.below hb6)
    have HV64 := Lib.hid (HV54.out.below hb6)
    have HV65 := Lib.hid (HV5.out.below hb6)
    have HV6 := Lib.hid hv6
    clear hb6 hv6 q0 q1 q2 q3 q4 q5
    have k1 : ((e.1 : Int) == (e.1 : Int)) = true := beq_self_eq_true _
    have k2 : ((d.1 : Int) == (d.1 : Int)) = true := beq_self_eq_true _
    go_wp2_with fail
    refine (rsteps10_any e.2 e.2 v3 v4 _ HV63.out HV64.out HCL.out.1 HCL.out.1).mono ?_
    rintro r w7 ⟨rfl, hb7⟩
    have HB7 := Lib.hid (HB6.out.trans (hb7.mono HB6.out.size))
    have HN7 := Lib.hid (HN6.out.below hb7 HN6.out.lt)
    have HV75 := Lib.hid (HV65.out.below hb7)
    have HV76 := Lib.hid (HV6.out.below hb7)
    clear hb7
    simp only [decide_true]
    go_wp2_with fail
    refine (rsteps10_any d.2 d.2 v5 v6 _ HV75.out HV76.out HCL.out.2 HCL.out.2).mono ?_
    rintro r w8 ⟨rfl, hb8⟩
    have HB8 := Lib.hid (HB7.out.trans (hb8.mono HB7.out.size))
    have HN8 := Lib.hid (HN7.out.below hb8 HN7.out.lt)
    clear hb8
    simp only [decide_true]
    have q0 := (HN8.out.cell 0).trans rfl
    have q1 := (HN8.out.cell 1).trans rfl
    have q2 := (HN8.out.cell 2).trans rfl
    have q3 := (HN8.out.cell 3).trans rfl
    have q4 := (HN8.out.cell 4).trans rfl
    have q5 := (HN8.out.cell 5).trans rfl
    go_wp2_with fail
    refine (vmay_any v a f A c _ (HROW.out.under HB8.out (Nat.le_refl _) HB8.out.size) HF.out HOK.out).mono ?_
    rintro r w9 ⟨rfl, hb9⟩
    have HB9 := Lib.hid (HB8.out.trans (hb9.mono HB8.out.size))
    clear hb9 q0 q1 q2 q3 q4 q5
    rw [HM.out]
    cases hz : ((e.1 : Int) == 0) with
    | true =>
      go_wp2
      go_ret
      exact ⟨rfl, HB9.out⟩
    | false =>
      go_wp2
      go_ret
      exact ⟨rfl, HB9.out⟩
end Go.Proofs.YtljjaikejfoanaaGreat
namespace Go.Proofs.YtljjaikejfoanaaGreat
open Go.RowKit
def pD10 : NdD := ⟨nPort, [97], 0, 0, []⟩
theorem ex10a : CheckX 1 (zeroT, .nil) = (0, []) := by decide
theorem ex10b : CheckX 1 (zeroT, .cons pD10 .nil .nil) = (25, [(nPort, [97]), (nDefault, [])]) := by decide
theorem ex10c : CheckX 4 (zeroT, .nil) = (28, []) := by decide
theorem ex10d : MayX 3 (zeroT, .nil) = true := by decide
theorem ex10e : MayX 1 ((⟨[120], [], 0, 0, []⟩ : NdD), .nil) = false := by decide
theorem row10 (w : World) (g : Nat) (hb : Blk w g 27 #[.string ⟨#[112, 111, 114, 116]⟩, .string ⟨#[97]⟩, .int .i64 0, .int .u64 0, .string ⟨#[]⟩, .slice none 0 0]) : RowT w.heap.size w (.slice (some ⟨g, 0, none⟩) 1 1) (.cons pD10 .nil .nil) :=
  FrV.lit (e := 27) (xs := ndC pD10 (.slice none 0 0)) (f := Fr.cons pD10 .nil .nil) hb.lt hb ⟨_, [], rfl, LieB.make (a := pD10) (f := .nil) (FrV.empty _ _ _), rfl⟩ (Nat.le_refl _)
theorem okd10 {a : NdD} (h1 : a.name.length ≤ 100) (h2 : a.key.length ≤ 100) (h3 : a.kind = 0) (h4 : a.num = 0) (h5 : a.text = []) : OkD a := ⟨by omega, by omega, by omega, by omega, by omega, by rw [h5]; decide⟩
set_option maxRecDepth 100000 in
set_option maxHeartbeats 4000000 in
theorem awake10_any (w : World) : Calls Tryz.prog 6 #[] w (Ans9 (.bool true) w) := by
  have HA : ∀ W, Hid (Calls Tryz.prog 8 #[.int .i64 1, .agg #[.string ⟨#[]⟩, .string ⟨#[]⟩, .int .i64 0, .int .u64 0, .string ⟨#[]⟩, .slice none 0 0]] W (FirstP (0, []) W)) := fun W => Lib.hid (by have h := vcheck_any 1 zeroT .nil none 0 W (FrV.empty _ _ _) (by decide) trivial; rw [ex10a] at h; exact h)
  have HC : ∀ W, Hid (Calls Tryz.prog 8 #[.int .i64 4, .agg #[.string ⟨#[]⟩, .string ⟨#[]⟩, .int .i64 0, .int .u64 0, .string ⟨#[]⟩, .slice none 0 0]] W (FirstP (28, []) W)) := fun W => Lib.hid (by have h := vcheck_any 4 zeroT .nil none 0 W (FrV.empty _ _ _) (by decide) trivial; rw [ex10c] at h; exact h)
  have HD : ∀ W, Hid (Calls Tryz.prog 13 #[.int .i64 3, .agg #[.string ⟨#[]⟩, .string ⟨#[]⟩, .int .i64 0, .int .u64 0, .string ⟨#[]⟩, .slice none 0 0]] W (Ans9 (.bool true) W)) := fun W => Lib.hid (by have h := vmay_any 3 zeroT .nil none 0 W (FrV.empty _ _ _) (by decide) trivial; rw [ex10d] at h; exact h)
  have HE : ∀ W, Hid (Calls Tryz.prog 13 #[.int .i64 1, .agg #[.string ⟨#[120]⟩, .string ⟨#[]⟩, .int .i64 0, .int .u64 0, .string ⟨#[]⟩, .slice none 0 0]] W (Ans9 (.bool false) W)) := fun W => Lib.hid (by have h := vmay_any 1 (⟨[120], [], 0, 0, []⟩ : NdD) .nil none 0 W (FrV.empty _ _ _) (by decide) trivial; rw [ex10e] at h; exact h)
  have HB : ∀ W g, Blk W g 27 #[.string ⟨#[112, 111, 114, 116]⟩, .string ⟨#[97]⟩, .int .i64 0, .int .u64 0, .string ⟨#[]⟩, .slice none 0 0] → Hid (Calls Tryz.prog 8 #[.int .i64 1, .agg #[.string ⟨#[]⟩, .string ⟨#[]⟩, .int .i64 0, .int .u64 0, .string ⟨#[]⟩, .slice (some ⟨g, 0, none⟩) 1 1]] W (FirstP (25, [(nPort, [97]), (nDefault, [])]) W)) := fun W g hg => Lib.hid (by
    have h := vcheck_any 1 zeroT (.cons pD10 .nil .nil) (some ⟨g, 0, none⟩) 1 W (row10 W g hg) (by decide) ⟨okd10 (by decide) (by decide) rfl rfl rfl, trivial, trivial⟩
    rw [ex10b] at h
    exact h)
  have HPB := Lib.hid (Blk.new w 27 #[.string ⟨#[112, 111, 114, 116]⟩, .string ⟨#[97]⟩, .int .i64 0, .int .u64 0, .string ⟨#[]⟩, .slice none 0 0])
  have HX1 : Hid (Below w.heap.size w (w.alloc (.cells #[.string ⟨#[112, 111, 114, 116]⟩, .string ⟨#[97]⟩, .int .i64 0, .int .u64 0, .string ⟨#[]⟩, .slice none 0 0] 27))) := Lib.hid ((Below.refl _ _).alloc (Nat.le_refl _) _)
  go_enter Tryz.func6, Tryz.ntmps6
  go_wp2_with fail
  refine (HA _).out.mono ?_
  rintro r w1 ⟨v1, rfl, -, hb1⟩
  have HP1 := Lib.hid (HPB.out.below hb1 HPB.out.lt)
  have HB1 := Lib.hid (HX1.out.trans (hb1.mono HX1.out.size))
  clear hb1
  have p0 := (HP1.out.cell 0).trans rfl
  have p1 := (HP1.out.cell 1).trans rfl
  have p2 := (HP1.out.cell 2).trans rfl
  have p3 := (HP1.out.cell 3).trans rfl
  have p4 := (HP1.out.cell 4).trans rfl
  have p5 := (HP1.out.cell 5).trans rfl
  go_wp2_with fail
  refine (HB _ w1.heap.size (Blk.new w1 27 #[.string ⟨#[112, 111, 114, 116]⟩, .string ⟨#[97]⟩, .int .i64 0, .int .u64 0, .string ⟨#[]⟩, .slice none 0 0])).out.mono ?_
  rintro r w2 ⟨v2, rfl, hv2, hb2⟩
  have HV2 := Lib.hid hv2
  have HB2 : Hid (Below w.heap.size w w2) := Lib.hid ((HB1.out.alloc HB1.out.size _).trans (hb2.mono (by have := HB1.out.size; simp; omega)))
  clear hv2 hb2 p0 p1 p2 p3 p4 p5
  go_wp2_with fail
  refine (HC _).out.mono ?_
  rintro r w3 ⟨v3, rfl, -, hb3⟩
  have HV3 := Lib.hid (HV2.out.below hb3)
  have HB3 := Lib.hid (HB2.out.trans (hb3.mono HB2.out.size))
  clear hb3
  have hal : Below w3.heap.size w3 (w3.alloc (.cells #[.string (txt nPort), .string (txt [97]), .string (txt nDefault), .string (txt [])] 45)) := (Below.refl _ _).alloc (Nat.le_refl _) _
  have HST : Hid (Calls Tryz.prog 12 #[v2, .slice (some ⟨w3.heap.size, 0, none⟩) 2 2] (w3.alloc (.cells #[.string (txt nPort), .string (txt [97]), .string (txt nDefault), .string (txt [])] 45)) (Ans9 (.bool true) (w3.alloc (.cells #[.string (txt nPort), .string (txt [97]), .string (txt nDefault), .string (txt [])] 45)))) := Lib.hid (by
    have h := rsteps10_any [(nPort, [97]), (nDefault, [])] [(nPort, [97]), (nDefault, [])] v2 (.slice (some ⟨w3.heap.size, 0, none⟩) 2 2) (w3.alloc (.cells #[.string (txt nPort), .string (txt [97]), .string (txt nDefault), .string (txt [])] 45)) (HV3.out.below hal) (OwnS.two (w := w3) (nPort, [97]) (nDefault, []) (base := 0) (Nat.zero_le _)).way (by decide) (by decide)
    rw [decide_eq_true rfl] at h
    exact h)
  have HAL := Lib.hid (HB3.out.alloc HB3.out.size (.cells #[.string (txt nPort), .string (txt [97]), .string (txt nDefault), .string (txt [])] 45))
  clear hal
  go_wp2_with fail
  refine HST.out.mono ?_
  rintro r w4 ⟨rfl, hb4⟩
  have HB4 := Lib.hid (HAL.out.trans (hb4.mono HAL.out.size))
  clear hb4
  go_wp2_with fail
  refine (HD _).out.mono ?_
  rintro r w5 ⟨rfl, hb5⟩
  have HB5 := Lib.hid (HB4.out.trans (hb5.mono HB4.out.size))
  clear hb5
  go_wp2_with fail
  refine (HE _).out.mono ?_
  rintro r w6 ⟨rfl, hb6⟩
  have HB6 := Lib.hid (HB5.out.trans (hb6.mono HB5.out.size))
  clear hb6
  go_wp2
  go_ret
  exact ⟨rfl, HB6.out⟩
theorem awake10 (w : World) : Awake10 w := fun W _ => awake10_any W
end Go.Proofs.YtljjaikejfoanaaGreat
