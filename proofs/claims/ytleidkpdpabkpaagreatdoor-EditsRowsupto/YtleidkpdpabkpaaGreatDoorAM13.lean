/- EdtRefB TlvAll TlvRight -/
import Derived.Test.YtleidkpdpabkpaaGreatDoorAM12
set_option linter.unusedSimpArgs false
set_option linter.unusedVariables false
set_option maxRecDepth 100000
set_option maxHeartbeats 8000000
namespace Go.Proofs.YtleidkpdpabkpaaGreatDoor
open Go.RowKit
section
attribute [local go_sem] Oper.semAt_some
structure OkE18 (e : EdD) : Prop where
 way : e.way.length ≤ 1000000
 txts : ∀ s ∈ e.way, s.1.length ≤ 9223372036854775807 ∧ s.2.length ≤ 9223372036854775807
 node : e.node.2.size ≤ 1000000
 old : e.old.2.size ≤ 1000000
 nodeT : OkN e.node
 oldT : OkN e.old
theorem all_take18 {l : List EdD} {j : Nat} {x : EdD} (hx : l[j]? = some x) (h : (l.take j).all okE18 = true) (h2 : okE18 x = true) : (l.take (j + 1)).all okE18 = true := by
 rw [List.take_add_one, hx, List.all_append, h]
 simp [h2]
theorem all_no18 {l : List EdD} {j : Nat} {x : EdD} (hx : l[j]? = some x) (h2 : okE18 x = false) : l.all okE18 = false := by
 rw [Bool.eq_false_iff]
 intro h
 rw [List.all_eq_true] at h
 rw [h x (List.mem_of_getElem? hx)] at h2
 cases h2
theorem rcheck18_any (l : List EdD) (v : Value) (w : World) (hv : EdsV (Bel w) w v l) (hl : l.length ≤ 1000000) (hok : ∀ e ∈ l, OkE18 e) :
  Calls Tryz.prog 12 #[v] w (Ans9 (.bool (l.all okE18)) w) := by
 obtain ⟨B, d, rfl⟩ := hv.shape
 have HV := hHd hv
 have HF := hHd hok
 have HB0 : Hid (Below w.heap.size w w) := hHd (Below.refl _ _)
 clear hv hok
 go_enter Tryz.func12, Tryz.ntmps12
 go_wp2
 go_loopw [3] (fun vi wr => ∃ (j : Nat), j ≤ l.length ∧ vi = .int .i64 (j : Int) ∧ Hid ((l.take j).all okE18 = true) ∧ Hid (Below w.heap.size w wr)) (fun vi _ => l.length - (intOf vi).toNat)
 case atStart => exact ⟨0, Nat.zero_le _, rfl, hHd rfl, HB0⟩
 case round =>
  clear HB0
  obtain ⟨j, hj, rfl, HR, HB⟩ := hrel
  obtain ⟨w7, hw7⟩ : ∃ w7, w7 = wr := ⟨_, rfl⟩
  subst hw7
  have i1 : (0 : Int) ≤ (j : Int) := by omega
  by_cases hlt : j < l.length
  ·have i2 : (j : Int) < (l.length : Int) := by omega
   obtain ⟨x, hx⟩ : ∃ x, l[j]? = some x := ⟨_, List.getElem?_eq_getElem hlt⟩
   have hokx := HF.out x (List.mem_of_getElem? hx)
   obtain ⟨g9, o9, Aw, cw, An, cn, Ao, co, rfl, -, -, hg9, hw9, hn9, ho9, hcl⟩ := HV.out.at hx
   obtain ⟨xk, xw, ⟨xp, xpf⟩, ⟨xo, xof⟩⟩ := x
   simp only at hw9 hn9 ho9 hcl
   have HNO : Hid (okE18 ⟨xk, xw, (xp, xpf), (xo, xof)⟩ = false → l.all okE18 = false) := hHd (fun h => all_no18 hx h)
   have HYE : Hid (okE18 ⟨xk, xw, (xp, xpf), (xo, xof)⟩ = true → (l.take (j + 1)).all okE18 = true) := hHd (fun h => all_take18 hx HR.out h)
   have hb8 : Below w7.heap.size w7 (w7.alloc (.cells #[.int .i64 xk, .slice Aw xw.length cw, .string (txt xp.name), .string (txt xp.key), .int .i64 xp.kind, .int .u64 (xp.num : Int), .string (txt xp.text), .slice An xpf.len cn, .string (txt xo.name), .string (txt xo.key), .int .i64 xo.kind, .int .u64 (xo.num : Int), .string (txt xo.text), .slice Ao xof.len co] 55)) := bAl
   have HB8 : Hid (Below w.heap.size w (w7.alloc (.cells #[.int .i64 xk, .slice Aw xw.length cw, .string (txt xp.name), .string (txt xp.key), .int .i64 xp.kind, .int .u64 (xp.num : Int), .string (txt xp.text), .slice An xpf.len cn, .string (txt xo.name), .string (txt xo.key), .int .i64 xo.kind, .int .u64 (xo.num : Int), .string (txt xo.text), .slice Ao xof.len co] 55))) := hHd (HB.out.trans (hb8.mono HB.out.size))
   have HE8 : Hid (Blk (w7.alloc (.cells #[.int .i64 xk, .slice Aw xw.length cw, .string (txt xp.name), .string (txt xp.key), .int .i64 xp.kind, .int .u64 (xp.num : Int), .string (txt xp.text), .slice An xpf.len cn, .string (txt xo.name), .string (txt xo.key), .int .i64 xo.kind, .int .u64 (xo.num : Int), .string (txt xo.text), .slice Ao xof.len co] 55)) w7.heap.size 55 #[.int .i64 xk, .slice Aw xw.length cw, .string (txt xp.name), .string (txt xp.key), .int .i64 xp.kind, .int .u64 (xp.num : Int), .string (txt xp.text), .slice An xpf.len cn, .string (txt xo.name), .string (txt xo.key), .int .i64 xo.kind, .int .u64 (xo.num : Int), .string (txt xo.text), .slice Ao xof.len co]) := hHd (Blk.new _ _ _)
   have HLP : LieN w (ndC xp (.slice An xpf.len cn)) (xp, xpf) := LieB.make (a := xp) (hn9 : RowT w.heap.size w _ xpf)
   have HLO : LieN w (ndC xo (.slice Ao xof.len co)) (xo, xof) := LieB.make (a := xo) (ho9 : RowT w.heap.size w _ xof)
   have HSH : ∀ W, Below w.heap.size w W → Hid (Calls Tryz.prog 25 #[.slice Aw xw.length cw] W (ShowP xw W)) := fun W hW => hHd (rshow15_any xw _ W (WayV.below hw9 hW) hokx.way hokx.txts)
   obtain ⟨ep, hep⟩ : ∃ b, b = decide ((xp, xpf) = noN) := ⟨_, rfl⟩
   obtain ⟨eo, heo⟩ : ∃ b, b = decide ((xo, xof) = noN) := ⟨_, rfl⟩
   obtain ⟨np, hnp⟩ : ∃ b, b = okN18 (xp, xpf) := ⟨_, rfl⟩
   obtain ⟨no, hno⟩ : ∃ b, b = okN18 (xo, xof) := ⟨_, rfl⟩
   have HEP : ∀ W, Hid (Calls Tryz.prog 26 #[.agg (cN xp (.slice An xpf.len cn))] W (Ans9 (.bool ep) W)) := fun W => hHd (by rw [hep]; exact rempty_any xp xpf An cn W)
   have HEO : ∀ W, Hid (Calls Tryz.prog 26 #[.agg (cN xo (.slice Ao xof.len co))] W (Ans9 (.bool eo) W)) := fun W => hHd (by rw [heo]; exact rempty_any xo xof Ao co W)
   have HNP : ∀ W, Below w.heap.size w W → Hid (Calls Tryz.prog 27 #[.agg (cN xp (.slice An xpf.len cn))] W (Ans9 (.bool np) W)) := fun W hW => hHd (by rw [hnp]; exact rnode_any (xp, xpf) _ W (HLP.below hW) hokx.node)
   have HNQ : ∀ W, Below w.heap.size w W → Hid (Calls Tryz.prog 27 #[.agg (cN xo (.slice Ao xof.len co))] W (Ans9 (.bool no) W)) := fun W hW => hHd (by rw [hno]; exact rnode_any (xo, xof) _ W (HLO.below hW) hokx.old)
   have HEQ : Hid (okE18 ⟨xk, xw, (xp, xpf), (xo, xof)⟩ = ((decide (xk = 1) || decide (xk = 2) || decide (xk = 3)) && decide (xw ≠ []) && decide (showX xw ≠ []) && (decide (xk ≠ 2) || ep) && (decide (xk ≠ 1) || eo) && np && no)) := hHd (by unfold okE18; rw [hep, heo, hnp, hno])
   have HCL : ∀ i u, (edC xk (.slice Aw xw.length cw) xp (.slice An xpf.len cn) xo (.slice Ao xof.len co))[i]? = some u → w7.cell? ⟨g9, o9 + j * 14 + i, none⟩ = some u := fun i u hu => (HB.out.cell (p := ⟨g9, o9 + j * 14 + i, none⟩) hg9).trans (hcl i u hu)
   have p0 : w7.cell? ⟨g9, o9 + j * 14, none⟩ = _ := HCL 0 _ rfl
   have p1 := HCL 1 _ rfl
   have p2 := HCL 2 _ rfl
   have p3 := HCL 3 _ rfl
   have p4 := HCL 4 _ rfl
   have p5 := HCL 5 _ rfl
   have p6 := HCL 6 _ rfl
   have p7 := HCL 7 _ rfl
   have p8 := HCL 8 _ rfl
   have p9 := HCL 9 _ rfl
   have p10 := HCL 10 _ rfl
   have p11 := HCL 11 _ rfl
   have p12 := HCL 12 _ rfl
   have p13 := HCL 13 _ rfl
   have n0 : j < l.length := hlt
   clear hw9 hn9 ho9 hcl hx hg9 hlt hb8 HCL hokx HLP HLO hep heo hnp hno
   go_upto_region 5 with (fail)
   clear p0 p1 p2 p3 p4 p5 p6 p7 p8 p9 p10 p11 p12 p13
   revert HB8 HE8
   generalize (w7.alloc (.cells #[.int .i64 xk, .slice Aw xw.length cw, .string (txt xp.name), .string (txt xp.key), .int .i64 xp.kind, .int .u64 (xp.num : Int), .string (txt xp.text), .slice An xpf.len cn, .string (txt xo.name), .string (txt xo.key), .int .i64 xo.kind, .int .u64 (xo.num : Int), .string (txt xo.text), .slice Ao xof.len co] 55)) = w8
   intro HB8 HE8
   have tsh : (txt (showX xw)).toList = showX xw := txt_toList _
   have q0 := (HE8.out.cell 0).trans rfl
   have q1 := (HE8.out.cell 1).trans rfl
   by_cases hk : xk = 1 ∨ xk = 2 ∨ xk = 3
   rotate_left
   ·have k1 : (xk != 1) = true := by simp; omega
    have k2 : (xk != 2) = true := by simp; omega
    have k3 : (xk != 3) = true := by simp; omega
    have hf : Hid (xk ≠ 1 ∧ xk ≠ 2 ∧ xk ≠ 3) := hHd (by omega)
    clear hk
    have HX : Hid (l.all okE18 = false) := hHd (HNO.out (by rw [HEQ.out]; simp [hf.out.1, hf.out.2.1, hf.out.2.2]))
    clear HNO HYE HEQ HR
    go_wp2
    go_ret
    exact ⟨by rw [HX.out]; rfl, HB8.out⟩
   rcases hk with rfl | rfl | rfl
   ·by_cases hw : xw = []
    ·have l0 : ((xw.length : Int) == 0) = true := by simp [hw]
     have l1 : (xw.length == 0) = true := by simp [hw]
     have hf : Hid (xw = []) := hHd hw
     clear hw
     have HX : Hid (l.all okE18 = false) := hHd (HNO.out (by rw [HEQ.out]; simp [hf.out]))
     clear HNO HYE HEQ HR
     go_wp2
     go_ret
     exact ⟨by rw [HX.out]; rfl, HB8.out⟩
    have l9 : 0 < xw.length := List.length_pos_iff.2 hw
    have l0 : ((xw.length : Int) == 0) = false := by simp; exact hw
    have l1 : (xw.length == 0) = false := by simp; exact hw
    have hfw : Hid (xw ≠ []) := hHd hw
    clear hw l9
    by_cases hs : showX xw = []
    ·have s0 : (showX xw == []) = true := by rw [hs]; rfl
     have s1 : (showX xw).isEmpty = true := by rw [hs]; rfl
     have hf : Hid (showX xw = []) := hHd hs
     clear hs
     go_wp2_with fail
     refine (HSH _ HB8.out).out.mono ?_
     rintro r w9 ⟨rfl, hb⟩
     have HE9 := hHd (HE8.out.below hb HE8.out.lt)
     have HB9 := hHd (HB8.out.trans (hb.mono HB8.out.size))
     clear hb HE8 HB8
     have HX : Hid (l.all okE18 = false) := hHd (HNO.out (by rw [HEQ.out]; simp [hf.out]))
     clear HNO HYE HEQ HR
     go_wp2
     go_ret
     exact ⟨by rw [HX.out]; rfl, HB9.out⟩
    have s0 : (showX xw == []) = false := by cases e : showX xw with | nil => exact absurd e hs | cons => rfl
    have s1 : (showX xw).isEmpty = false := by cases e : showX xw with | nil => exact absurd e hs | cons => rfl
    have hfs : Hid (showX xw ≠ []) := hHd hs
    clear hs
    go_wp2_with fail
    refine (HSH _ HB8.out).out.mono ?_
    rintro r w9 ⟨rfl, hb⟩
    have HE9 := hHd (HE8.out.below hb HE8.out.lt)
    have HB9 := hHd (HB8.out.trans (hb.mono HB8.out.size))
    clear hb HE8 HB8
    clear q0 q1
    have q2 := (HE9.out.cell 2).trans rfl
    have q3 := (HE9.out.cell 3).trans rfl
    have q4 := (HE9.out.cell 4).trans rfl
    have q5 := (HE9.out.cell 5).trans rfl
    have q6 := (HE9.out.cell 6).trans rfl
    have q7 := (HE9.out.cell 7).trans rfl
    go_wp2_with fail
    refine (HEP _).out.mono ?_
    rintro r w10 ⟨rfl, hb⟩
    have HE10 := hHd (HE9.out.below hb HE9.out.lt)
    have HB10 := hHd (HB9.out.trans (hb.mono HB9.out.size))
    clear hb HE9 HB9
    clear s0 s1 l0 l1 tsh q2 q3 q4 q5 q6 q7
    have q8 := (HE10.out.cell 8).trans rfl
    have q9 := (HE10.out.cell 9).trans rfl
    have q10 := (HE10.out.cell 10).trans rfl
    have q11 := (HE10.out.cell 11).trans rfl
    have q12 := (HE10.out.cell 12).trans rfl
    have q13 := (HE10.out.cell 13).trans rfl
    go_wp2_with fail
    refine (HEO _).out.mono ?_
    rintro r w11 ⟨rfl, hb⟩
    have HE11 := hHd (HE10.out.below hb HE10.out.lt)
    have HB11 := hHd (HB10.out.trans (hb.mono HB10.out.size))
    clear hb HE10 HB10
    clear q8 q9 q10 q11 q12 q13
    have q0 := (HE11.out.cell 0).trans rfl
    cases eo with
    | false =>
     have HX : Hid (l.all okE18 = false) := hHd (HNO.out (by rw [HEQ.out]; simp))
     clear HNO HYE HEQ HR
     go_wp2
     go_ret
     exact ⟨by rw [HX.out]; rfl, HB11.out⟩
    | true =>
     go_upto_region 11 with (fail)
     clear q0
     have q2 := (HE11.out.cell 2).trans rfl
     have q3 := (HE11.out.cell 3).trans rfl
     have q4 := (HE11.out.cell 4).trans rfl
     have q5 := (HE11.out.cell 5).trans rfl
     have q6 := (HE11.out.cell 6).trans rfl
     have q7 := (HE11.out.cell 7).trans rfl
     go_wp2_with fail
     refine (HNP _ HB11.out).out.mono ?_
     rintro r w12 ⟨rfl, hb⟩
     have HE12 := hHd (HE11.out.below hb HE11.out.lt)
     have HB12 := hHd (HB11.out.trans (hb.mono HB11.out.size))
     clear hb HE11 HB11
     clear q2 q3 q4 q5 q6 q7
     have q8 := (HE12.out.cell 8).trans rfl
     have q9 := (HE12.out.cell 9).trans rfl
     have q10 := (HE12.out.cell 10).trans rfl
     have q11 := (HE12.out.cell 11).trans rfl
     have q12 := (HE12.out.cell 12).trans rfl
     have q13 := (HE12.out.cell 13).trans rfl
     go_wp2_with fail
     refine (HNQ _ HB12.out).out.mono ?_
     rintro r w13 ⟨rfl, hb⟩
     have HE13 := hHd (HE12.out.below hb HE12.out.lt)
     have HB13 := hHd (HB12.out.trans (hb.mono HB12.out.size))
     clear hb HE12 HB12
     clear q8 q9 q10 q11 q12 q13
     cases np with
     | false =>
      have HX : Hid (l.all okE18 = false) := hHd (HNO.out (by rw [HEQ.out]; simp))
      clear HNO HYE HEQ HR
      go_wp2
      go_ret
      exact ⟨by rw [HX.out]; rfl, HB13.out⟩
     | true =>
      cases no with
      | false =>
       have HX : Hid (l.all okE18 = false) := hHd (HNO.out (by rw [HEQ.out]; simp))
       clear HNO HYE HEQ HR
       go_wp2
       go_ret
       exact ⟨by rw [HX.out]; rfl, HB13.out⟩
      | true =>
       have HX := hHd (HYE.out (by rw [HEQ.out]; simp [hfw.out, hfs.out]))
       clear HNO HYE HEQ HR
       go_wp2
       go_roundw
       case rel => exact ⟨j + 1, by omega, by go_num, HX, HB13⟩
       case measure => simp [intOf]; omega
   ·by_cases hw : xw = []
    ·have l0 : ((xw.length : Int) == 0) = true := by simp [hw]
     have l1 : (xw.length == 0) = true := by simp [hw]
     have hf : Hid (xw = []) := hHd hw
     clear hw
     have HX : Hid (l.all okE18 = false) := hHd (HNO.out (by rw [HEQ.out]; simp [hf.out]))
     clear HNO HYE HEQ HR
     go_wp2
     go_ret
     exact ⟨by rw [HX.out]; rfl, HB8.out⟩
    have l9 : 0 < xw.length := List.length_pos_iff.2 hw
    have l0 : ((xw.length : Int) == 0) = false := by simp; exact hw
    have l1 : (xw.length == 0) = false := by simp; exact hw
    have hfw : Hid (xw ≠ []) := hHd hw
    clear hw l9
    by_cases hs : showX xw = []
    ·have s0 : (showX xw == []) = true := by rw [hs]; rfl
     have s1 : (showX xw).isEmpty = true := by rw [hs]; rfl
     have hf : Hid (showX xw = []) := hHd hs
     clear hs
     go_wp2_with fail
     refine (HSH _ HB8.out).out.mono ?_
     rintro r w9 ⟨rfl, hb⟩
     have HE9 := hHd (HE8.out.below hb HE8.out.lt)
     have HB9 := hHd (HB8.out.trans (hb.mono HB8.out.size))
     clear hb HE8 HB8
     have HX : Hid (l.all okE18 = false) := hHd (HNO.out (by rw [HEQ.out]; simp [hf.out]))
     clear HNO HYE HEQ HR
     go_wp2
     go_ret
     exact ⟨by rw [HX.out]; rfl, HB9.out⟩
    have s0 : (showX xw == []) = false := by cases e : showX xw with | nil => exact absurd e hs | cons => rfl
    have s1 : (showX xw).isEmpty = false := by cases e : showX xw with | nil => exact absurd e hs | cons => rfl
    have hfs : Hid (showX xw ≠ []) := hHd hs
    clear hs
    go_wp2_with fail
    refine (HSH _ HB8.out).out.mono ?_
    rintro r w9 ⟨rfl, hb⟩
    have HE9 := hHd (HE8.out.below hb HE8.out.lt)
    have HB9 := hHd (HB8.out.trans (hb.mono HB8.out.size))
    clear hb HE8 HB8
    clear q0 q1
    have q2 := (HE9.out.cell 2).trans rfl
    have q3 := (HE9.out.cell 3).trans rfl
    have q4 := (HE9.out.cell 4).trans rfl
    have q5 := (HE9.out.cell 5).trans rfl
    have q6 := (HE9.out.cell 6).trans rfl
    have q7 := (HE9.out.cell 7).trans rfl
    go_wp2_with fail
    refine (HEP _).out.mono ?_
    rintro r w10 ⟨rfl, hb⟩
    have HE10 := hHd (HE9.out.below hb HE9.out.lt)
    have HB10 := hHd (HB9.out.trans (hb.mono HB9.out.size))
    clear hb HE9 HB9
    clear s0 s1 l0 l1 tsh q2 q3 q4 q5 q6 q7
    have q8 := (HE10.out.cell 8).trans rfl
    have q9 := (HE10.out.cell 9).trans rfl
    have q10 := (HE10.out.cell 10).trans rfl
    have q11 := (HE10.out.cell 11).trans rfl
    have q12 := (HE10.out.cell 12).trans rfl
    have q13 := (HE10.out.cell 13).trans rfl
    go_wp2_with fail
    refine (HEO _).out.mono ?_
    rintro r w11 ⟨rfl, hb⟩
    have HE11 := hHd (HE10.out.below hb HE10.out.lt)
    have HB11 := hHd (HB10.out.trans (hb.mono HB10.out.size))
    clear hb HE10 HB10
    clear q8 q9 q10 q11 q12 q13
    have q0 := (HE11.out.cell 0).trans rfl
    cases ep with
    | false =>
     have HX : Hid (l.all okE18 = false) := hHd (HNO.out (by rw [HEQ.out]; simp))
     clear HNO HYE HEQ HR
     go_wp2
     go_ret
     exact ⟨by rw [HX.out]; rfl, HB11.out⟩
    | true =>
     go_upto_region 11 with (fail)
     clear q0
     have q2 := (HE11.out.cell 2).trans rfl
     have q3 := (HE11.out.cell 3).trans rfl
     have q4 := (HE11.out.cell 4).trans rfl
     have q5 := (HE11.out.cell 5).trans rfl
     have q6 := (HE11.out.cell 6).trans rfl
     have q7 := (HE11.out.cell 7).trans rfl
     go_wp2_with fail
     refine (HNP _ HB11.out).out.mono ?_
     rintro r w12 ⟨rfl, hb⟩
     have HE12 := hHd (HE11.out.below hb HE11.out.lt)
     have HB12 := hHd (HB11.out.trans (hb.mono HB11.out.size))
     clear hb HE11 HB11
     clear q2 q3 q4 q5 q6 q7
     have q8 := (HE12.out.cell 8).trans rfl
     have q9 := (HE12.out.cell 9).trans rfl
     have q10 := (HE12.out.cell 10).trans rfl
     have q11 := (HE12.out.cell 11).trans rfl
     have q12 := (HE12.out.cell 12).trans rfl
     have q13 := (HE12.out.cell 13).trans rfl
     go_wp2_with fail
     refine (HNQ _ HB12.out).out.mono ?_
     rintro r w13 ⟨rfl, hb⟩
     have HE13 := hHd (HE12.out.below hb HE12.out.lt)
     have HB13 := hHd (HB12.out.trans (hb.mono HB12.out.size))
     clear hb HE12 HB12
     clear q8 q9 q10 q11 q12 q13
     cases np with
     | false =>
      have HX : Hid (l.all okE18 = false) := hHd (HNO.out (by rw [HEQ.out]; simp))
      clear HNO HYE HEQ HR
      go_wp2
      go_ret
      exact ⟨by rw [HX.out]; rfl, HB13.out⟩
     | true =>
      cases no with
      | false =>
       have HX : Hid (l.all okE18 = false) := hHd (HNO.out (by rw [HEQ.out]; simp))
       clear HNO HYE HEQ HR
       go_wp2
       go_ret
       exact ⟨by rw [HX.out]; rfl, HB13.out⟩
      | true =>
       have HX := hHd (HYE.out (by rw [HEQ.out]; simp [hfw.out, hfs.out]))
       clear HNO HYE HEQ HR
       go_wp2
       go_roundw
       case rel => exact ⟨j + 1, by omega, by go_num, HX, HB13⟩
       case measure => simp [intOf]; omega
   ·by_cases hw : xw = []
    ·have l0 : ((xw.length : Int) == 0) = true := by simp [hw]
     have l1 : (xw.length == 0) = true := by simp [hw]
     have hf : Hid (xw = []) := hHd hw
     clear hw
     have HX : Hid (l.all okE18 = false) := hHd (HNO.out (by rw [HEQ.out]; simp [hf.out]))
     clear HNO HYE HEQ HR
     go_wp2
     go_ret
     exact ⟨by rw [HX.out]; rfl, HB8.out⟩
    have l9 : 0 < xw.length := List.length_pos_iff.2 hw
    have l0 : ((xw.length : Int) == 0) = false := by simp; exact hw
    have l1 : (xw.length == 0) = false := by simp; exact hw
    have hfw : Hid (xw ≠ []) := hHd hw
    clear hw l9
    by_cases hs : showX xw = []
    ·have s0 : (showX xw == []) = true := by rw [hs]; rfl
     have s1 : (showX xw).isEmpty = true := by rw [hs]; rfl
     have hf : Hid (showX xw = []) := hHd hs
     clear hs
     go_wp2_with fail
     refine (HSH _ HB8.out).out.mono ?_
     rintro r w9 ⟨rfl, hb⟩
     have HE9 := hHd (HE8.out.below hb HE8.out.lt)
     have HB9 := hHd (HB8.out.trans (hb.mono HB8.out.size))
     clear hb HE8 HB8
     have HX : Hid (l.all okE18 = false) := hHd (HNO.out (by rw [HEQ.out]; simp [hf.out]))
     clear HNO HYE HEQ HR
     go_wp2
     go_ret
     exact ⟨by rw [HX.out]; rfl, HB9.out⟩
    have s0 : (showX xw == []) = false := by cases e : showX xw with | nil => exact absurd e hs | cons => rfl
    have s1 : (showX xw).isEmpty = false := by cases e : showX xw with | nil => exact absurd e hs | cons => rfl
    have hfs : Hid (showX xw ≠ []) := hHd hs
    clear hs
    go_wp2_with fail
    refine (HSH _ HB8.out).out.mono ?_
    rintro r w9 ⟨rfl, hb⟩
    have HE9 := hHd (HE8.out.below hb HE8.out.lt)
    have HB9 := hHd (HB8.out.trans (hb.mono HB8.out.size))
    clear hb HE8 HB8
    clear q0 q1
    have q2 := (HE9.out.cell 2).trans rfl
    have q3 := (HE9.out.cell 3).trans rfl
    have q4 := (HE9.out.cell 4).trans rfl
    have q5 := (HE9.out.cell 5).trans rfl
    have q6 := (HE9.out.cell 6).trans rfl
    have q7 := (HE9.out.cell 7).trans rfl
    go_wp2_with fail
    refine (HEP _).out.mono ?_
    rintro r w10 ⟨rfl, hb⟩
    have HE10 := hHd (HE9.out.below hb HE9.out.lt)
    have HB10 := hHd (HB9.out.trans (hb.mono HB9.out.size))
    clear hb HE9 HB9
    clear s0 s1 l0 l1 tsh q2 q3 q4 q5 q6 q7
    have q8 := (HE10.out.cell 8).trans rfl
    have q9 := (HE10.out.cell 9).trans rfl
    have q10 := (HE10.out.cell 10).trans rfl
    have q11 := (HE10.out.cell 11).trans rfl
    have q12 := (HE10.out.cell 12).trans rfl
    have q13 := (HE10.out.cell 13).trans rfl
    go_wp2_with fail
    refine (HEO _).out.mono ?_
    rintro r w11 ⟨rfl, hb⟩
    have HE11 := hHd (HE10.out.below hb HE10.out.lt)
    have HB11 := hHd (HB10.out.trans (hb.mono HB10.out.size))
    clear hb HE10 HB10
    clear q8 q9 q10 q11 q12 q13
    have q0 := (HE11.out.cell 0).trans rfl
    go_upto_region 11 with (fail)
    clear q0
    have q2 := (HE11.out.cell 2).trans rfl
    have q3 := (HE11.out.cell 3).trans rfl
    have q4 := (HE11.out.cell 4).trans rfl
    have q5 := (HE11.out.cell 5).trans rfl
    have q6 := (HE11.out.cell 6).trans rfl
    have q7 := (HE11.out.cell 7).trans rfl
    go_wp2_with fail
    refine (HNP _ HB11.out).out.mono ?_
    rintro r w12 ⟨rfl, hb⟩
    have HE12 := hHd (HE11.out.below hb HE11.out.lt)
    have HB12 := hHd (HB11.out.trans (hb.mono HB11.out.size))
    clear hb HE11 HB11
    clear q2 q3 q4 q5 q6 q7
    have q8 := (HE12.out.cell 8).trans rfl
    have q9 := (HE12.out.cell 9).trans rfl
    have q10 := (HE12.out.cell 10).trans rfl
    have q11 := (HE12.out.cell 11).trans rfl
    have q12 := (HE12.out.cell 12).trans rfl
    have q13 := (HE12.out.cell 13).trans rfl
    go_wp2_with fail
    refine (HNQ _ HB12.out).out.mono ?_
    rintro r w13 ⟨rfl, hb⟩
    have HE13 := hHd (HE12.out.below hb HE12.out.lt)
    have HB13 := hHd (HB12.out.trans (hb.mono HB12.out.size))
    clear hb HE12 HB12
    clear q8 q9 q10 q11 q12 q13
    cases np with
    | false =>
     have HX : Hid (l.all okE18 = false) := hHd (HNO.out (by rw [HEQ.out]; simp))
     clear HNO HYE HEQ HR
     go_wp2
     go_ret
     exact ⟨by rw [HX.out]; rfl, HB13.out⟩
    | true =>
     cases no with
     | false =>
      have HX : Hid (l.all okE18 = false) := hHd (HNO.out (by rw [HEQ.out]; simp))
      clear HNO HYE HEQ HR
      go_wp2
      go_ret
      exact ⟨by rw [HX.out]; rfl, HB13.out⟩
     | true =>
      have HX := hHd (HYE.out (by rw [HEQ.out]; simp [hfw.out, hfs.out]))
      clear HNO HYE HEQ HR
      go_wp2
      go_roundw
      case rel => exact ⟨j + 1, by omega, by go_num, HX, HB13⟩
      case measure => simp [intOf]; omega
  ·obtain rfl : j = l.length := by omega
   have i2 : ¬ (l.length : Int) < (l.length : Int) := by omega
   have HX : Hid (l.all okE18 = true) := hHd (by have h := HR.out; rwa [List.take_length] at h)
   clear hlt HR
   go_wp2
   go_ret
   exact ⟨by rw [HX.out]; rfl, HB.out⟩
end
def AllPost (f : Fo) (w : World) (r : Ending) (w' : World) : Prop := r = .returned (.string (txt f.all)) ∧ Below w.heap.size w w'
theorem pow_ten' {x : Nat} (h : x < 18446744073709551616) : x < 128 ^ (9 + 1) := by
 have : (18446744073709551616 : Nat) < 128 ^ (9 + 1) := by decide
 omega
theorem rput_at (x : Nat) (xI : Int) (P : List UInt8) (w : World) (h : x < 18446744073709551616) (e : xI = (x : Int)) (hP : P = encV 9 x) :
  Calls Tryz.prog 39 #[.int .u64 xI] w fun r w' => r = .returned (.string (txt P)) ∧ Below w.heap.size w w' := by
 subst e hP
 exact rput_any 9 (by omega) x w (pow_ten' h) h
theorem Fo.all_take (j : Nat) {f : Fo} {t : Nat} {d : List UInt8} {k : Fo} (h : Fo.take (j + 1) f = (Fo.take j f).app (.cons t d k .nil)) :
  (Fo.take (j + 1) f).all = (Fo.take j f).all ++ ((encV 9 t ++ encV 9 (Fo.inn t d k.all).length) ++ Fo.inn t d k.all) := by
 rw [h, Fo.all_app]
 simp only [Fo.all, List.append_nil, List.append_assoc]
theorem Fo.all_take_le (j : Nat) (f : Fo) : (Fo.take j f).all.length ≤ f.all.length := by
 have h := Fo.all_app (Fo.take j f) (Fo.drop j f)
 rw [Fo.take_app_drop] at h
 rw [h, List.length_append]; omega
theorem all_any (f : Fo) : ∀ (w : World) (v : Value), FV DataR w (Lo w) v f → f.sz ≤ 1099511627776 → Calls Tryz.prog 19 #[v] w (AllPost f w) := by
 refine Fo.byKids (P := fun f => ∀ (w : World) (v : Value), FV DataR w (Lo w) v f → f.sz ≤ 1099511627776 → Calls Tryz.prog 19 #[v] w (AllPost f w)) ?_ f
 clear f
 intro f hkids w v hv hsz
 obtain ⟨A, c, rfl⟩ := hv.shape
 have hws := f.wt_le_sz
 have hlw := f.len_le_wt
 have hal := f.all_le
 have hlen40 : f.len ≤ 1099511627776 := by omega
 have hall : f.all.length ≤ 22000000000000 := by omega
 have HK : Hid (Fo.kidsAll (fun f => ∀ (w : World) (v : Value), FV DataR w (Lo w) v f → f.sz ≤ 1099511627776 → Calls Tryz.prog 19 #[v] w (AllPost f w)) f) := hHd hkids
 clear hkids hws hlw hal
 go_enter Tryz.func19, Tryz.ntmps19
 go_wp2
 go_loopw [3, 4] (fun u i wr => ∃ (j : Nat) (T : List UInt8), j ≤ f.len ∧ i = .int .i64 (j : Int) ∧ u = .string (txt T) ∧ Hid (T = (Fo.take j f).all) ∧ Below w.heap.size w wr) (fun _ i _ => f.len - (intOf i).toNat)
 case atStart => exact ⟨0, [], Nat.zero_le _, rfl, rfl, hHd rfl, Below.refl _ _⟩
 case round =>
  obtain ⟨j, T, hj, rfl, rfl, HT, hB⟩ := hrel
  by_cases hlt : j < f.len
  ·obtain ⟨b, o, c', t, d, k, hve, hcap, hS, hdr, htk, ht64, hc0, ⟨dv, hc1, hdv⟩, ⟨kv, hc2, hkv⟩⟩ := hv.at hlt
   injection hve with e1 e2 e3
   subst e1 e3
   have hSb : b < w.heap.size := hS
   have hdv' : dv = .string (txt d) := hdv
   subst hdv'
   have hdrop : (Fo.drop j f).sz ≤ f.sz := by
    have h := Fo.sz_app (Fo.take j f) (Fo.drop j f)
    rw [Fo.take_app_drop] at h
    omega
   rw [hdr] at hdrop
   simp only [Fo.sz] at hdrop
   have hIH : ∀ (w : World) (v : Value), FV DataR w (Lo w) v k → k.sz ≤ 1099511627776 → Calls Tryz.prog 19 #[v] w (AllPost k w) := by
    have h := Fo.kidsAll_drop j HK.out
    rw [hdr] at h
    exact h.1
   have hks40 : k.sz ≤ 1099511627776 := by omega
   have hkv2 : FV DataR wr (Lo wr) kv k := hkv.kept stays_R (fun g hg => hB.block g hg) (fun _ hg => Nat.lt_of_lt_of_le hg hB.size)
   have HI := hHd (hIH wr kv hkv2 hks40)
   obtain ⟨P, hP⟩ : ∃ P, P = encV 9 t := ⟨_, rfl⟩
   obtain ⟨I, hI⟩ : ∃ I, I = Fo.inn t d k.all := ⟨_, rfl⟩
   obtain ⟨L, hL⟩ : ∃ L, L = encV 9 I.length := ⟨_, rfl⟩
   obtain ⟨PL, hPL⟩ : ∃ PL, PL = P ++ L := ⟨_, rfl⟩
   obtain ⟨PLI, hPLI⟩ : ∃ PLI, PLI = PL ++ I := ⟨_, rfl⟩
   obtain ⟨T', hT'⟩ : ∃ T', T' = T ++ PLI := ⟨_, rfl⟩
   have hTn : T' = (Fo.take (j + 1) f).all := by rw [Fo.all_take j htk, hT', hPLI, hPL, hL, hP, hI, HT.out]
   have hTl : T'.length ≤ f.all.length := by rw [hTn]; exact Fo.all_take_le _ _
   have l1 : T'.length = T.length + PLI.length := by rw [hT', List.length_append]
   have l2 : PLI.length = PL.length + I.length := by rw [hPLI, List.length_append]
   have l3 : PL.length = P.length + L.length := by rw [hPL, List.length_append]
   have x1 : txt P ++ txt L = txt PL := by rw [hPL]; exact txt_append P L
   have x2 : txt PL ++ txt I = txt PLI := by rw [hPLI]; exact txt_append PL I
   have x3 : txt T ++ txt PLI = txt T' := by rw [hT']; exact txt_append T PLI
   have s1 := txt_size P
   have s2 := txt_size L
   have s3 := txt_size PL
   have s4 := txt_size I
   have s5 := txt_size PLI
   have s6 := txt_size T
   have c1 : ¬ 9223372036854775807 < P.length + L.length := by omega
   have c2 : ¬ 9223372036854775807 < PL.length + I.length := by omega
   have c3 : ¬ 9223372036854775807 < T.length + PLI.length := by omega
   have hI64 : I.length < 18446744073709551616 := by omega
   have hI63 : I.length ≤ 22000000000000 := by omega
   have HTN := hHd hTn
   have HP := hHd hP
   have HL := hHd hL
   have HT64 := hHd ht64
   have HI64 := hHd hI64
   have i1 : (0 : Int) ≤ (j : Int) := by omega
   have i2 : (j : Int) < (f.len : Int) := by omega
   have hC0 : wr.cell? ⟨b, o + j * 3, none⟩ = some (.int .u64 (t : Int)) := (hB.cell (p := ⟨b, o + j * 3, none⟩) hSb).trans hc0
   have hC1 : wr.cell? ⟨b, o + j * 3 + 1, none⟩ = some (.string (txt d)) := (hB.cell (p := ⟨b, o + j * 3 + 1, none⟩) hSb).trans hc1
   have hC2 : wr.cell? ⟨b, o + j * 3 + 2, none⟩ = some kv := (hB.cell (p := ⟨b, o + j * 3 + 2, none⟩) hSb).trans hc2
   clear hIH hkv hkv2 hdr htk hc0 hc1 hc2 e2 hS hdrop hsz hTl l1 l2 l3 hP hL hPL hPLI hT' hTn ht64 hI64 hdv
   by_cases hodd : t % 2 = 1
   ·have hb : ((t : Int) % 2 == 1) = true := by
     have h : (t : Int) % 2 = 1 := by omega
     rw [h]; rfl
    have hIk : I = k.all := by rw [hI]; unfold Fo.inn; rw [if_pos hodd]
    have HIK := hHd hIk
    clear hodd hI hIk
    go_wp2_with fail
    refine HI.out.mono ?_
    rintro r w6 ⟨rfl, hb6⟩
    rw [← HIK.out]
    have hB6 := hB.trans (hb6.mono hB.size)
    have hC6 : w6.cell? ⟨b, o + j * 3, none⟩ = some (.int .u64 (t : Int)) := (hb6.cell (p := ⟨b, o + j * 3, none⟩) (Nat.lt_of_lt_of_le hSb hB.size)).trans hC0
    clear hb6 hB hC0 hC1 hC2
    go_wp2_with fail
    refine (rput_at t _ P _ HT64.out rfl HP.out).mono ?_
    rintro r w7 ⟨rfl, hb7⟩
    have hB7 := hB6.trans (hb7.mono hB6.size)
    clear hb7 hB6 hC6
    go_wp2_with fail
    refine (rput_at I.length _ L _ HI64.out rfl HL.out).mono ?_
    rintro r w8 ⟨rfl, hb8⟩
    have hB8 := hB7.trans (hb8.mono hB7.size)
    clear hb8 hB7
    go_wp2
    go_roundw
    case rel => exact ⟨j + 1, T', by omega, by go_num, rfl, HTN, hB8⟩
    case measure => simp [intOf]; omega
   ·have hb : ((t : Int) % 2 == 1) = false := by
     have h : (t : Int) % 2 = 0 := by omega
     rw [h]; rfl
    have hId : I = d := by rw [hI]; unfold Fo.inn; rw [if_neg hodd]
    subst hId
    clear hodd hI
    go_wp2_with fail
    refine (rput_at t _ P _ HT64.out rfl HP.out).mono ?_
    rintro r w7 ⟨rfl, hb7⟩
    have hB7 := hB.trans (hb7.mono hB.size)
    clear hb7 hB hC0 hC1 hC2
    go_wp2_with fail
    refine (rput_at I.length _ L _ HI64.out rfl HL.out).mono ?_
    rintro r w8 ⟨rfl, hb8⟩
    have hB8 := hB7.trans (hb8.mono hB7.size)
    clear hb8 hB7
    go_wp2
    go_roundw
    case rel => exact ⟨j + 1, T', by omega, by go_num, rfl, HTN, hB8⟩
    case measure => simp [intOf]; omega
  ·obtain rfl : j = f.len := by omega
   have hTe : T = f.all := by rw [HT.out, Fo.take_all]
   subst hTe
   clear hlt
   go_wp2
   go_ret
   exact ⟨rfl, hB⟩
def RightPost (f : Fo) (deep : Nat) (w : World) (r : Ending) (w' : World) : Prop := r = .returned (.bool (Fo.right deep f)) ∧ Below w.heap.size w w'
theorem Fo.right_at (deep j : Nat) {f : Fo} {t : Nat} {d : List UInt8} {k : Fo} (h : Fo.drop j f = .cons t d k (Fo.drop (j + 1) f)) :
  Fo.right deep f = (Fo.right deep (Fo.take j f) && (decide (deep ≤ 6) && (if t % 2 = 1 then d.isEmpty else k.len == 0) && Fo.right (deep + 1) k && Fo.right deep (Fo.drop (j + 1) f))) := by
 conv => lhs; rw [← Fo.take_app_drop j f, Fo.right_app, h]
 rfl
theorem Fo.right_take (deep j : Nat) {f : Fo} {t : Nat} {d : List UInt8} {k : Fo} (h : Fo.take (j + 1) f = (Fo.take j f).app (.cons t d k .nil)) :
  Fo.right deep (Fo.take (j + 1) f) = (Fo.right deep (Fo.take j f) && (decide (deep ≤ 6) && (if t % 2 = 1 then d.isEmpty else k.len == 0) && Fo.right (deep + 1) k)) := by
 rw [h, Fo.right_app]
 simp only [Fo.right, Bool.and_true]
theorem right_any (f : Fo) : ∀ (w : World) (v : Value) (deep : Nat) (dI : Int), FV DataR w (Lo w) v f → f.sz ≤ 1099511627776 → deep ≤ 7 → dI = (deep : Int) → Calls Tryz.prog 82 #[v, .int .i64 dI] w (RightPost f deep w) := by
 refine Fo.byKids (P := fun f => ∀ (w : World) (v : Value) (deep : Nat) (dI : Int), FV DataR w (Lo w) v f → f.sz ≤ 1099511627776 → deep ≤ 7 → dI = (deep : Int) → Calls Tryz.prog 82 #[v, .int .i64 dI] w (RightPost f deep w)) ?_ f
 clear f
 intro f hkids w v deep dI hv hsz hd7 hdI
 subst hdI
 obtain ⟨A, c, rfl⟩ := hv.shape
 have hws := f.wt_le_sz
 have hlw := f.len_le_wt
 have hlen40 : f.len ≤ 1099511627776 := by omega
 have HK : Hid (Fo.kidsAll (fun f => ∀ (w : World) (v : Value) (deep : Nat) (dI : Int), FV DataR w (Lo w) v f → f.sz ≤ 1099511627776 → deep ≤ 7 → dI = (deep : Int) → Calls Tryz.prog 82 #[v, .int .i64 dI] w (RightPost f deep w)) f) := hHd hkids
 clear hkids hws hlw
 by_cases hdl : 6 < deep ∧ 0 < f.len
 ·obtain ⟨h6, h0⟩ := hdl
  have hd6 : decide ((6 : Int) < (deep : Int)) = true := decide_eq_true (by omega)
  have hd0 : decide (0 < f.len) = true := decide_eq_true (by omega)
  have HR : Hid (Fo.right deep f = false) := hHd (by
   cases f with
   | nil => simp [Fo.len] at h0
   | cons t d k r => simp only [Fo.right]; rw [decide_eq_false (by omega)]; simp)
  clear h6 h0
  go_enter Tryz.func82, Tryz.ntmps82
  go_wp2
  go_ret
  exact ⟨by rw [HR.out]; rfl, Below.refl _ _⟩
 ·have hgo : decide ((6 : Int) < (deep : Int)) = false ∨ (decide ((6 : Int) < (deep : Int)) = true ∧ decide (0 < f.len) = false) := by
   by_cases h6 : 6 < deep
   ·exact .inr ⟨decide_eq_true (by omega), decide_eq_false (by omega)⟩
   ·exact .inl (decide_eq_false (by omega))
  have HDL : Hid (0 < f.len → deep ≤ 6) := hHd (by omega)
  have main : Calls Tryz.prog 82 #[.slice A f.len c, .int .i64 (deep : Int)] w (RightPost f deep w) := by
   rcases hgo with h6 | ⟨h6, h0⟩
   all_goals
    go_enter Tryz.func82, Tryz.ntmps82
    go_wp2
    go_loopw [5] (fun i wr => ∃ (j : Nat), j ≤ f.len ∧ i = .int .i64 (j : Int) ∧ Hid (Fo.right deep (Fo.take j f) = true) ∧ Below w.heap.size w wr) (fun i _ => f.len - (intOf i).toNat)
    case atStart => exact ⟨0, Nat.zero_le _, rfl, hHd rfl, Below.refl _ _⟩
    case round =>
     obtain ⟨j, hj, rfl, HR, hB⟩ := hrel
     by_cases hlt : j < f.len
     ·obtain ⟨b, o, c', t, d, k, hve, hcap, hS, hdr, htk, ht64, hc0, ⟨dv, hc1, hdv⟩, ⟨kv, hc2, hkv⟩⟩ := hv.at hlt
      injection hve with e1 e2 e3
      subst e1 e3
      have hSb : b < w.heap.size := hS
      have hdv' : dv = .string (txt d) := hdv
      subst hdv'
      have hdrop : (Fo.drop j f).sz ≤ f.sz := by
       have h := Fo.sz_app (Fo.take j f) (Fo.drop j f)
       rw [Fo.take_app_drop] at h
       omega
      rw [hdr] at hdrop
      simp only [Fo.sz] at hdrop
      have hIH := Fo.kidsAll_drop j HK.out
      rw [hdr] at hIH
      have hks40 : k.sz ≤ 1099511627776 := by omega
      have hkv2 : FV DataR wr (Lo wr) kv k := hkv.kept stays_R (fun g hg => hB.block g hg) (fun _ hg => Nat.lt_of_lt_of_le hg hB.size)
      have hdp6 : deep ≤ 6 := HDL.out (by omega)
      have HI := hHd (hIH.1 wr kv (deep + 1) ((deep : Int) + 1) hkv2 hks40 (by omega) (by omega))
      have HF : Hid (∀ s, (if t % 2 = 1 then d.isEmpty else k.len == 0) = s → s = false → Fo.right deep f = false) := hHd (fun s h1 h2 => by
       rw [Fo.right_at deep j hdr, h1, h2]; simp)
      have HF2 : Hid (Fo.right (deep + 1) k = false → Fo.right deep f = false) := hHd (fun h1 => by
       rw [Fo.right_at deep j hdr, h1]; simp)
      have HN : Hid ((if t % 2 = 1 then d.isEmpty else k.len == 0) = true → Fo.right (deep + 1) k = true → Fo.right deep (Fo.take (j + 1) f) = true) := hHd (fun h1 h2 => by
       rw [Fo.right_take deep j htk, h1, h2, HR.out, decide_eq_true hdp6]; rfl)
      have i1 : (0 : Int) ≤ (j : Int) := by omega
      have i2 : (j : Int) < (f.len : Int) := by omega
      have hC0 : wr.cell? ⟨b, o + j * 3, none⟩ = some (.int .u64 (t : Int)) := (hB.cell (p := ⟨b, o + j * 3, none⟩) hSb).trans hc0
      have hC1 : wr.cell? ⟨b, o + j * 3 + 1, none⟩ = some (.string (txt d)) := (hB.cell (p := ⟨b, o + j * 3 + 1, none⟩) hSb).trans hc1
      have hC2 : wr.cell? ⟨b, o + j * 3 + 2, none⟩ = some kv := (hB.cell (p := ⟨b, o + j * 3 + 2, none⟩) hSb).trans hc2
      obtain ⟨A2, c2, rfl⟩ := hkv.shape
      clear hIH hkv hkv2 hdr htk hc0 hc1 hc2 e2 hS hdrop hsz hdv ht64
      by_cases hodd : t % 2 = 1
      ·have hb : ((t : Int) % 2 == 1) = true := by
        have h : (t : Int) % 2 = 1 := by omega
        rw [h]; rfl
       rw [if_pos hodd] at HN
       have HF' := HF.out
       rw [if_pos hodd] at HF'
       have HFF := hHd HF'
       clear HF' HF hodd
       by_cases hd0 : d = []
       ·subst hd0
        have hnb := txt_none
        clear hd7
        go_wp2_with fail
        refine HI.out.mono ?_
        rintro r w6 ⟨rfl, hb6⟩
        have hB6 := hB.trans (hb6.mono hB.size)
        clear hb6 hB hC0 hC1 hC2
        cases hrk : Fo.right (deep + 1) k with
        | false =>
         have HZ := hHd (HF2.out hrk)
         clear hrk
         go_wp2
         go_ret
         exact ⟨by rw [HZ.out]; rfl, hB6⟩
        | true =>
         have HZ := hHd (HN.out rfl hrk)
         clear hrk
         go_wp2
         go_roundw
         case rel => exact ⟨j + 1, by omega, by go_num, HZ, hB6⟩
         case measure => simp [intOf]; omega
       ·have hnb := txt_some (l := d) (List.length_pos_iff.2 hd0)
        have HZ := hHd (HFF.out _ rfl (by simpa using hd0))
        clear hd0
        go_wp2
        go_ret
        exact ⟨by rw [HZ.out]; rfl, hB⟩
      ·have hb : ((t : Int) % 2 == 1) = false := by
        have h : (t : Int) % 2 = 0 := by omega
        rw [h]; rfl
       rw [if_neg hodd] at HN
       have HF' := HF.out
       rw [if_neg hodd] at HF'
       have HFF := hHd HF'
       clear HF' HF hodd
       by_cases hk0 : 0 < k.len
       ·have hkb : decide (0 < k.len) = true := decide_eq_true (by omega)
        have HZ := hHd (HFF.out _ rfl (by simp; omega))
        clear hk0
        go_wp2
        go_ret
        exact ⟨by rw [HZ.out]; rfl, hB⟩
       ·have hkb : decide (0 < k.len) = false := decide_eq_false (by omega)
        have HK0 : Hid ((k.len == 0) = true) := hHd (by simp; omega)
        clear hk0 hd7
        go_wp2_with fail
        refine HI.out.mono ?_
        rintro r w6 ⟨rfl, hb6⟩
        have hB6 := hB.trans (hb6.mono hB.size)
        clear hb6 hB hC0 hC1 hC2
        cases hrk : Fo.right (deep + 1) k with
        | false =>
         have HZ := hHd (HF2.out hrk)
         clear hrk
         go_wp2
         go_ret
         exact ⟨by rw [HZ.out]; rfl, hB6⟩
        | true =>
         have HZ := hHd (HN.out HK0.out hrk)
         clear hrk
         go_wp2
         go_roundw
         case rel => exact ⟨j + 1, by omega, by go_num, HZ, hB6⟩
         case measure => simp [intOf]; omega
     ·obtain rfl : j = f.len := by omega
      have hRe := HR.out
      rw [Fo.take_all] at hRe
      have HRE := hHd hRe
      clear hRe hlt
      go_wp2
      go_ret
      exact ⟨by rw [HRE.out]; rfl, hB⟩
  exact main
end Go.Proofs.YtleidkpdpabkpaaGreatDoor
