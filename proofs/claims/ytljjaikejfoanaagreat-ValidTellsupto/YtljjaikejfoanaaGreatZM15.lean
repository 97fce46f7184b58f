/- What ValidTells stands on: VadRefA, VadRefB, VadRefC. -/
import Derived.Test.YtljjaikejfoanaaGreatZM0
import Derived.Test.YtljjaikejfoanaaGreatZM9
import Derived.Test.YtljjaikejfoanaaGreatZM14
import Derived.Test.YtljjaikejfoanaaGreatZM2
set_option linter.unusedSimpArgs false
set_option linter.unusedVariables false
namespace Go.Proofs.YtljjaikejfoanaaGreat
open Go.RowKit
theorem app_none9 (w : World) (A : Option Addr) (c : Nat) : (Builtin.append_ #[31, 31] 31 #[.slice none 0 0, .slice A 0 c]).run Tryz.prog w = .ok (.slice none 0 0) w := by
  obtain ⟨i, hi, hz0, hz1, hz2⟩ := info_parts Tryz.cellsSt
  cases A with
  | none => simp [Builtin.append_, run_underlying Tryz.underlying31, sizeOf, typeInfo, hi, storeCells, Builtin.lenOf, Builtin.firstCells]
  | some ad =>
    have h := run_firstCells_some (P := Tryz.prog) w i.size 0 ad 0 c [] (by simp) (by simp)
    simp [Builtin.append_, run_underlying Tryz.underlying31, sizeOf, typeInfo, hi, storeCells, Builtin.lenOf, h]
theorem WayV.cells {b : Nat} {w : World} {A : Option Addr} {c : Nat} {l : List Stp} (h : WayV b w (.slice A l.length c) l) (h0 : 0 < l.length) : ∃ ad : Addr, A = some ad ∧ ∀ j u, (stC l)[j]? = some u → w.cell? (ad.add j) = some u := by
  obtain ⟨A', c', e, h1, h2⟩ := h
  injection e with e1 e2 e3
  subst e1 e3
  obtain ⟨g, o, rfl, hg, hc⟩ := h2 h0
  refine ⟨_, rfl, fun j u hu => ?_⟩
  have e1 : (⟨g, o, none⟩ : Addr).add j = ⟨g, o + j, none⟩ := by unfold Addr.add; split <;> simp_all
  rw [e1]
  have hj : j < (stC l).length := (List.getElem?_eq_some_iff.1 hu).1
  rw [stC_len] at hj
  obtain ⟨s, hs⟩ : ∃ s, l[j / 2]? = some s := ⟨_, List.getElem?_eq_getElem (by omega)⟩
  obtain ⟨g1, g2⟩ := stC_at l (j / 2) s hs
  obtain ⟨k1, k2⟩ := hc _ _ hs
  rcases Nat.mod_two_eq_zero_or_one j with h | h
  · have hj2 : j / 2 * 2 = j := by omega
    rw [hj2] at g1 k1
    rw [hu] at g1
    rw [k1, g1]
  · have hj2 : j / 2 * 2 + 1 = j := by omega
    rw [hj2] at g2
    rw [hu] at g2
    rw [show o + j = o + j / 2 * 2 + 1 by omega, k2, g2]
theorem app_way (w : World) (v : Value) (l : List Stp) (hv : WayV w.heap.size w v l) (hl : l.length ≤ 1000000) :
    ∃ v' w', (Builtin.append_ #[31, 31] 31 #[.slice none 0 0, v]).run Tryz.prog w = .ok v' w' ∧ OwnS w.heap.size w' v' l ∧ Below w.heap.size w w' := by
  obtain ⟨A, c, rfl⟩ := hv.shape
  by_cases h0 : 0 < l.length
  · obtain ⟨ad, rfl, hc⟩ := hv.cells h0
    obtain ⟨i, hi, hz0, hz1, hz2⟩ := info_parts Tryz.cellsSt
    obtain ⟨v', w', hr, h2, h3, -, h5⟩ := run_append_own_at (P := Tryz.prog) w w.heap.size 31 31 45 i (.agg #[.string ⟨#[]⟩, .string ⟨#[]⟩]) 2 32 Tryz.underlying31 hi hz0 hz1 hz2 szeroN (by omega) (.slice none 0 0) 0 [] (OwnK.nil _ _ _ _) ad l.length c (stC l) (stC_len l) hc (stC_one l) (by unfold maxLen; omega) (by omega) (Nat.le_refl _)
    rw [Nat.zero_add] at h2
    exact ⟨v', w', hr, h2, ⟨h3.os, h3.tape, h3.output, h3.size, fun k hk => h3.block k hk (by simp [Value.ownBlock])⟩⟩
  · have e : l = [] := List.eq_nil_of_length_eq_zero (by omega)
    subst e
    exact ⟨_, w, app_none9 w A c, OwnS.nil _ _, Below.refl _ _⟩
theorem stC_app (l m : List Stp) : stC (l ++ m) = stC l ++ stC m := by
  induction l with
  | nil => rfl
  | cons s l ih => simp [stC, ih]
set_option maxRecDepth 100000 in
set_option maxHeartbeats 2000000 in
theorem rway10_any (l : List Stp) (v : Value) (a : NdD) (u : Value) (w : World) (hv : WayV w.heap.size w v l) (hl : l.length ≤ 1000000) :
    Calls Tryz.prog 24 #[v, .agg #[.string (txt a.name), .string (txt a.key), .int .i64 a.kind, .int .u64 (a.num : Int), .string (txt a.text), u]] w fun r w' => ∃ v', r = .returned v' ∧ OwnS w.heap.size w' v' (l ++ [stp a]) ∧ Below w.heap.size w w' := by
  obtain ⟨A, c, rfl⟩ := hv.shape
  have hx1 : Below w.heap.size w (w.alloc (.cells #[.string (txt a.name), .string (txt a.key), .int .i64 a.kind, .int .u64 (a.num : Int), .string (txt a.text), u] 27)) := (Below.refl _ _).alloc (Nat.le_refl _) _
  obtain ⟨v1, w1, hr1, hown, hb1⟩ := app_way (w.alloc (.cells #[.string (txt a.name), .string (txt a.key), .int .i64 a.kind, .int .u64 (a.num : Int), .string (txt a.text), u] 27)) (.slice A l.length c) l (hv.below hx1) hl
  obtain ⟨A1, c1, rfl⟩ := hown.shape
  have HB1 : Hid (Below w.heap.size w w1) := Lib.hid (hx1.trans (hb1.mono hx1.size))
  have HOW := Lib.hid (hown.mono hx1.size)
  have HNB := Lib.hid ((Blk.new w 27 #[.string (txt a.name), .string (txt a.key), .int .i64 a.kind, .int .u64 (a.num : Int), .string (txt a.text), u]).below hb1 (Blk.new w 27 #[.string (txt a.name), .string (txt a.key), .int .i64 a.kind, .int .u64 (a.num : Int), .string (txt a.text), u]).lt)
  obtain ⟨v2, w2, hr2, hap⟩ := run_append_k (P := Tryz.prog) (ts := 31) Tryz.underlying31 Tryz.cellsSt szeroN (by omega) (w1.alloc (.cells #[.string (txt a.name), .string (txt a.key)] 45)) w.heap.size (.slice A1 l.length c1) l.length (stC l) ((HOW.out.below ((Below.refl _ _).alloc (Nat.le_refl _) _) : OwnS w.heap.size (w1.alloc (.cells #[.string (txt a.name), .string (txt a.key)] 45)) (.slice A1 l.length c1) l)) w1.heap.size [.string (txt a.name), .string (txt a.key)] (Blk.new w1 45 _) rfl (by simp [Value.oneCell']) (by omega) (by omega) (Nat.le_trans HB1.out.size (by simp))
  have HR1 := Lib.hid hr1
  have HR2 := Lib.hid hr2
  have HAP := Lib.hid hap
  clear hx1 hr1 hown hb1 hr2 hap hv
  have q0 := (HNB.out.cell 0).trans rfl
  have q1 := (HNB.out.cell 1).trans rfl
  have q2 := (HNB.out.cell 2).trans rfl
  have q3 := (HNB.out.cell 3).trans rfl
  have q4 := (HNB.out.cell 4).trans rfl
  have q5 := (HNB.out.cell 5).trans rfl
  go_enter Tryz.func24, Tryz.ntmps24
  go_wp2_with (at_builtin; first | (refine Lib.wpList_append_run _ rfl (.tmp 6) (.tmp 7) 31 31 rfl _ _ rfl rfl _ _ HR1.out ?_) | (refine Lib.wpList_append_run _ rfl (.tmp 9) (.tmp 15) 31 31 rfl _ _ rfl rfl _ _ HR2.out ?_))
  go_ret
  have hst : stC l ++ [.string (txt a.name), .string (txt a.key)] = stC (l ++ [stp a]) := (stC_app l [stp a]).symm
  refine ⟨v2, rfl, ?_, HB1.out.trans (((Below.refl _ _).alloc HB1.out.size _).trans (HAP.out.below (HOW.out.below ((Below.refl _ _).alloc (Nat.le_refl _) _)) (Nat.le_trans HB1.out.size (by simp))))⟩
  have h := HAP.out.1
  rw [hst] at h
  show OwnK 45 2 w2 w.heap.size v2 (l ++ [stp a]).length (stC (l ++ [stp a]))
  rw [List.length_append]
  exact h
end Go.Proofs.YtljjaikejfoanaaGreat
namespace Go.Proofs.YtljjaikejfoanaaGreat
open Go.RowKit
theorem get_one (x : Nd) (s : Stp) : GetX x [s] = match gtF s x.2 with | none => (noN, false) | some y => (y, true) := by
  unfold GetX
  simp only [getX]
  cases gtF s x.2 <;> rfl
theorem get_is (x : Nd) (s : Stp) : (GetX x [s]).2 = (gtF s x.2).isSome := by rw [get_one]; cases gtF s x.2 <;> rfl
set_option maxRecDepth 100000 in
set_option maxHeartbeats 4000000 in
theorem rnamed10_any (pa : NdD) (pf : NdF) (Ap : Option Addr) (cp : Nat) (a : NdD) (f : NdF) (A : Option Addr) (c : Nat) (nm : List UInt8) (w : World) (hp : RowT w.heap.size w (.slice Ap pf.len cp) pf) (hn : RowT w.heap.size w (.slice A f.len c) f) (hfp : pf.size ≤ 1000000) (hfn : f.size ≤ 1000000) :
    Calls Tryz.prog 25 #[.agg #[.string (txt pa.name), .string (txt pa.key), .int .i64 pa.kind, .int .u64 (pa.num : Int), .string (txt pa.text), .slice Ap pf.len cp], .agg #[.string (txt a.name), .string (txt a.key), .int .i64 a.kind, .int .u64 (a.num : Int), .string (txt a.text), .slice A f.len c], .string (txt nm)] w (Ans9 (.bool (namedB pf (gtF (nm, []) f))) w) := by
  have hx1 : Below w.heap.size w (w.alloc (.cells #[.string (txt pa.name), .string (txt pa.key), .int .i64 pa.kind, .int .u64 (pa.num : Int), .string (txt pa.text), .slice Ap pf.len cp] 27)) := (Below.refl _ _).alloc (Nat.le_refl _) _
  have hx2 : Below w.heap.size w ((w.alloc (.cells #[.string (txt pa.name), .string (txt pa.key), .int .i64 pa.kind, .int .u64 (pa.num : Int), .string (txt pa.text), .slice Ap pf.len cp] 27)).alloc (.cells #[.string (txt a.name), .string (txt a.key), .int .i64 a.kind, .int .u64 (a.num : Int), .string (txt a.text), .slice A f.len c] 27)) := hx1.alloc hx1.size _
  have hx3 : Below w.heap.size w (((w.alloc (.cells #[.string (txt pa.name), .string (txt pa.key), .int .i64 pa.kind, .int .u64 (pa.num : Int), .string (txt pa.text), .slice Ap pf.len cp] 27)).alloc (.cells #[.string (txt a.name), .string (txt a.key), .int .i64 a.kind, .int .u64 (a.num : Int), .string (txt a.text), .slice A f.len c] 27)).alloc (.cells #[.string (txt nm), .string ⟨#[]⟩] 45)) := hx2.alloc hx2.size _
  have hz2 : (((w.alloc (.cells #[.string (txt pa.name), .string (txt pa.key), .int .i64 pa.kind, .int .u64 (pa.num : Int), .string (txt pa.text), .slice Ap pf.len cp] 27)).alloc (.cells #[.string (txt a.name), .string (txt a.key), .int .i64 a.kind, .int .u64 (a.num : Int), .string (txt a.text), .slice A f.len c] 27))).heap.size = w.heap.size + 2 := by simp
  have hk1 : Blk (((w.alloc (.cells #[.string (txt pa.name), .string (txt pa.key), .int .i64 pa.kind, .int .u64 (pa.num : Int), .string (txt pa.text), .slice Ap pf.len cp] 27)).alloc (.cells #[.string (txt a.name), .string (txt a.key), .int .i64 a.kind, .int .u64 (a.num : Int), .string (txt a.text), .slice A f.len c] 27)).alloc (.cells #[.string (txt nm), .string ⟨#[]⟩] 45)) w.heap.size 27 #[.string (txt pa.name), .string (txt pa.key), .int .i64 pa.kind, .int .u64 (pa.num : Int), .string (txt pa.text), .slice Ap pf.len cp] := ((Blk.new w 27 #[.string (txt pa.name), .string (txt pa.key), .int .i64 pa.kind, .int .u64 (pa.num : Int), .string (txt pa.text), .slice Ap pf.len cp]).alloc _).alloc _
  have hk2 : Blk (((w.alloc (.cells #[.string (txt pa.name), .string (txt pa.key), .int .i64 pa.kind, .int .u64 (pa.num : Int), .string (txt pa.text), .slice Ap pf.len cp] 27)).alloc (.cells #[.string (txt a.name), .string (txt a.key), .int .i64 a.kind, .int .u64 (a.num : Int), .string (txt a.text), .slice A f.len c] 27)).alloc (.cells #[.string (txt nm), .string ⟨#[]⟩] 45)) (w.heap.size + 1) 27 #[.string (txt a.name), .string (txt a.key), .int .i64 a.kind, .int .u64 (a.num : Int), .string (txt a.text), .slice A f.len c] := (Blk.newA (w := (w.alloc (.cells #[.string (txt pa.name), .string (txt pa.key), .int .i64 pa.kind, .int .u64 (pa.num : Int), .string (txt pa.text), .slice Ap pf.len cp] 27))) (by simp) _ _).alloc _
  have HG1 : Hid (Calls Tryz.prog 17 #[.agg (ndC a (.slice A f.len c)).toArray, .slice (some ⟨(((w.alloc (.cells #[.string (txt pa.name), .string (txt pa.key), .int .i64 pa.kind, .int .u64 (pa.num : Int), .string (txt pa.text), .slice Ap pf.len cp] 27)).alloc (.cells #[.string (txt a.name), .string (txt a.key), .int .i64 a.kind, .int .u64 (a.num : Int), .string (txt a.text), .slice A f.len c] 27))).heap.size, 0, none⟩) 1 1] (((w.alloc (.cells #[.string (txt pa.name), .string (txt pa.key), .int .i64 pa.kind, .int .u64 (pa.num : Int), .string (txt pa.text), .slice Ap pf.len cp] 27)).alloc (.cells #[.string (txt a.name), .string (txt a.key), .int .i64 a.kind, .int .u64 (a.num : Int), .string (txt a.text), .slice A f.len c] 27)).alloc (.cells #[.string (txt nm), .string ⟨#[]⟩] 45)) (RTreP (GetX (a, f) [(nm, [])]).1 (.bool (GetX (a, f) [(nm, [])]).2) (((w.alloc (.cells #[.string (txt pa.name), .string (txt pa.key), .int .i64 pa.kind, .int .u64 (pa.num : Int), .string (txt pa.text), .slice Ap pf.len cp] 27)).alloc (.cells #[.string (txt a.name), .string (txt a.key), .int .i64 a.kind, .int .u64 (a.num : Int), .string (txt a.text), .slice A f.len c] 27)).alloc (.cells #[.string (txt nm), .string ⟨#[]⟩] 45)))) :=
    Lib.hid ((rget_any ((((w.alloc (.cells #[.string (txt pa.name), .string (txt pa.key), .int .i64 pa.kind, .int .u64 (pa.num : Int), .string (txt pa.text), .slice Ap pf.len cp] 27)).alloc (.cells #[.string (txt a.name), .string (txt a.key), .int .i64 a.kind, .int .u64 (a.num : Int), .string (txt a.text), .slice A f.len c] 27)).alloc (.cells #[.string (txt nm), .string ⟨#[]⟩] 45))).heap.size [(nm, [])] (a, f) _ _ (((w.alloc (.cells #[.string (txt pa.name), .string (txt pa.key), .int .i64 pa.kind, .int .u64 (pa.num : Int), .string (txt pa.text), .slice Ap pf.len cp] 27)).alloc (.cells #[.string (txt a.name), .string (txt a.key), .int .i64 a.kind, .int .u64 (a.num : Int), .string (txt a.text), .slice A f.len c] 27)).alloc (.cells #[.string (txt nm), .string ⟨#[]⟩] 45)) (Nat.le_refl _) (LieB.make (hn.under hx3 (Nat.le_refl _) hx3.size)) (OwnS.one (w := ((w.alloc (.cells #[.string (txt pa.name), .string (txt pa.key), .int .i64 pa.kind, .int .u64 (pa.num : Int), .string (txt pa.text), .slice Ap pf.len cp] 27)).alloc (.cells #[.string (txt a.name), .string (txt a.key), .int .i64 a.kind, .int .u64 (a.num : Int), .string (txt a.text), .slice A f.len c] 27))) (nm, []) (Nat.le_refl _)).way hfn).mono fun _ _ h => h.r)
  have HP := Lib.hid (And.intro hp hfp)
  have HX3 := Lib.hid hx3
  have HK := Lib.hid (And.intro hk1 hk2)
  rw [hz2, get_one] at HG1
  obtain ⟨o, ho⟩ : ∃ o, o = gtF (nm, []) f := ⟨_, rfl⟩
  rw [← ho]
  rw [show gtF (nm, []) ((a, f) : Nd).2 = o from ho.symm] at HG1
  unfold ndC at HG1
  have HB2 : Hid (Blk ((w.alloc (.cells #[.string (txt pa.name), .string (txt pa.key), .int .i64 pa.kind, .int .u64 (pa.num : Int), .string (txt pa.text), .slice Ap pf.len cp] 27)).alloc (.cells #[.string (txt a.name), .string (txt a.key), .int .i64 a.kind, .int .u64 (a.num : Int), .string (txt a.text), .slice A f.len c] 27)) (w.heap.size + 1) 27 #[.string (txt a.name), .string (txt a.key), .int .i64 a.kind, .int .u64 (a.num : Int), .string (txt a.text), .slice A f.len c]) := Lib.hid (Blk.newA (w := (w.alloc (.cells #[.string (txt pa.name), .string (txt pa.key), .int .i64 pa.kind, .int .u64 (pa.num : Int), .string (txt pa.text), .slice Ap pf.len cp] 27))) (by simp) _ _)
  clear hp hn hfp hfn hx1 hx2 hx3 hk1 hk2 hz2 ho
  have q0 := (HB2.out.cell 0).trans rfl
  have q1 := (HB2.out.cell 1).trans rfl
  have q2 := (HB2.out.cell 2).trans rfl
  have q3 := (HB2.out.cell 3).trans rfl
  have q4 := (HB2.out.cell 4).trans rfl
  have q5 := (HB2.out.cell 5).trans rfl
  go_enter Tryz.func25, Tryz.ntmps25
  cases o with
  | none =>
    simp only at HG1
    go_wp2_with fail
    refine HG1.out.mono ?_
    rintro r w4 ⟨cs, rfl, hl, hb⟩
    obtain ⟨A4, c4, rfl, -⟩ := hl.shape
    have HB4 := Lib.hid (HX3.out.trans (hb.mono HX3.out.size))
    clear hl hb q0 q1 q2 q3 q4 q5
    unfold ndC
    go_wp2
    go_ret
    exact ⟨rfl, HB4.out.alloc HB4.out.size _⟩
  | some y =>
    simp only at HG1
    obtain ⟨y, yk⟩ := y
    go_wp2_with fail
    refine HG1.out.mono ?_
    rintro r w4 ⟨cs, rfl, hl, hb⟩
    obtain ⟨A4, c4, rfl, -⟩ := hl.shape
    simp only at *
    have HB4 := Lib.hid (HX3.out.trans (hb.mono HX3.out.size))
    have hP4 := HK.out.1.below hb HK.out.1.lt
    have hy1 : Below w4.heap.size w4 (w4.alloc (.cells #[.string (txt y.name), .string (txt y.key), .int .i64 y.kind, .int .u64 (y.num : Int), .string (txt y.text), .slice A4 yk.len c4] 27)) := (Below.refl _ _).alloc (Nat.le_refl _) _
    have hy2 : Below w4.heap.size w4 ((w4.alloc (.cells #[.string (txt y.name), .string (txt y.key), .int .i64 y.kind, .int .u64 (y.num : Int), .string (txt y.text), .slice A4 yk.len c4] 27)).alloc (.cells #[.string (txt nClass), .string (txt y.text)] 45)) := hy1.alloc hy1.size _
    have hy3 : Below w.heap.size w ((w4.alloc (.cells #[.string (txt y.name), .string (txt y.key), .int .i64 y.kind, .int .u64 (y.num : Int), .string (txt y.text), .slice A4 yk.len c4] 27)).alloc (.cells #[.string (txt nClass), .string (txt y.text)] 45)) := HB4.out.trans (hy2.mono HB4.out.size)
    have hz4 : ((w4.alloc (.cells #[.string (txt y.name), .string (txt y.key), .int .i64 y.kind, .int .u64 (y.num : Int), .string (txt y.text), .slice A4 yk.len c4] 27))).heap.size = w4.heap.size + 1 := by simp
    have HG2 : Hid (Calls Tryz.prog 17 #[.agg (ndC pa (.slice Ap pf.len cp)).toArray, .slice (some ⟨((w4.alloc (.cells #[.string (txt y.name), .string (txt y.key), .int .i64 y.kind, .int .u64 (y.num : Int), .string (txt y.text), .slice A4 yk.len c4] 27))).heap.size, 0, none⟩) 1 1] ((w4.alloc (.cells #[.string (txt y.name), .string (txt y.key), .int .i64 y.kind, .int .u64 (y.num : Int), .string (txt y.text), .slice A4 yk.len c4] 27)).alloc (.cells #[.string (txt nClass), .string (txt y.text)] 45)) (RTreP (GetX (pa, pf) [(nClass, y.text)]).1 (.bool (GetX (pa, pf) [(nClass, y.text)]).2) ((w4.alloc (.cells #[.string (txt y.name), .string (txt y.key), .int .i64 y.kind, .int .u64 (y.num : Int), .string (txt y.text), .slice A4 yk.len c4] 27)).alloc (.cells #[.string (txt nClass), .string (txt y.text)] 45)))) :=
      Lib.hid ((rget_any (((w4.alloc (.cells #[.string (txt y.name), .string (txt y.key), .int .i64 y.kind, .int .u64 (y.num : Int), .string (txt y.text), .slice A4 yk.len c4] 27)).alloc (.cells #[.string (txt nClass), .string (txt y.text)] 45))).heap.size [(nClass, y.text)] (pa, pf) _ _ ((w4.alloc (.cells #[.string (txt y.name), .string (txt y.key), .int .i64 y.kind, .int .u64 (y.num : Int), .string (txt y.text), .slice A4 yk.len c4] 27)).alloc (.cells #[.string (txt nClass), .string (txt y.text)] 45)) (Nat.le_refl _) (LieB.make (HP.out.1.under hy3 (Nat.le_refl _) hy3.size)) (OwnS.one (w := (w4.alloc (.cells #[.string (txt y.name), .string (txt y.key), .int .i64 y.kind, .int .u64 (y.num : Int), .string (txt y.text), .slice A4 yk.len c4] 27))) (nClass, y.text) (Nat.le_refl _)).way HP.out.2).mono fun _ _ h => h.r)
    rw [hz4] at HG2
    have HP5 := Lib.hid (hP4.below hy1 hP4.lt)
    have HY5 := Lib.hid (Blk.new w4 27 #[.string (txt y.name), .string (txt y.key), .int .i64 y.kind, .int .u64 (y.num : Int), .string (txt y.text), .slice A4 yk.len c4])
    have HY3 := Lib.hid hy3
    have HTH : Hid (namedB pf (some (y, yk)) = (gtF (nClass, y.text) pf).isSome) := Lib.hid rfl
    obtain ⟨R, hz⟩ : ∃ R, R = GetX (pa, pf) [(nClass, y.text)] := ⟨_, rfl⟩
    have hbz := get_is (pa, pf) (nClass, y.text)
    rw [← hz] at HG2 hbz
    obtain ⟨⟨za, zk⟩, bz⟩ := R
    simp only at HG2 hbz
    rw [← hbz] at HTH
    clear hz hbz hl hb hP4 hy1 hy2 hy3 hz4 q0 q1 q2 q3 q4 q5
    have q0 := (HP5.out.cell 0).trans rfl
    have q1 := (HP5.out.cell 1).trans rfl
    have q2 := (HP5.out.cell 2).trans rfl
    have q3 := (HP5.out.cell 3).trans rfl
    have q4 := (HP5.out.cell 4).trans rfl
    have q5 := (HP5.out.cell 5).trans rfl
    have p0 := (HY5.out.cell 0).trans rfl
    have p1 := (HY5.out.cell 1).trans rfl
    have p2 := (HY5.out.cell 2).trans rfl
    have p3 := (HY5.out.cell 3).trans rfl
    have p4 := (HY5.out.cell 4).trans rfl
    have p5 := (HY5.out.cell 5).trans rfl
    unfold ndC at HG2 ⊢
    go_wp2_with fail
    refine HG2.out.mono ?_
    rintro r w5 ⟨cs, rfl, hl5, hb5⟩
    obtain ⟨A5, c5, rfl, -⟩ := hl5.shape
    have HB5 := Lib.hid (HY3.out.trans (hb5.mono HY3.out.size))
    clear hl5 hb5 q0 q1 q2 q3 q4 q5 p0 p1 p2 p3 p4 p5
    unfold ndC
    go_wp2
    go_ret
    exact ⟨by rw [HTH.out]; rfl, HB5.out.alloc HB5.out.size _⟩
end Go.Proofs.YtljjaikejfoanaaGreat
namespace Go.Proofs.YtljjaikejfoanaaGreat
open Go.RowKit
attribute [local go_sem] Oper.semAt_some
theorem step_neq10 (s t : Stp) (W : World) : (binOp .neq 45 (.agg #[.string (txt s.1), .string (txt s.2)]) (.agg #[.string (txt t.1), .string (txt t.2)])).run Tryz.prog W = .ok (.bool (!decide (s = t))) W := by
  rw [run_neq_struct, show (10000 : Nat) = 9999 + 1 from rfl, run_equalIn_agg W 9999 45 _ _ (by simp only [Program.fieldsOf, Tryz.underlying45]) (by kernel_rfl)]
  simp only [Program.fieldsOf, Tryz.underlying45]
  simp only [Op.eqFields]
  go_simp
  simp only [txt_toList]
  by_cases h1 : s.1 = t.1
  · by_cases h2 : s.2 = t.2
    · have h : s = t := Prod.ext h1 h2
      simp [h]
    · have h : s ≠ t := fun e => h2 (congrArg Prod.snd e)
      simp [h1, h2, h]
  · have h : s ≠ t := fun e => h1 (congrArg Prod.fst e)
    simp [h1, h]
set_option maxRecDepth 100000 in
set_option maxHeartbeats 4000000 in
theorem rsteps10_any (l m : List Stp) (va vb : Value) (w : World) (ha : WayV w.heap.size w va l) (hb : WayV w.heap.size w vb m) (hl : l.length ≤ 1000000) (hm : m.length ≤ 1000000) :
    Calls Tryz.prog 12 #[va, vb] w (Ans9 (.bool (decide (l = m))) w) := by
  obtain ⟨A, c, rfl⟩ := ha.shape
  obtain ⟨B, d, rfl⟩ := hb.shape
  have HA := Lib.hid ha
  have HB := Lib.hid hb
  clear ha hb
  have l0 : (l.length : Int) ≤ 1000000 := by omega
  have m0 : (m.length : Int) ≤ 1000000 := by omega
  go_enter Tryz.func12, Tryz.ntmps12
  by_cases hlm : l.length = m.length
  · have e0 : ((l.length : Int) != (m.length : Int)) = false := by unfold bne; rw [beq_iff_eq.2 (by omega : (l.length : Int) = (m.length : Int))]; rfl
    have HLM := Lib.hid hlm
    clear hlm
    go_wp2_with fail
    go_loopw [5] (fun v wr => ∃ j : Nat, j ≤ l.length ∧ v = .int .i64 (j : Int) ∧ Hid (∀ k, k < j → l[k]? = m[k]?) ∧ Hid (Below w.heap.size w wr)) (fun v _ => l.length - (intOf v).toNat)
    case atStart => exact ⟨0, Nat.zero_le _, rfl, Lib.hid (fun k hk => absurd hk (Nat.not_lt_zero _)), Lib.hid (Below.refl _ _)⟩
    case round =>
      obtain ⟨j, hj, rfl, HE, HW⟩ := hrel
      have i1 : (0 : Int) ≤ (j : Int) := by omega
      by_cases hlt : j < l.length
      · obtain ⟨s, hs⟩ : ∃ s, l[j]? = some s := ⟨_, List.getElem?_eq_getElem hlt⟩
        obtain ⟨t, ht⟩ : ∃ t, m[j]? = some t := ⟨_, List.getElem?_eq_getElem (by have := HLM.out; omega)⟩
        obtain ⟨g, o, rfl, -, h2, h3, h4, h5⟩ := (HA.out.under HW.out (Nat.le_refl _) (Nat.le_refl _)).at hs
        obtain ⟨g', o', rfl, -, k2, k3, k4, k5⟩ := (HB.out.under HW.out (Nat.le_refl _) (Nat.le_refl _)).at ht
        have i2 : (j : Int) < (l.length : Int) := by omega
        have i3 : (j : Int) < (m.length : Int) := by have := HLM.out; omega
        have HS0 : Hid (wr.drew.cell? ⟨g, o + j * 2, none⟩ = some (.string (txt s.1)) ∧ wr.drew.cell? ⟨g, o + j * 2 + 1, none⟩ = some (.string (txt s.2)) ∧ wr.drew.cell? ⟨g', o' + j * 2, none⟩ = some (.string (txt t.1)) ∧ wr.drew.cell? ⟨g', o' + j * 2 + 1, none⟩ = some (.string (txt t.2))) := Lib.hid ⟨h4, h5, k4, k5⟩
        have HST := Lib.hid (And.intro hs ht)
        have HLT := Lib.hid hlt
        have n0 : j < l.length := hlt
        have n1 : j < m.length := by have := HLM.out; omega
        have e1 : ∀ W, (binOp .neq 45 (.agg #[.string (txt s.1), .string (txt s.2)]) (.agg #[.string (txt t.1), .string (txt t.2)])).run Tryz.prog W = .ok (.bool (!decide (s = t))) W := fun W => step_neq10 s t W
        have HWD : Hid (Below w.heap.size w wr.drew) := Lib.hid HW.out.drew
        clear hs ht h4 h5 k4 k5 hlt
        by_cases hst : s = t
        · have b0 : (!decide (s = t)) = false := by rw [decide_eq_true hst]; rfl
          rw [b0] at e1
          have HEQ := Lib.hid hst
          clear hst b0
          go_wp2_with fail
          refine wp_region_noPanic ?_
          refine wp_region_held_drew (S := fun _ => True) (by kernel_rfl) trivial (fun hS => ?_)
          refine wpAnyH_take (i := 0) (oi := ?o_0) (v := ?v_0) ?i_0 (by kernel_rfl) (by kernel_rfl) (by kernel_rfl) (fun _ _ _ h => h) (Or.inl ⟨?g_0, ?y_0⟩) hS ?_
          case i_0 => simp only [layG]; rfl
          case g_0 => rfl
          case y_0 => (intro w hSw; (go_simp <;> with_reducible rfl))
          (try simp only [Act.put, layS])
          refine wpAnyH_take (i := 1) (oi := ?o_1) (v := ?v_1) ?i_1 (by kernel_rfl) (by kernel_rfl) (by kernel_rfl) (fun _ _ _ h => h) (Or.inl ⟨?g_1, ?y_1⟩) hS ?_
          case i_1 => simp only [layG]; rfl
          case g_1 => rfl
          case y_1 => (intro w hSw; (go_simp <;> with_reducible rfl))
          (try simp only [Act.put, layS])
          refine wpAnyH_take (i := 2) (oi := ?o_2) (v := ?v_2) ?i_2 (by kernel_rfl) (by kernel_rfl) (by kernel_rfl) (fun _ _ _ h => h) (Or.inl ⟨?g_2, ?y_2⟩) hS ?_
          case i_2 => simp only [layG]; rfl
          case g_2 => rfl
          case y_2 => (intro w hSw; (go_simp <;> with_reducible rfl))
          (try simp only [Act.put, layS])
          refine held_more (S' := fun w' => w'.cell? ⟨g, o + j * 2, none⟩ = some (.string (txt s.1)) ∧ w'.cell? ⟨g, o + j * 2 + 1, none⟩ = some (.string (txt s.2)) ∧ w'.cell? ⟨g', o' + j * 2, none⟩ = some (.string (txt t.1)) ∧ w'.cell? ⟨g', o' + j * 2 + 1, none⟩ = some (.string (txt t.2))) (fun _ _ => trivial) _ _ _ _ ?_
          replace hS := HS0.out
          refine wpAnyH_take (i := 3) (oi := ?o_3) (v := ?v_3) ?i_3 (by kernel_rfl) (by kernel_rfl) (by kernel_rfl) (fun _ _ _ h => h) (Or.inl ⟨?g_3, ?y_3⟩) hS ?_
          case i_3 => simp only [layG]; rfl
          case g_3 => rfl
          case y_3 => (intro w hSw; have q0 := hSw.1; have q1 := hSw.2.1; (go_simp <;> with_reducible rfl))
          (try simp only [Act.put, layS])
          refine wpAnyH_take (i := 4) (oi := ?o_4) (v := ?v_4) ?i_4 (by kernel_rfl) (by kernel_rfl) (by kernel_rfl) (fun _ _ _ h => h) (Or.inl ⟨?g_4, ?y_4⟩) hS ?_
          case i_4 => simp only [layG]; rfl
          case g_4 => rfl
          case y_4 => (intro w hSw; (go_simp <;> with_reducible rfl))
          (try simp only [Act.put, layS])
          refine wpAnyH_take (i := 5) (oi := ?o_5) (v := ?v_5) ?i_5 (by kernel_rfl) (by kernel_rfl) (by kernel_rfl) (fun _ _ _ h => h) (Or.inl ⟨?g_5, ?y_5⟩) hS ?_
          case i_5 => simp only [layG]; rfl
          case g_5 => rfl
          case y_5 => (intro w hSw; (go_simp <;> with_reducible rfl))
          (try simp only [Act.put, layS])
          refine wpAnyH_take (i := 6) (oi := ?o_6) (v := ?v_6) ?i_6 (by kernel_rfl) (by kernel_rfl) (by kernel_rfl) (fun _ _ _ h => h) (Or.inl ⟨?g_6, ?y_6⟩) hS ?_
          case i_6 => simp only [layG]; rfl
          case g_6 => rfl
          case y_6 => (intro w hSw; (go_simp <;> with_reducible rfl))
          (try simp only [Act.put, layS])
          refine wpAnyH_take (i := 7) (oi := ?o_7) (v := ?v_7) ?i_7 (by kernel_rfl) (by kernel_rfl) (by kernel_rfl) (fun _ _ _ h => h) (Or.inl ⟨?g_7, ?y_7⟩) hS ?_
          case i_7 => simp only [layG]; rfl
          case g_7 => rfl
          case y_7 => (intro w hSw; have q0 := hSw.2.2.1; have q1 := hSw.2.2.2; (go_simp <;> with_reducible rfl))
          (try simp only [Act.put, layS])
          refine wpAnyH_take (i := 8) (oi := ?o_8) (v := ?v_8) ?i_8 (by kernel_rfl) (by kernel_rfl) (by kernel_rfl) (fun _ _ _ h => h) (Or.inl ⟨?g_8, ?y_8⟩) hS ?_
          case i_8 => simp only [layG]; rfl
          case g_8 => rfl
          case y_8 => (intro w hSw; (go_simp <;> with_reducible rfl))
          (try simp only [Act.put, layS])
          refine wpAnyH_done (by kernel_rfl) ?_ _
          refine NoPanic.normal ?_
          clear hS
          go_wp2
          go_roundw
          case rel => exact ⟨j + 1, HLT.out, by go_num, Lib.hid (fun k hk => by
            by_cases hkj : k < j
            · exact HE.out k hkj
            · have e : k = j := by omega
              subst e
              rw [HST.out.1, HST.out.2, HEQ.out]), HWD⟩
          case measure => have := HLT.out; simp [intOf]; omega
        · have b0 : (!decide (s = t)) = true := by rw [decide_eq_false hst]; rfl
          rw [b0] at e1
          have HX : Hid (decide (l = m) = false) := Lib.hid (decide_eq_false fun e => hst (by have h1 := HST.out.1; have h2 := HST.out.2; rw [e, h2] at h1; injection h1 with h1; exact h1.symm))
          clear hst b0
          go_wp2_with fail
          refine wp_region_noPanic ?_
          refine wp_region_held_drew (S := fun _ => True) (by kernel_rfl) trivial (fun hS => ?_)
          refine wpAnyH_take (i := 0) (oi := ?o_9) (v := ?v_9) ?i_9 (by kernel_rfl) (by kernel_rfl) (by kernel_rfl) (fun _ _ _ h => h) (Or.inl ⟨?g_9, ?y_9⟩) hS ?_
          case i_9 => simp only [layG]; rfl
          case g_9 => rfl
          case y_9 => (intro w hSw; (go_simp <;> with_reducible rfl))
          (try simp only [Act.put, layS])
          refine wpAnyH_take (i := 1) (oi := ?o_a) (v := ?v_a) ?i_a (by kernel_rfl) (by kernel_rfl) (by kernel_rfl) (fun _ _ _ h => h) (Or.inl ⟨?g_a, ?y_a⟩) hS ?_
          case i_a => simp only [layG]; rfl
          case g_a => rfl
          case y_a => (intro w hSw; (go_simp <;> with_reducible rfl))
          (try simp only [Act.put, layS])
          refine wpAnyH_take (i := 2) (oi := ?o_b) (v := ?v_b) ?i_b (by kernel_rfl) (by kernel_rfl) (by kernel_rfl) (fun _ _ _ h => h) (Or.inl ⟨?g_b, ?y_b⟩) hS ?_
          case i_b => simp only [layG]; rfl
          case g_b => rfl
          case y_b => (intro w hSw; (go_simp <;> with_reducible rfl))
          (try simp only [Act.put, layS])
          refine held_more (S' := fun w' => w'.cell? ⟨g, o + j * 2, none⟩ = some (.string (txt s.1)) ∧ w'.cell? ⟨g, o + j * 2 + 1, none⟩ = some (.string (txt s.2)) ∧ w'.cell? ⟨g', o' + j * 2, none⟩ = some (.string (txt t.1)) ∧ w'.cell? ⟨g', o' + j * 2 + 1, none⟩ = some (.string (txt t.2))) (fun _ _ => trivial) _ _ _ _ ?_
          replace hS := HS0.out
          refine wpAnyH_take (i := 3) (oi := ?o_c) (v := ?v_c) ?i_c (by kernel_rfl) (by kernel_rfl) (by kernel_rfl) (fun _ _ _ h => h) (Or.inl ⟨?g_c, ?y_c⟩) hS ?_
          case i_c => simp only [layG]; rfl
          case g_c => rfl
          case y_c => (intro w hSw; have q0 := hSw.1; have q1 := hSw.2.1; (go_simp <;> with_reducible rfl))
          (try simp only [Act.put, layS])
          refine wpAnyH_take (i := 4) (oi := ?o_d) (v := ?v_d) ?i_d (by kernel_rfl) (by kernel_rfl) (by kernel_rfl) (fun _ _ _ h => h) (Or.inl ⟨?g_d, ?y_d⟩) hS ?_
          case i_d => simp only [layG]; rfl
          case g_d => rfl
          case y_d => (intro w hSw; (go_simp <;> with_reducible rfl))
          (try simp only [Act.put, layS])
          refine wpAnyH_take (i := 5) (oi := ?o_e) (v := ?v_e) ?i_e (by kernel_rfl) (by kernel_rfl) (by kernel_rfl) (fun _ _ _ h => h) (Or.inl ⟨?g_e, ?y_e⟩) hS ?_
          case i_e => simp only [layG]; rfl
          case g_e => rfl
          case y_e => (intro w hSw; (go_simp <;> with_reducible rfl))
          (try simp only [Act.put, layS])
          refine wpAnyH_take (i := 6) (oi := ?o_f) (v := ?v_f) ?i_f (by kernel_rfl) (by kernel_rfl) (by kernel_rfl) (fun _ _ _ h => h) (Or.inl ⟨?g_f, ?y_f⟩) hS ?_
          case i_f => simp only [layG]; rfl
          case g_f => rfl
          case y_f => (intro w hSw; (go_simp <;> with_reducible rfl))
          (try simp only [Act.put, layS])
          refine wpAnyH_take (i := 7) (oi := ?o_g) (v := ?v_g) ?i_g (by kernel_rfl) (by kernel_rfl) (by kernel_rfl) (fun _ _ _ h => h) (Or.inl ⟨?g_g, ?y_g⟩) hS ?_
          case i_g => simp only [layG]; rfl
          case g_g => rfl
          case y_g => (intro w hSw; have q0 := hSw.2.2.1; have q1 := hSw.2.2.2; (go_simp <;> with_reducible rfl))
          (try simp only [Act.put, layS])
          refine wpAnyH_take (i := 8) (oi := ?o_h) (v := ?v_h) ?i_h (by kernel_rfl) (by kernel_rfl) (by kernel_rfl) (fun _ _ _ h => h) (Or.inl ⟨?g_h, ?y_h⟩) hS ?_
          case i_h => simp only [layG]; rfl
          case g_h => rfl
          case y_h => (intro w hSw; (go_simp <;> with_reducible rfl))
          (try simp only [Act.put, layS])
          refine wpAnyH_done (by kernel_rfl) ?_ _
          refine NoPanic.normal ?_
          clear hS
          go_wp2
          go_ret
          exact ⟨by rw [HX.out]; rfl, HWD.out⟩
      · have i2 : ¬ (j : Int) < (l.length : Int) := by omega
        have HX : Hid (decide (l = m) = true) := Lib.hid (decide_eq_true (List.ext_getElem? fun k => by
          by_cases hk : k < j
          · exact HE.out k hk
          · rw [List.getElem?_eq_none (by omega), List.getElem?_eq_none (by have := HLM.out; omega)]))
        go_wp2
        go_ret
        exact ⟨by rw [HX.out]; rfl, HW.out⟩
  · have e0 : ((l.length : Int) != (m.length : Int)) = true := by unfold bne; rw [beq_eq_false_iff_ne.2 (by omega : (l.length : Int) ≠ (m.length : Int))]; rfl
    have HX : Hid (decide (l = m) = false) := Lib.hid (decide_eq_false fun e => hlm (by rw [e]))
    go_wp2
    go_ret
    exact ⟨by rw [HX.out]; rfl, Below.refl _ _⟩
end Go.Proofs.YtljjaikejfoanaaGreat
