/- VadOpen EdtOpen EdvA PakInj -/
import Derived.Test.YtleidkpdpabkpaaGreatDoorAM20
set_option linter.unusedSimpArgs false
set_option linter.unusedVariables false
set_option maxRecDepth 100000
set_option maxHeartbeats 8000000
namespace Go.Proofs.YtleidkpdpabkpaaGreatDoor
open Go.RowKit
section
open Go.ChangeShapes Go.WideShapes Go.Deep
theorem node_cells10 {H : Type} {enc : TypeId × Value → H} {W : World} {n : Nat} {cs : List Value} {x : DataW H × List MemPlace} (h : DataW.trod enc Tryz.prog W 0 (fun _ => true) true n 42 cs = some x) :
  ∃ (a : NdD) (c5 : Value) (n' : Nat) (y : DataW H × List MemPlace), n = n' + 1 ∧ cs = ndC a c5 ∧ DataW.trod enc Tryz.prog W 0 (fun _ => true) true n' 40 [c5] = some y ∧ Rows.uptoBulk y.1 + 4 ≤ Rows.uptoBulk x.1 ∧ (Rows.uptoBulk x.1 ≤ 1048576 → OkD a) := by
 obtain ⟨ys, k, hk, hy, hlen, hyl, hf⟩ := DataW.trod_struct Tryz.underlying42 h
 rw [cellsNode] at hlen
 have hyl' : ys.length = 4 := hyl
 match cs, hlen, ys, hyl', hy with
 | [v0, v1, v2, v3, v4, v5], _, [y0, y1, y2, y3], _, hy =>
  have f0 : DataW.trod enc Tryz.prog W 0 (fun _ => true) true k 9 (List.take (Tryz.prog.cellsOf 9) (List.drop 0 [v0, v1, v2, v3, v4, v5])) = some _ := (hf 0 _ rfl).trans rfl
  have f1 : DataW.trod enc Tryz.prog W 0 (fun _ => true) true k 9 (List.take (Tryz.prog.cellsOf 9) (List.drop 1 [v0, v1, v2, v3, v4, v5])) = some _ := (hf 1 _ rfl).trans rfl
  have f2 : DataW.trod enc Tryz.prog W 0 (fun _ => true) true k 39 (List.take (Tryz.prog.cellsOf 39) (List.drop 2 [v0, v1, v2, v3, v4, v5])) = some _ := (hf 2 _ rfl).trans rfl
  have f3 : DataW.trod enc Tryz.prog W 0 (fun _ => true) true k 40 (List.take (Tryz.prog.cellsOf 40) (List.drop 5 [v0, v1, v2, v3, v4, v5])) = some _ := (hf 3 _ rfl).trans rfl
  rw [cellsStr9] at f0 f1
  rw [cellsVal] at f2
  rw [cellsNds] at f3
  simp only [List.drop_zero, List.drop_succ_cons, List.take_succ_cons, List.take_zero] at f0 f1 f2 f3
  obtain ⟨s0, e0, b0, _⟩ := DataW.trod_string Tryz.underlying9 f0
  obtain ⟨s1, e1, b1, _⟩ := DataW.trod_string Tryz.underlying9 f1
  obtain ⟨zs, k', hk', hz, _, hzl, hg⟩ := DataW.trod_struct Tryz.underlying39 f2
  have hzl' : zs.length = 3 := hzl
  match zs, hzl', hz with
  | [z0, z1, z2], _, hz =>
   have g0 : DataW.trod enc Tryz.prog W 0 (fun _ => true) true k' 3 (List.take (Tryz.prog.cellsOf 3) (List.drop 0 [v2, v3, v4])) = some _ := (hg 0 _ rfl).trans rfl
   have g1 : DataW.trod enc Tryz.prog W 0 (fun _ => true) true k' 37 (List.take (Tryz.prog.cellsOf 37) (List.drop 1 [v2, v3, v4])) = some _ := (hg 1 _ rfl).trans rfl
   have g2 : DataW.trod enc Tryz.prog W 0 (fun _ => true) true k' 9 (List.take (Tryz.prog.cellsOf 9) (List.drop 2 [v2, v3, v4])) = some _ := (hg 2 _ rfl).trans rfl
   rw [cellsInt9] at g0
   rw [cellsU64] at g1
   rw [cellsStr9] at g2
   simp only [List.drop_zero, List.drop_succ_cons, List.take_succ_cons, List.take_zero] at g0 g1 g2
   obtain ⟨kd, e2, _, hwk⟩ := DataW.trod_int Tryz.underlying3 g0
   obtain ⟨nu, e3, _, hw⟩ := DataW.trod_int Tryz.underlying37 g1
   obtain ⟨s2, e4, b4, _⟩ := DataW.trod_string Tryz.underlying9 g2
   have hb := bounds_u64 hw
   have hbk := bounds_i64 hwk
   have hy2 := congrArg Prod.fst hz
   simp at e0 e1 e2 e3 e4
   subst e0 e1 e2 e3 e4
   refine ⟨⟨s0.data.toList, s1.data.toList, kd, nu.toNat, s2.data.toList⟩, v5, k, y3, hk, ?_, f3, ?_, fun hbl => ?_⟩
   ·show _ = [Value.string (txt s0.data.toList), Value.string (txt s1.data.toList), Value.int .i64 kd, Value.int .u64 (nu.toNat : Int), Value.string (txt s2.data.toList), v5]
    rw [show txt s0.data.toList = s0 from txt_ext (txt_data _), show txt s1.data.toList = s1 from txt_ext (txt_data _), show txt s2.data.toList = s2 from txt_ext (txt_data _), Int.toNat_of_nonneg (by omega)]
   ·have hx : x.1 = .agg [y0.1, y1.1, y2.1, y3.1] := congrArg Prod.fst hy
    rw [hx]
    have := bulk_one9 y0.1
    have := bulk_one9 y1.1
    have := bulk_one9 y2.1
    simp only [Rows.uptoBulk, Rows.uptoBulkAll]
    omega
   ·have hx : x.1 = .agg [y0.1, y1.1, y2.1, y3.1] := congrArg Prod.fst hy
    rw [hx] at hbl
    have hy2' : y2.1 = .agg [z0.1, z1.1, z2.1] := hy2
    have q0 : Rows.uptoBulk y0.1 = s0.data.toList.length + 1 := by rw [show y0.1 = .lit (.string s0.data.toList) from congrArg Prod.fst b0]; rfl
    have q1 : Rows.uptoBulk y1.1 = s1.data.toList.length + 1 := by rw [show y1.1 = .lit (.string s1.data.toList) from congrArg Prod.fst b1]; rfl
    have q4 : Rows.uptoBulk z2.1 = s2.data.toList.length + 1 := by rw [show z2.1 = .lit (.string s2.data.toList) from congrArg Prod.fst b4]; rfl
    have q2 : Rows.uptoBulk y2.1 ≥ Rows.uptoBulk z2.1 := by rw [hy2']; simp only [Rows.uptoBulk, Rows.uptoBulkAll]; omega
    simp only [Rows.uptoBulk, Rows.uptoBulkAll] at hbl
    exact ⟨by simp only; omega, by simp only; omega, hbk.1, hbk.2, by simp only; omega, by simp only; omega⟩
theorem open_nodes10 {H : Type} {enc : TypeId × Value → H} {W : World} (N : Nat) :
  ∀ {fuel : Nat} {v : Value} {x : DataW H × List MemPlace}, fuel ≤ N → DataW.trod enc Tryz.prog W 0 (fun _ => true) true fuel 40 [v] = some x → ∃ f, RowT W.heap.size W v f ∧ 2 * f.size ≤ Rows.uptoBulk x.1 ∧ (Rows.uptoBulk x.1 ≤ 1048576 → OkF f) := by
 induction N with
 | zero =>
  intro fuel v x hN h
  obtain rfl : fuel = 0 := by omega
  simp [DataW.trod] at h
 | succ N ih =>
  intro fuel v x hN h
  rcases DataW.trod_slice Tryz.underlying40 h with ⟨hcs, rfl⟩ | ⟨a, len, cap, elems, rest, n, rfl, hcs, rfl, hb, hl, hm, hlen, hel, -, -⟩
  ·simp at hcs
   subst hcs
   exact ⟨.nil, FrV.empty _ _ _, Nat.zero_le _, fun _ => trivial⟩
  ·simp at hcs
   subst hcs
   by_cases h0 : 0 < len
   ·have hcell0 : ∃ u, W.cell? a = some u := by
     have h1 := hel 0 h0
     rw [List.getElem?_eq_getElem (by omega)] at h1
     obtain ⟨cs', h2, _⟩ := Option.bind_eq_some_iff.1 h1
     rw [cellsNode] at h2
     obtain ⟨_, h3, h4⟩ := World.cells?_some h2
     have h5 := h4 0 (by omega)
     rw [List.getElem?_eq_getElem (by omega)] at h5
     exact ⟨_, by simpa [Addr.add] using h5⟩
    obtain ⟨u0, hu0⟩ := hcell0
    have hsp0 : a.spot = none := World.cell?_spot hu0
    have hlt : a.block < W.heap.size := World.block_lt_of_cell? W _ hu0
    obtain ⟨b, off, sp⟩ := a
    have hsp : sp = none := hsp0
    subst hsp
    have rows : ∀ m, m ≤ len → ∃ f : NdF, f.len = m ∧ FrAt NdT 6 5 W (fun g => g < W.heap.size) noB f b (off + (len - m) * 6) ∧ 2 * f.size ≤ Rows.uptoBulkAll ((elems.drop (len - m)).map (·.1)) ∧ (Rows.uptoBulkAll ((elems.drop (len - m)).map (·.1)) ≤ 1048576 → OkF f) := by
     intro m
     induction m with
     | zero => intro _; exact ⟨.nil, rfl, trivial, Nat.zero_le _, fun _ => trivial⟩
     | succ m ihm =>
      intro hm'
      obtain ⟨r, hr1, hr2, hr3, hr4⟩ := ihm (by omega)
      obtain ⟨i, hi⟩ : ∃ i, i = len - (m + 1) := ⟨_, rfl⟩
      have hi1 : len - m = i + 1 := by omega
      have hil : i < len := by omega
      rw [hi1] at hr2 hr3 hr4
      rw [← hi]
      have h1 := hel i hil
      have hie : i < elems.length := by omega
      rw [List.getElem?_eq_getElem hie] at h1
      obtain ⟨cs', h2, h3⟩ := Option.bind_eq_some_iff.1 h1
      rw [cellsNode] at h2
      obtain ⟨_, hcl, hat⟩ := World.cells?_some h2
      have hcc : ∀ j, j < 6 → W.cell? ⟨b, off + i * 6 + j, none⟩ = cs'[j]? := fun j hj => by
       have h5 := hat j hj
       rw [add_bare9, add_bare9] at h5
       exact h5
      obtain ⟨nd, c5, n', y, hn', rfl, hy, hyb, hyo⟩ := node_cells10 h3
      obtain ⟨k, hk1, hk2, hk3⟩ := ih (by omega) hy
      have hdrop : (elems.drop i).map (·.1) = (elems[i]).1 :: (elems.drop (i + 1)).map (·.1) := by rw [List.drop_eq_getElem_cons hie]; rfl
      obtain ⟨A, c, rfl⟩ := FrV.shape hk1
      obtain ⟨A', c', e, hkc, hkr⟩ := hk1
      injection e with e1 e2 e3
      subst e1 e3
      refine ⟨.cons nd k r, by simp only [Fr.len, hr1], ⟨⟨ndC nd (.slice A k.len c), rfl, fun j u hu => ?_, ⟨_, rfl, rfl⟩, A, c, rfl, hkc, hkr⟩, ?_⟩, ?_, fun hbl => ?_⟩
      ·have hj : j < 6 := (List.getElem?_eq_some_iff.1 hu).1
       rw [hcc j hj, hu]
      ·have h9 : off + i * 6 + 6 = off + (i + 1) * 6 := by omega
       rw [h9]; exact hr2
      ·rw [hdrop]
       simp only [Fr.size, Rows.uptoBulkAll]
       omega
      ·rw [hdrop] at hbl
       simp only [Rows.uptoBulkAll] at hbl
       exact ⟨hyo (by omega), hk3 (by omega), hr4 (by omega)⟩
    obtain ⟨f, hf1, hf2, hf3, hf4⟩ := rows len (Nat.le_refl _)
    rw [Nat.sub_self, Nat.zero_mul, Nat.add_zero] at hf2
    rw [Nat.sub_self, List.drop_zero] at hf3 hf4
    refine ⟨f, ⟨_, cap, by rw [hf1], by omega, fun _ => ⟨b, off, rfl, hlt, hf2⟩⟩, ?_, fun hbl => hf4 ?_⟩
    ·simp only [Rows.uptoBulk]
     omega
    ·simp only [Rows.uptoBulk] at hbl
     omega
   ·obtain rfl : len = 0 := by omega
    exact ⟨.nil, FrV.none_ _ _, Nat.zero_le _, fun _ => trivial⟩
end
section
open Go.ChangeShapes Go.WideShapes Go.Deep
def TxE18 (e : EdD) : Prop := (∀ s ∈ e.way, s.1.length ≤ 9223372036854775807 ∧ s.2.length ≤ 9223372036854775807) ∧ OkN e.node ∧ OkN e.old
theorem edit_cells18 {H : Type} {enc : TypeId × Value → H} {W : World} {n : Nat} {cs : List Value} {x : DataW H × List MemPlace} (h : DataW.trod enc Tryz.prog W 0 (fun _ => true) true n 55 cs = some x) :
  ∃ e : EdD, EdS (fun g => g < W.heap.size) W cs e ∧ 2 * e.node.2.size + 1 ≤ Rows.uptoBulk x.1 ∧ 2 * e.old.2.size + 1 ≤ Rows.uptoBulk x.1 ∧ 8 ≤ Rows.uptoBulk x.1 ∧ (Rows.uptoBulk x.1 ≤ 1048576 → TxE18 e) := by
 obtain ⟨ys, k, hk, hy, hlen, hyl, hf⟩ := DataW.trod_struct Tryz.underlying55 h
 rw [cellsEdit] at hlen
 have hyl' : ys.length = 4 := hyl
 match cs, hlen, ys, hyl', hy with
 | [v0, v1, v2, v3, v4, v5, v6, v7, v8, v9, v10, v11, v12, v13], _, [y0, y1, y2, y3], _, hy =>
  have f0 : DataW.trod enc Tryz.prog W 0 (fun _ => true) true k 3 (List.take (Tryz.prog.cellsOf 3) (List.drop 0 [v0, v1, v2, v3, v4, v5, v6, v7, v8, v9, v10, v11, v12, v13])) = some _ := (hf 0 _ rfl).trans rfl
  have f1 : DataW.trod enc Tryz.prog W 0 (fun _ => true) true k 53 (List.take (Tryz.prog.cellsOf 53) (List.drop 1 [v0, v1, v2, v3, v4, v5, v6, v7, v8, v9, v10, v11, v12, v13])) = some _ := (hf 1 _ rfl).trans rfl
  have f2 : DataW.trod enc Tryz.prog W 0 (fun _ => true) true k 42 (List.take (Tryz.prog.cellsOf 42) (List.drop 2 [v0, v1, v2, v3, v4, v5, v6, v7, v8, v9, v10, v11, v12, v13])) = some _ := (hf 2 _ rfl).trans rfl
  have f3 : DataW.trod enc Tryz.prog W 0 (fun _ => true) true k 42 (List.take (Tryz.prog.cellsOf 42) (List.drop 8 [v0, v1, v2, v3, v4, v5, v6, v7, v8, v9, v10, v11, v12, v13])) = some _ := (hf 3 _ rfl).trans rfl
  rw [cellsInt9] at f0
  rw [cellsWay16] at f1
  rw [cellsNode] at f2 f3
  simp only [List.drop_zero, List.drop_succ_cons, List.take_succ_cons, List.take_zero] at f0 f1 f2 f3
  obtain ⟨kd, e0, _, _⟩ := DataW.trod_int Tryz.underlying3 f0
  obtain ⟨l, hl, hlt⟩ := open_way15 f1
  obtain ⟨a, c5, n1, z1, _, ea, hz1, hb1, ok1⟩ := node_cells10 f2
  obtain ⟨b, d5, n2, z2, _, eb, hz2, hb2, ok2⟩ := node_cells10 f3
  obtain ⟨f, hf1, hf2, hf3⟩ := open_nodes10 n1 (Nat.le_refl _) hz1
  obtain ⟨g, hg1, hg2, hg3⟩ := open_nodes10 n2 (Nat.le_refl _) hz2
  simp at e0
  subst e0
  simp only [ndC, List.cons.injEq, and_true] at ea eb
  obtain ⟨rfl, rfl, rfl, rfl, rfl, rfl⟩ := ea
  obtain ⟨rfl, rfl, rfl, rfl, rfl, rfl⟩ := eb
  have hx : x.1 = .agg [y0.1, y1.1, y2.1, y3.1] := congrArg Prod.fst hy
  refine ⟨⟨kd, l, (a, f), (b, g)⟩, ⟨_, _, _, rfl, hl.s, hf1, hg1⟩, ?_, ?_, ?_, fun hbk => ?_⟩
  rotate_left 3
  ·rw [hx] at hbk
   simp only [Rows.uptoBulk, Rows.uptoBulkAll] at hbk
   exact ⟨hlt, ⟨ok1 (by omega), hf3 (by omega)⟩, ⟨ok2 (by omega), hg3 (by omega)⟩⟩
  all_goals
   rw [hx]
   simp only [Rows.uptoBulk, Rows.uptoBulkAll]
   omega
theorem open_edits18 {H : Type} {enc : TypeId × Value → H} {W : World} {fuel : Nat} {v : Value} {x : DataW H × List MemPlace} (h : DataW.trod enc Tryz.prog W 0 (fun _ => true) true fuel 22 [v] = some x) :
  ∃ l, EdsV (fun g => g < W.heap.size) W v l ∧ 8 * l.length ≤ Rows.uptoBulk x.1 ∧ (∀ e ∈ l, 2 * e.node.2.size ≤ Rows.uptoBulk x.1 ∧ 2 * e.old.2.size ≤ Rows.uptoBulk x.1) ∧ (Rows.uptoBulk x.1 ≤ 1048576 → ∀ e ∈ l, TxE18 e) := by
 rcases DataW.trod_slice Tryz.underlying22 h with ⟨hcs, rfl⟩ | ⟨a, len, cap, elems, rest, n, rfl, hcs, rfl, hb, hl, hm, hlen, hel, -, -⟩
 ·simp at hcs
  subst hcs
  exact ⟨[], EdsV.nil _ _, by simp, by simp, by simp⟩
 ·simp at hcs
  subst hcs
  by_cases h0 : 0 < len
  ·have hcell0 : ∃ u, W.cell? a = some u := by
    have h1 := hel 0 h0
    rw [List.getElem?_eq_getElem (by omega)] at h1
    obtain ⟨cs', h2, _⟩ := Option.bind_eq_some_iff.1 h1
    rw [cellsEdit] at h2
    obtain ⟨_, h3, h4⟩ := World.cells?_some h2
    have h5 := h4 0 (by omega)
    rw [List.getElem?_eq_getElem (by omega)] at h5
    exact ⟨_, by simpa [Addr.add] using h5⟩
   obtain ⟨u0, hu0⟩ := hcell0
   have hsp0 : a.spot = none := World.cell?_spot hu0
   have hlt : a.block < W.heap.size := World.block_lt_of_cell? W _ hu0
   obtain ⟨b, off, sp⟩ := a
   have hsp : sp = none := hsp0
   subst hsp
   have rows : ∀ m, m ≤ len → ∃ (l : List EdD) (xs : List Value), l.length = m ∧ rowE (fun g => g < W.heap.size) W xs l ∧ (∀ j u, xs[j]? = some u → W.cell? ⟨b, off + (len - m) * 14 + j, none⟩ = some u) ∧ 8 * l.length ≤ Rows.uptoBulkAll ((elems.drop (len - m)).map (·.1)) ∧ (∀ e ∈ l, 2 * e.node.2.size ≤ Rows.uptoBulkAll ((elems.drop (len - m)).map (·.1)) ∧ 2 * e.old.2.size ≤ Rows.uptoBulkAll ((elems.drop (len - m)).map (·.1))) ∧ (Rows.uptoBulkAll ((elems.drop (len - m)).map (·.1)) ≤ 1048576 → ∀ e ∈ l, TxE18 e) := by
    intro m
    induction m with
    | zero => intro _; exact ⟨[], [], rfl, rfl, fun j u h => by simp at h, by simp, by simp, by simp⟩
    | succ m ihm =>
     intro hm'
     obtain ⟨r, xr, hr1, hr2, hr3, hr4, hr5, hr6⟩ := ihm (by omega)
     obtain ⟨i, hi⟩ : ∃ i, i = len - (m + 1) := ⟨_, rfl⟩
     have hi1 : len - m = i + 1 := by omega
     have hil : i < len := by omega
     rw [hi1] at hr3 hr4 hr5 hr6
     rw [← hi]
     have h1 := hel i hil
     have hie : i < elems.length := by omega
     rw [List.getElem?_eq_getElem hie] at h1
     obtain ⟨cs', h2, h3⟩ := Option.bind_eq_some_iff.1 h1
     rw [cellsEdit] at h2
     obtain ⟨_, hcl, hat⟩ := World.cells?_some h2
     have hcc : ∀ j, j < 14 → W.cell? ⟨b, off + i * 14 + j, none⟩ = cs'[j]? := fun j hj => by
      have h5 := hat j hj
      rw [add_bare9, add_bare9] at h5
      exact h5
     obtain ⟨e, he, hb1, hb2, hb3, hb4⟩ := edit_cells18 h3
     have hdrop : (elems.drop i).map (·.1) = (elems[i]).1 :: (elems.drop (i + 1)).map (·.1) := by rw [List.drop_eq_getElem_cons hie]; rfl
     refine ⟨e :: r, cs' ++ xr, by simp [hr1], ⟨cs', xr, rfl, he, hr2⟩, fun j u hj => ?_, ?_, fun y hy => ?_, fun hbk y hy => ?_⟩
     ·by_cases hj14 : j < 14
      ·rw [List.getElem?_append_left (by rw [hcl]; exact hj14)] at hj
       rw [hcc j hj14, hj]
      ·rw [List.getElem?_append_right (by rw [hcl]; omega), hcl] at hj
       have h9 := hr3 _ u hj
       rw [show off + (i + 1) * 14 + (j - 14) = off + i * 14 + j by omega] at h9
       exact h9
     ·rw [hdrop]
      simp only [List.length_cons, Rows.uptoBulkAll]
      omega
     ·rw [hdrop]
      simp only [Rows.uptoBulkAll]
      rcases List.mem_cons.1 hy with rfl | hy
      ·omega
      ·have := hr5 y hy
       omega
     ·rw [hdrop] at hbk
      simp only [Rows.uptoBulkAll] at hbk
      rcases List.mem_cons.1 hy with rfl | hy
      ·exact hb4 (by omega)
      ·exact hr6 (by omega) y hy
   obtain ⟨l, xs, hl1, hl2, hl3, hl4, hl5, hl6⟩ := rows len (Nat.le_refl _)
   rw [Nat.sub_self, Nat.zero_mul, Nat.add_zero] at hl3
   rw [Nat.sub_self, List.drop_zero] at hl4 hl5 hl6
   subst hl1
   refine ⟨l, ⟨_, cap, rfl, by omega, fun _ => ⟨b, off, xs, rfl, hlt, hl2, hl3⟩⟩, ?_, fun e he => ?_, fun hbk => ?_⟩
   ·simp only [Rows.uptoBulk]
    omega
   ·have := hl5 e he
    simp only [Rows.uptoBulk]
    omega
   ·simp only [Rows.uptoBulk] at hbk
    exact hl6 (by omega)
  ·obtain rfl : len = 0 := by omega
   exact ⟨[], ⟨_, cap, rfl, by omega, fun h => absurd h (by simp)⟩, by simp, by simp, by simp⟩
end
section
attribute [local go_sem] Oper.semAt_some
def inv18 : List PanicEntry := [{ v := .iface 68 (.agg #[]), recovered := false }]
theorem require_yes (w : World) : Calls Tryz.prog 61 #[.bool true] w (fun r w' => r = .returned (.tuple #[]) ∧ w = w') := by
 go_enter Tryz.func61, Tryz.ntmps61
 go_wp2
 go_end0
 exact ⟨rfl, rfl⟩
theorem require_no (w : World) : Calls Tryz.prog 61 #[.bool false] w (fun r w' => r = .panicked inv18 ∧ w = w') := by
 go_enter Tryz.func61, Tryz.ntmps61
 go_wp2
 exact ⟨rfl, rfl, rfl⟩
def ReqP (b : Bool) (w : World) (r : Ending) (w' : World) : Prop := (if b = true then r = .returned (.tuple #[]) else r = .panicked inv18) ∧ w = w'
theorem require_any (b : Bool) (w : World) : Calls Tryz.prog 61 #[.bool b] w (ReqP b w) := by
 cases b with
 | true => exact (require_yes w).mono fun r w' ⟨h1, h2⟩ => ⟨by simpa using h1, h2⟩
 | false => exact (require_no w).mono fun r w' ⟨h1, h2⟩ => ⟨by simpa using h1, h2⟩
def isK18 (k : Int) : Bool := decide (k = 1) || decide (k = 2) || decide (k = 3)
theorem kind_any18 (k : Int) (w : World) : Calls Tryz.prog 51 #[.int .i64 k] w (fun r w' => r = .returned (.bool (isK18 k)) ∧ w = w') := by
 by_cases h1 : k = 1
 ·subst h1
  go_enter Tryz.func51, Tryz.ntmps51
  go_wp2
  go_ret
  exact ⟨rfl, rfl⟩
 ·by_cases h2 : k = 2
  ·subst h2
   clear h1
   go_enter Tryz.func51, Tryz.ntmps51
   go_wp2
   go_ret
   exact ⟨rfl, rfl⟩
  ·by_cases h3 : k = 3
   ·subst h3
    clear h1 h2
    go_enter Tryz.func51, Tryz.ntmps51
    go_wp2
    go_ret
    exact ⟨rfl, rfl⟩
   ·have HE : Hid (isK18 k = false) := hHd (by unfold isK18; simp [h1, h2, h3])
    have k1 : (k == 1) = false := beq_eq_false_iff_ne.2 h1
    have k2 : (k == 2) = false := beq_eq_false_iff_ne.2 h2
    have k3 : (k == 3) = false := beq_eq_false_iff_ne.2 h3
    clear h1 h2 h3
    go_enter Tryz.func51, Tryz.ntmps51
    go_wp2
    go_ret
    exact ⟨by rw [HE.out]; rfl, rfl⟩
theorem hasNode_any18 (k : Int) (w : World) : Calls Tryz.prog 42 #[.int .i64 k] w (fun r w' => r = .returned (.bool (decide (k ≠ 2))) ∧ w = w') := by
 by_cases h1 : k = 2
 ·subst h1
  go_enter Tryz.func42, Tryz.ntmps42
  go_wp2
  go_ret
  exact ⟨rfl, rfl⟩
 ·have HE : Hid (decide (k ≠ 2) = true) := hHd (by simp [h1])
  have k1 : (k != 2) = true := by simp [h1]
  have k2 : (k == 2) = false := beq_eq_false_iff_ne.2 h1
  clear h1
  go_enter Tryz.func42, Tryz.ntmps42
  go_wp2
  go_ret
  exact ⟨by rw [HE.out]; rfl, rfl⟩
theorem hasOld_any18 (k : Int) (w : World) : Calls Tryz.prog 44 #[.int .i64 k] w (fun r w' => r = .returned (.bool (decide (k ≠ 1))) ∧ w = w') := by
 by_cases h1 : k = 1
 ·subst h1
  go_enter Tryz.func44, Tryz.ntmps44
  go_wp2
  go_ret
  exact ⟨rfl, rfl⟩
 ·have HE : Hid (decide (k ≠ 1) = true) := hHd (by simp [h1])
  have k1 : (k != 1) = true := by simp [h1]
  have k2 : (k == 1) = false := beq_eq_false_iff_ne.2 h1
  clear h1
  go_enter Tryz.func44, Tryz.ntmps44
  go_wp2
  go_ret
  exact ⟨by rw [HE.out]; rfl, rfl⟩
theorem tag_any18 (k : Nat) (hk : k < 9223372036854775808) (w : World) : Calls Tryz.prog 45 #[.int .i64 (k : Int)] w (fun r w' => r = .returned (.int .u64 ((2 * k + 1 : Nat) : Int)) ∧ w = w') := by
 have h1 : IntKind.u64.wrap (k : Int) = (k : Int) := Go.IntWalk.u64_in _ (by omega)
 have h2 : IntKind.u64.wrap (2 * (k : Int)) = 2 * (k : Int) := Go.IntWalk.u64_in _ (by omega)
 have h3 : IntKind.u64.wrap (2 * (k : Int) + 1) = 2 * (k : Int) + 1 := Go.IntWalk.u64_in _ (by omega)
 have HE : Hid (((2 * k + 1 : Nat) : Int) = 2 * (k : Int) + 1) := hHd (by omega)
 clear hk
 go_enter Tryz.func45, Tryz.ntmps45
 go_wp2
 go_ret
 exact ⟨by rw [HE.out]; rfl, rfl⟩
theorem leaf_any18 (a : NdD) (f : NdF) (A : Option Addr) (c : Nat) (w : World) : Calls Tryz.prog 76 #[.agg (cN a (.slice A f.len c))] w (Ans9 (.bool (decide (a.kind ≠ 0))) w) := by
 have HB0 : Hid (Below w.heap.size w (w.alloc (.cells (cN a (.slice A f.len c)) 42))) := hHd bAl
 by_cases h1 : a.kind = 0
 ·have k1 : (a.kind == 0) = true := beq_iff_eq.2 h1
  have k2 : (a.kind != 0) = false := by simp [h1]
  have HE : Hid (decide (a.kind ≠ 0) = false) := hHd (by simp [h1])
  clear h1
  go_enter Tryz.func76, Tryz.ntmps76
  go_wp2
  go_ret
  exact ⟨by rw [HE.out]; rfl, HB0.out⟩
 ·have k1 : (a.kind == 0) = false := beq_eq_false_iff_ne.2 h1
  have k2 : (a.kind != 0) = true := by simp [h1]
  have HE : Hid (decide (a.kind ≠ 0) = true) := hHd (by simp [h1])
  clear h1
  go_enter Tryz.func76, Tryz.ntmps76
  go_wp2
  go_ret
  exact ⟨by rw [HE.out]; rfl, HB0.out⟩
def sv18 (a : NdD) : Bool := if a.kind = 0 then decide (a.kind = 0 ∧ a.num = 0 ∧ a.text = []) else decide (0 < a.kind) && (decide (a.kind ≤ 255) && (decide (a.num = 0) || decide (a.text = [])))
theorem sv_is18 (a : NdD) : ndOk a = sv18 a := by
 unfold ndOk sv18
 by_cases h : a.kind = 0
 ·rw [if_pos h, Bool.eq_iff_iff]
  simp only [Bool.and_eq_true, decide_eq_true_eq, h, true_and]
  constructor
  ·rintro ⟨⟨⟨h1, -⟩, -⟩, -⟩
   exact ⟨Decidable.byContradiction fun e => h1 (.inl e), Decidable.byContradiction fun e => h1 (.inr e)⟩
  ·rintro ⟨h1, h2⟩
   exact ⟨⟨⟨fun e => e.elim (fun e => e h1) (fun e => e h2), by decide⟩, by decide⟩, fun e => e.1 h2⟩
 ·rw [if_neg h, Bool.eq_iff_iff]
  simp only [Bool.and_eq_true, Bool.or_eq_true, decide_eq_true_eq]
  constructor
  ·rintro ⟨⟨⟨-, h2⟩, h3⟩, h4⟩
   refine ⟨by omega, h3, ?_⟩
   by_cases e : a.num = 0
   ·exact .inl e
   ·exact .inr (Decidable.byContradiction fun e2 => h4 ⟨e2, e⟩)
  ·rintro ⟨h2, h3, h4⟩
   exact ⟨⟨⟨fun e => h e.1, by omega⟩, h3⟩, fun e => h4.elim e.2 e.1⟩
theorem sval_any18 (a : NdD) (w : World) : Calls Tryz.prog 83 #[.agg #[.int .i64 a.kind, .int .u64 (a.num : Int), .string (txt a.text)]] w (Ans9 (.bool (sv18 a)) w) := by
 have HB0 : Hid (Below w.heap.size w (w.alloc (.cells #[.int .i64 a.kind, .int .u64 (a.num : Int), .string (txt a.text)] 39))) := hHd bAl
 have tt : (txt a.text).toList = a.text := txt_toList _
 have ev := val_eql18 a.kind a.num a.text
 obtain ⟨z, hz⟩ : ∃ z, z = decide (a.kind = 0 ∧ a.num = 0 ∧ a.text = []) := ⟨_, rfl⟩
 rw [← hz] at ev
 by_cases h0 : a.kind = 0
 ·have k1 : (a.kind == 0) = true := beq_iff_eq.2 h0
  have HE : Hid (sv18 a = z) := hHd (by unfold sv18; rw [if_pos h0, hz])
  clear h0 hz
  go_enter Tryz.func83, Tryz.ntmps83
  go_wp2
  go_ret
  exact ⟨by rw [HE.out]; rfl, HB0.out⟩
 ·have k1 : (a.kind == 0) = false := beq_eq_false_iff_ne.2 h0
  clear ev hz z
  by_cases h1 : 0 < a.kind
  ·by_cases h2 : a.kind ≤ 255
   ·by_cases h3 : a.num = 0
    ·have HE : Hid (sv18 a = true) := hHd (by unfold sv18; rw [if_neg h0]; simp [h1, h2, h3])
     have n1 : ((a.num : Int) == 0) = true := by simp [h3]
     have n3 : (a.num == 0) = true := by simp [h3]
     clear h0 h3
     go_enter Tryz.func83, Tryz.ntmps83
     go_wp2
     go_ret
     exact ⟨by rw [HE.out]; rfl, HB0.out⟩
    ·have n1 : ((a.num : Int) == 0) = false := by simp [h3]
     have n3 : (a.num == 0) = false := by simp [h3]
     by_cases h4 : a.text = []
     ·have HE : Hid (sv18 a = true) := hHd (by unfold sv18; rw [if_neg h0]; simp [h1, h2, h4])
      have t1 : (a.text == []) = true := by rw [h4]; rfl
      have t2 : a.text.isEmpty = true := by rw [h4]; rfl
      clear h0 h3 h4
      go_enter Tryz.func83, Tryz.ntmps83
      go_wp2
      go_ret
      exact ⟨by rw [HE.out]; rfl, HB0.out⟩
     ·have HE : Hid (sv18 a = false) := hHd (by unfold sv18; rw [if_neg h0]; simp [h3, h4])
      have t1 : (a.text == []) = false := by cases e : a.text with | nil => exact absurd e h4 | cons => rfl
      have t2 : a.text.isEmpty = false := by cases e : a.text with | nil => exact absurd e h4 | cons => rfl
      clear h0 h3 h4
      go_enter Tryz.func83, Tryz.ntmps83
      go_wp2
      go_ret
      exact ⟨by rw [HE.out]; rfl, HB0.out⟩
   ·have HE : Hid (sv18 a = false) := hHd (by unfold sv18; rw [if_neg h0]; simp [h2])
    clear h0
    go_enter Tryz.func83, Tryz.ntmps83
    go_wp2
    go_ret
    exact ⟨by rw [HE.out]; rfl, HB0.out⟩
  ·have HE : Hid (sv18 a = false) := hHd (by unfold sv18; rw [if_neg h0]; simp [h1])
   clear h0
   go_enter Tryz.func83, Tryz.ntmps83
   go_wp2
   go_ret
   exact ⟨by rw [HE.out]; rfl, HB0.out⟩
theorem zemp_name (a : NdD) (f : NdF) (A : Option Addr) (c : Nat) (w : World) (h : a.name ≠ []) :
  Calls Tryz.prog 52 #[.agg (cN a (.slice A f.len c))] w (Ans9 (.bool (emp18 a f)) w) := by
 have HB0 : Hid (Below w.heap.size w (w.alloc (.cells (cN a (.slice A f.len c)) 42))) := hHd bAl
 have tn : (txt a.name).toList = a.name := txt_toList _
 have tk : (txt a.key).toList = a.key := txt_toList _
 have tt : (txt a.text).toList = a.text := txt_toList _
 have ev := val_eql18 a.kind a.num a.text
 have HV : Hid (emp18 a f = false) := hHd (by unfold emp18; simp [h])
 have e1 : (a.name == []) = false := by cases e : a.name with | nil => exact absurd e h | cons => rfl
 have e2 : a.name.isEmpty = false := by cases e : a.name with | nil => exact absurd e h | cons => rfl
 clear h
 go_enter Tryz.func52, Tryz.ntmps52
 go_wp2
 go_ret
 exact ⟨by rw [HV.out]; rfl, HB0.out⟩
theorem zemp_key (a : NdD) (f : NdF) (A : Option Addr) (c : Nat) (w : World) (h0 : a.name = []) (h : a.key ≠ []) :
  Calls Tryz.prog 52 #[.agg (cN a (.slice A f.len c))] w (Ans9 (.bool (emp18 a f)) w) := by
 have HB0 : Hid (Below w.heap.size w (w.alloc (.cells (cN a (.slice A f.len c)) 42))) := hHd bAl
 have tn : (txt a.name).toList = a.name := txt_toList _
 have tk : (txt a.key).toList = a.key := txt_toList _
 have tt : (txt a.text).toList = a.text := txt_toList _
 have ev := val_eql18 a.kind a.num a.text
 have HV : Hid (emp18 a f = false) := hHd (by unfold emp18; simp [h])
 have d1 : (a.name == []) = true := by rw [h0]; rfl
 have d2 : a.name.isEmpty = true := by rw [h0]; rfl
 have e1 : (a.key == []) = false := by cases e : a.key with | nil => exact absurd e h | cons => rfl
 have e2 : a.key.isEmpty = false := by cases e : a.key with | nil => exact absurd e h | cons => rfl
 clear h h0
 go_enter Tryz.func52, Tryz.ntmps52
 go_wp2
 go_ret
 exact ⟨by rw [HV.out]; rfl, HB0.out⟩
theorem zemp_val (a : NdD) (f : NdF) (A : Option Addr) (c : Nat) (w : World) (h0 : a.name = []) (h1 : a.key = []) (h2 : ¬ (a.kind = 0 ∧ a.num = 0 ∧ a.text = [])) :
  Calls Tryz.prog 52 #[.agg (cN a (.slice A f.len c))] w (Ans9 (.bool (emp18 a f)) w) := by
 have HB0 : Hid (Below w.heap.size w (w.alloc (.cells (cN a (.slice A f.len c)) 42))) := hHd bAl
 have tn : (txt a.name).toList = a.name := txt_toList _
 have tk : (txt a.key).toList = a.key := txt_toList _
 have tt : (txt a.text).toList = a.text := txt_toList _
 have ev := val_eql18 a.kind a.num a.text
 have HV : Hid (emp18 a f = false) := hHd (by unfold emp18; simp [h2])
 have d1 : (a.name == []) = true := by rw [h0]; rfl
 have d2 : a.name.isEmpty = true := by rw [h0]; rfl
 have e1 : (a.key == []) = true := by rw [h1]; rfl
 have e2 : a.key.isEmpty = true := by rw [h1]; rfl
 have hvd : decide (a.kind = 0 ∧ a.num = 0 ∧ a.text = []) = false := decide_eq_false h2
 rw [hvd] at ev
 clear h0 h1 h2 hvd
 go_enter Tryz.func52, Tryz.ntmps52
 go_wp2
 go_ret
 exact ⟨by rw [HV.out]; rfl, HB0.out⟩
theorem zemp_kids (a : NdD) (f : NdF) (A : Option Addr) (c : Nat) (w : World) (h0 : a.name = []) (h1 : a.key = []) (h2 : a.kind = 0 ∧ a.num = 0 ∧ a.text = []) (h3 : f.len ≠ 0) :
  Calls Tryz.prog 52 #[.agg (cN a (.slice A f.len c))] w (Ans9 (.bool (emp18 a f)) w) := by
 have HB0 : Hid (Below w.heap.size w (w.alloc (.cells (cN a (.slice A f.len c)) 42))) := hHd bAl
 have tn : (txt a.name).toList = a.name := txt_toList _
 have tk : (txt a.key).toList = a.key := txt_toList _
 have tt : (txt a.text).toList = a.text := txt_toList _
 have ev := val_eql18 a.kind a.num a.text
 have HV : Hid (emp18 a f = false) := hHd (by unfold emp18; simp [h3])
 have d1 : (a.name == []) = true := by rw [h0]; rfl
 have d2 : a.name.isEmpty = true := by rw [h0]; rfl
 have e1 : (a.key == []) = true := by rw [h1]; rfl
 have e2 : a.key.isEmpty = true := by rw [h1]; rfl
 have hvd : decide (a.kind = 0 ∧ a.num = 0 ∧ a.text = []) = true := decide_eq_true h2
 rw [hvd] at ev
 have e3 : ((f.len : Int) == 0) = false := by simp [h3]
 clear h0 h1 h2 h3 hvd
 go_enter Tryz.func52, Tryz.ntmps52
 go_wp2
 go_ret
 exact ⟨by rw [HV.out]; rfl, HB0.out⟩
theorem zemp_yes (a : NdD) (f : NdF) (A : Option Addr) (c : Nat) (w : World) (h0 : a.name = []) (h1 : a.key = []) (h2 : a.kind = 0 ∧ a.num = 0 ∧ a.text = []) (h3 : f.len = 0) :
  Calls Tryz.prog 52 #[.agg (cN a (.slice A f.len c))] w (Ans9 (.bool (emp18 a f)) w) := by
 have HB0 : Hid (Below w.heap.size w (w.alloc (.cells (cN a (.slice A f.len c)) 42))) := hHd bAl
 have tn : (txt a.name).toList = a.name := txt_toList _
 have tk : (txt a.key).toList = a.key := txt_toList _
 have tt : (txt a.text).toList = a.text := txt_toList _
 have ev := val_eql18 a.kind a.num a.text
 have HV : Hid (emp18 a f = true) := hHd (by unfold emp18; simp [h0, h1, h2, h3])
 have d1 : (a.name == []) = true := by rw [h0]; rfl
 have d2 : a.name.isEmpty = true := by rw [h0]; rfl
 have e1 : (a.key == []) = true := by rw [h1]; rfl
 have e2 : a.key.isEmpty = true := by rw [h1]; rfl
 have hvd : decide (a.kind = 0 ∧ a.num = 0 ∧ a.text = []) = true := decide_eq_true h2
 rw [hvd] at ev
 have e3 : ((f.len : Int) == 0) = true := by simp [h3]
 clear h0 h1 h2 h3 hvd
 go_enter Tryz.func52, Tryz.ntmps52
 go_wp2
 go_ret
 exact ⟨by rw [HV.out]; rfl, HB0.out⟩
theorem zero_any18 (a : NdD) (f : NdF) (A : Option Addr) (c : Nat) (w : World) : Calls Tryz.prog 52 #[.agg (cN a (.slice A f.len c))] w (Ans9 (.bool (decide ((a, f) = noN))) w) := by
 rw [← emp18_is]
 by_cases h0 : a.name = []
 ·by_cases h1 : a.key = []
  ·by_cases h2 : a.kind = 0 ∧ a.num = 0 ∧ a.text = []
   ·by_cases h3 : f.len = 0
    ·exact zemp_yes a f A c w h0 h1 h2 h3
    ·exact zemp_kids a f A c w h0 h1 h2 h3
   ·exact zemp_val a f A c w h0 h1 h2
  ·exact zemp_key a f A c w h0 h1
 ·exact zemp_name a f A c w h0
def SndP18 (f : NdF) : Prop := ∀ (a : NdD) (A : Option Addr) (c : Nat) (w : World), RowT w.heap.size w (.slice A f.len c) f → f.size ≤ 1000000 →
  Calls Tryz.prog 53 #[.agg (cN a (.slice A f.len c))] w (Ans9 (.bool (okN18 (a, f))) w)
theorem snd_row18 (f : NdF) (hkids : ∀ n a k, f.get? n = some (a, k) → SndP18 k) : SndP18 f := by
 intro a A c w hk hsz
 have HB1 : Hid (Below w.heap.size w (w.alloc (.cells (cN a (.slice A f.len c)) 42))) := hHd bAl
 have HP1 : Hid (Blk (w.alloc (.cells (cN a (.slice A f.len c)) 42)) w.heap.size 42 (cN a (.slice A f.len c))) := hHd (Blk.new _ _ _)
 obtain ⟨sv, hsv⟩ : ∃ b, b = sv18 a := ⟨_, rfl⟩
 obtain ⟨lf, hlf⟩ : ∃ b, b = decide (a.kind ≠ 0) := ⟨_, rfl⟩
 obtain ⟨ln, hln⟩ : ∃ b, b = decide (0 < f.len) := ⟨_, rfl⟩
 have HSV : ∀ W, Hid (Calls Tryz.prog 83 #[.agg #[.int .i64 a.kind, .int .u64 (a.num : Int), .string (txt a.text)]] W (Ans9 (.bool sv) W)) := fun W => hHd (by rw [hsv]; exact sval_any18 a W)
 have HLF : ∀ W, Hid (Calls Tryz.prog 76 #[.agg (cN a (.slice A f.len c))] W (Ans9 (.bool lf) W)) := fun W => hHd (by rw [hlf]; exact leaf_any18 a f A c W)
 have HLN := hHd hln
 have HOK : Hid (okN18 (a, f) = (!(!sv || (lf && ln)) && okF18 f)) := hHd (by
  unfold okN18
  rw [sv_is18, hsv, hlf, hln]
  simp only
  cases f with
  | nil => simp [Fr.len, okF18]
  | cons y k r => cases sv18 a <;> by_cases e : a.kind = 0 <;> simp [e, Fr.len])
 have HI := hHd hkids
 have HK : Hid (RowT w.heap.size w (.slice A f.len c) f) := hHd hk
 have HZ : Hid (f.size ≤ 1000000) := hHd hsz
 clear hkids hk hsz hsv hlf hln
 go_enter Tryz.func53, Tryz.ntmps53
 go_upto_region 1 with (fail)
 revert HB1 HP1
 generalize (w.alloc (.cells (cN a (.slice A f.len c)) 42)) = w1
 intro HB1 HP1
 go_cut [18] (fun b wx => b = .bool (!sv || (lf && ln)) ∧ Hid (Blk wx w.heap.size 42 (cN a (.slice A f.len c))) ∧ Hid (Below w.heap.size w wx))
 case first =>
  have q2 := (HP1.out.cell 2).trans rfl
  have q3 := (HP1.out.cell 3).trans rfl
  have q4 := (HP1.out.cell 4).trans rfl
  go_wp2_with fail
  refine (HSV _).out.mono ?_
  rintro r w2 ⟨rfl, hb⟩
  have HP2 := hHd (HP1.out.below hb HP1.out.lt)
  have HB2 := hHd (HB1.out.trans (hb.mono HB1.out.size))
  clear hb HP1 HB1 q2 q3 q4
  cases sv with
  | false =>
   go_wp2_with fail
   go_meet
   exact ⟨rfl, HP2, HB2⟩
  | true =>
   obtain ⟨p0, p1, p2, p3, p4, p5⟩ := cl6 HP2.out
   go_wp2_with fail
   refine (HLF _).out.mono ?_
   rintro r w3 ⟨rfl, hb⟩
   have HP3 := hHd (HP2.out.below hb HP2.out.lt)
   have HB3 := hHd (HB2.out.trans (hb.mono HB2.out.size))
   clear hb HP2 HB2 p0 p1 p2 p3 p4 p5
   cases lf with
   | false =>
    go_wp2_with fail
    go_meet
    exact ⟨rfl, HP3, HB3⟩
   | true =>
    have p5 := (HP3.out.cell 5).trans rfl
    by_cases h : 0 < f.len
    ·have l1 : (0 : Int) < (f.len : Int) := by omega
     have HE : Hid (ln = true) := hHd (by rw [HLN.out]; simp [h])
     go_wp2_with fail
     go_meet
     exact ⟨by rw [HE.out]; rfl, HP3, HB3⟩
    ·have l1 : ¬ (0 : Int) < (f.len : Int) := by omega
     have HE : Hid (ln = false) := hHd (by rw [HLN.out]; simp; omega)
     go_wp2_with fail
     go_meet
     exact ⟨by rw [HE.out]; rfl, HP3, HB3⟩
 case rest =>
 obtain ⟨rfl, HP, HB⟩ := hcut
 clear HSV HLF HP1 HB1 HLN
 obtain ⟨bb, hbb⟩ : ∃ b, b = (!sv || (lf && ln)) := ⟨_, rfl⟩
 rw [← hbb] at HOK ⊢
 clear hbb
 obtain ⟨w2, hw2⟩ : ∃ w2, w2 = wc := ⟨_, rfl⟩
 subst hw2
 cases bb with
 | true =>
  have HF : Hid (okN18 (a, f) = false) := hHd HOK.out
  go_wp2
  go_ret
  exact ⟨by rw [HF.out]; rfl, HB.out⟩
 | false =>
  have HF : Hid (okN18 (a, f) = okF18 f) := hHd HOK.out
  have p5 := (HP.out.cell 5).trans rfl
  clear HOK
  go_upto_region 4 with (fail)
  clear p5
  go_loopw [22] (fun i wr => ∃ j : Nat, j ≤ f.len ∧ i = .int .i64 (j : Int) ∧ Hid (∀ n, n < j → okAt18 f n = true) ∧ Hid (Below w.heap.size w wr)) (fun i _ => f.len - (intOf i).toNat)
  case atStart => exact ⟨0, Nat.zero_le _, rfl, hHd (fun n h => by omega), HB⟩
  case round =>
   clear HP HB
   obtain ⟨j, hj, rfl, HL, HBr⟩ := hrel
   obtain ⟨w7, hw7⟩ : ∃ w7, w7 = wr := ⟨_, rfl⟩
   subst hw7
   by_cases hlt : j < f.len
   ·obtain ⟨a1, q, hg⟩ := Fr.get_some hlt
    obtain ⟨b, o, A', c', rfl, -, -, hbl, hrow, hcl⟩ := HK.out.at hg
    have hcell : ∀ i u, (ndC a1 (.slice A' q.len c'))[i]? = some u → w7.cell? ⟨b, o + j * 6 + i, none⟩ = some u := fun i u hu => (HBr.out.cell (p := ⟨b, o + j * 6 + i, none⟩) hbl).trans (hcl i u hu)
    have q0 : (w7).cell? ⟨b, o + j * 6, none⟩ = _ := hcell 0 _ rfl
    have q1 : (w7).cell? ⟨b, o + j * 6 + 1, none⟩ = _ := hcell 1 _ rfl
    have q2 : (w7).cell? ⟨b, o + j * 6 + 2, none⟩ = _ := hcell 2 _ rfl
    have q3 : (w7).cell? ⟨b, o + j * 6 + 3, none⟩ = _ := hcell 3 _ rfl
    have q4 : (w7).cell? ⟨b, o + j * 6 + 4, none⟩ = _ := hcell 4 _ rfl
    have q5 : (w7).cell? ⟨b, o + j * 6 + 5, none⟩ = _ := hcell 5 _ rfl
    have i1 : (0 : Int) ≤ (j : Int) := by omega
    have i2 : (j : Int) < (f.len : Int) := by omega
    have i3 : (f.len : Int) ≤ 1000000 := by have := HZ.out; have := Fr.len_size f; omega
    obtain ⟨rb, hrb⟩ : ∃ z, z = okN18 (a1, q) := ⟨_, rfl⟩
    have HI1 : ∀ W, Below w7.heap.size w7 W → Hid (Calls Tryz.prog 53 #[.agg (cN a1 (.slice A' q.len c'))] W (Ans9 (.bool rb) W)) := fun W hW => hHd (by
     rw [hrb]; exact HI.out j a1 q hg a1 A' c' W ((hrow.under HBr.out (Nat.le_refl _) HBr.out.size).under hW (Nat.le_refl _) hW.size) (by have := HZ.out; have := Fr.size_get hg; omega))
    have HOK : Hid (okAt18 f j = rb) := hHd (by unfold okAt18; rw [hg, hrb])
    have HB8 : Hid (Below w7.heap.size w7 (w7.alloc (.cells (cN a1 (.slice A' q.len c')) 42))) := hHd bAl
    clear hcl hg hrow hcell hrb hbl
    go_wp2_with fail
    refine (HI1 _ HB8.out).out.mono ?_
    rintro r w9 ⟨rfl, hb⟩
    have HB9 := hHd (HBr.out.trans ((HB8.out.trans (hb.mono HB8.out.size)).mono HBr.out.size))
    clear hb q0 q1 q2 q3 q4 q5 HBr HI1 HB8
    cases rb with
    | false =>
     have HF2 : Hid (okF18 f = false) := hHd (okF_no hlt HOK.out)
     clear hlt
     go_wp2
     go_ret
     exact ⟨by rw [HF.out, HF2.out]; rfl, HB9.out⟩
    | true =>
     have HL2 : Hid (∀ n, n < j + 1 → okAt18 f n = true) := hHd (fun n hn => by rcases Nat.lt_succ_iff_lt_or_eq.1 hn with h | rfl; exact HL.out n h; exact HOK.out)
     go_wp2
     go_roundw
     case rel => exact ⟨j + 1, by omega, by go_num, HL2, HB9⟩
     case measure => simp [intOf]; omega
   ·have i2 : ¬ (j : Int) < (f.len : Int) := by omega
    have HF2 : Hid (okF18 f = true) := hHd (okF_at.2 (fun n hn => HL.out n (by omega)))
    go_wp2
    go_ret
    exact ⟨by rw [HF.out, HF2.out]; rfl, HBr.out⟩
theorem snode_any18 (x : Nd) (cs : List Value) (w : World) (hx : LieN w cs x) (hf : Few9 x) : Calls Tryz.prog 53 #[.agg cs.toArray] w (Ans9 (.bool (okN18 x)) w) := by
 obtain ⟨A, c, rfl, hk⟩ := hx.shape
 exact Fr.byKids (P := SndP18) snd_row18 x.2 x.1 A c w hk hf
end
def memF (x : Nd) (f : NdF) : Prop := ∃ i, f.get? i = some x
theorem mem_cons {x : Nd} {a : NdD} {k r : NdF} : memF x (.cons a k r) ↔ x = (a, k) ∨ memF x r := by
 constructor
 ·rintro ⟨i, hi⟩
  cases i with
  | zero => injection hi with hi; exact .inl hi.symm
  | succ i => exact .inr ⟨i, hi⟩
 ·rintro (rfl | ⟨i, hi⟩)
  ·exact ⟨0, rfl⟩
  ·exact ⟨i + 1, hi⟩
theorem all_inj {F G : Fo} (hF : F.fit) (hG : G.fit) (rF : Fo.right 1 F = true) (rG : Fo.right 1 G = true) (lF : F.all.length ≤ 8192) (h : F.all = G.all) : F = G := by
 have h1 := gt_all F F.all.length 1 0 (Nat.le_refl _) (by omega) hF rF
 have h2 := gt_all G F.all.length 1 0 (by rw [h]; exact Nat.le_refl _) (by rw [← h]; omega) hG rG
 rw [h] at h1 h2
 rw [h2] at h1
 injection h1 with h1
 exact h1.symm
end Go.Proofs.YtleidkpdpabkpaaGreatDoor
