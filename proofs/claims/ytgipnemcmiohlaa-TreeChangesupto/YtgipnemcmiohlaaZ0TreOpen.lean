/- What the laws of package tree want of TreOpen. -/
import Derived.Test.YtgipnemcmiohlaaZ0ForestC
import Derived.Deep.Slices
import Derived.Deep.Fields
import Derived.ChangeSame
import Derived.SliceStrings
import Derived.OpenShut
namespace Go.Proofs.Ytgipnemcmiohlaa
open Go.RowKit
set_option linter.unusedSimpArgs false
set_option linter.unusedVariables false
open Go.ChangeShapes Go.WideShapes Go.Deep
theorem bulk_one9 {H : Type} (d : DataW H) : 1 ≤ Rows.uptoBulk d := by
  cases d with
  | lit l => cases l <;> simp [Rows.uptoBulk]
  | nil => simp [Rows.uptoBulk]
  | ptr d => simp [Rows.uptoBulk]
  | slice elems spare => simp [Rows.uptoBulk]
  | agg parts => simp [Rows.uptoBulk]
  | iface t d => simp [Rows.uptoBulk]
  | map entries => simp [Rows.uptoBulk]
  | held h => simp [Rows.uptoBulk]
theorem add_bare9 (b o j : Nat) : (⟨b, o, none⟩ : Addr).add j = ⟨b, o + j, none⟩ := by unfold Addr.add; split <;> simp_all
theorem cellsNode : Try.prog.cellsOf 27 = 6 := by kernel_rfl
theorem cellsVal : Try.prog.cellsOf 24 = 3 := by kernel_rfl
theorem cellsStr9 : Try.prog.cellsOf 9 = 1 := by kernel_rfl
theorem cellsInt9 : Try.prog.cellsOf 3 = 1 := by kernel_rfl
theorem cellsU64 : Try.prog.cellsOf 22 = 1 := by kernel_rfl
theorem cellsNds : Try.prog.cellsOf 25 = 1 := by kernel_rfl
theorem node_cells {H : Type} {enc : TypeId × Value → H} {W : World} {n : Nat} {cs : List Value} {x : DataW H × List MemPlace} (h : DataW.trod enc Try.prog W 0 (fun _ => true) true n 27 cs = some x) :
    ∃ (a : NdD) (c5 : Value) (n' : Nat) (y : DataW H × List MemPlace), n = n' + 1 ∧ cs = ndC a c5 ∧ DataW.trod enc Try.prog W 0 (fun _ => true) true n' 25 [c5] = some y ∧ Rows.uptoBulk y.1 + 4 ≤ Rows.uptoBulk x.1 := by
  obtain ⟨ys, k, hk, hy, hlen, hyl, hf⟩ := DataW.trod_struct Try.underlying27 h
  rw [cellsNode] at hlen
  have hyl' : ys.length = 4 := hyl
  match cs, hlen, ys, hyl', hy with
  | [v0, v1, v2, v3, v4, v5], _, [y0, y1, y2, y3], _, hy =>
    have f0 : DataW.trod enc Try.prog W 0 (fun _ => true) true k 9 (List.take (Try.prog.cellsOf 9) (List.drop 0 [v0, v1, v2, v3, v4, v5])) = some _ := (hf 0 _ rfl).trans rfl
    have f1 : DataW.trod enc Try.prog W 0 (fun _ => true) true k 9 (List.take (Try.prog.cellsOf 9) (List.drop 1 [v0, v1, v2, v3, v4, v5])) = some _ := (hf 1 _ rfl).trans rfl
    have f2 : DataW.trod enc Try.prog W 0 (fun _ => true) true k 24 (List.take (Try.prog.cellsOf 24) (List.drop 2 [v0, v1, v2, v3, v4, v5])) = some _ := (hf 2 _ rfl).trans rfl
    have f3 : DataW.trod enc Try.prog W 0 (fun _ => true) true k 25 (List.take (Try.prog.cellsOf 25) (List.drop 5 [v0, v1, v2, v3, v4, v5])) = some _ := (hf 3 _ rfl).trans rfl
    rw [cellsStr9] at f0 f1
    rw [cellsVal] at f2
    rw [cellsNds] at f3
    simp only [List.drop_zero, List.drop_succ_cons, List.take_succ_cons, List.take_zero] at f0 f1 f2 f3
    obtain ⟨s0, e0, _, _⟩ := DataW.trod_string Try.underlying9 f0
    obtain ⟨s1, e1, _, _⟩ := DataW.trod_string Try.underlying9 f1
    obtain ⟨zs, k', hk', hz, _, hzl, hg⟩ := DataW.trod_struct Try.underlying24 f2
    have hzl' : zs.length = 3 := hzl
    match zs, hzl', hz with
    | [z0, z1, z2], _, hz =>
      have g0 : DataW.trod enc Try.prog W 0 (fun _ => true) true k' 3 (List.take (Try.prog.cellsOf 3) (List.drop 0 [v2, v3, v4])) = some _ := (hg 0 _ rfl).trans rfl
      have g1 : DataW.trod enc Try.prog W 0 (fun _ => true) true k' 22 (List.take (Try.prog.cellsOf 22) (List.drop 1 [v2, v3, v4])) = some _ := (hg 1 _ rfl).trans rfl
      have g2 : DataW.trod enc Try.prog W 0 (fun _ => true) true k' 9 (List.take (Try.prog.cellsOf 9) (List.drop 2 [v2, v3, v4])) = some _ := (hg 2 _ rfl).trans rfl
      rw [cellsInt9] at g0
      rw [cellsU64] at g1
      rw [cellsStr9] at g2
      simp only [List.drop_zero, List.drop_succ_cons, List.take_succ_cons, List.take_zero] at g0 g1 g2
      obtain ⟨kd, e2, _, _⟩ := DataW.trod_int Try.underlying3 g0
      obtain ⟨nu, e3, _, hw⟩ := DataW.trod_int Try.underlying22 g1
      obtain ⟨s2, e4, _, _⟩ := DataW.trod_string Try.underlying9 g2
      have hb := bounds_u64 hw
      simp at e0 e1 e2 e3 e4
      subst e0 e1 e2 e3 e4
      refine ⟨⟨s0.data.toList, s1.data.toList, kd, nu.toNat, s2.data.toList⟩, v5, k, y3, hk, ?_, f3, ?_⟩
      · show _ = [Value.string (txt s0.data.toList), Value.string (txt s1.data.toList), Value.int .i64 kd, Value.int .u64 (nu.toNat : Int), Value.string (txt s2.data.toList), v5]
        rw [show txt s0.data.toList = s0 from txt_ext (txt_data _), show txt s1.data.toList = s1 from txt_ext (txt_data _), show txt s2.data.toList = s2 from txt_ext (txt_data _), Int.toNat_of_nonneg (by omega)]
      · have hx : x.1 = .agg [y0.1, y1.1, y2.1, y3.1] := congrArg Prod.fst hy
        rw [hx]
        have := bulk_one9 y0.1
        have := bulk_one9 y1.1
        have := bulk_one9 y2.1
        simp only [Rows.uptoBulk, Rows.uptoBulkAll]
        omega
/-- A row of nodes that came in. -/
theorem open_nodes {H : Type} {enc : TypeId × Value → H} {W : World} (N : Nat) :
    ∀ {fuel : Nat} {v : Value} {x : DataW H × List MemPlace}, fuel ≤ N → DataW.trod enc Try.prog W 0 (fun _ => true) true fuel 25 [v] = some x → ∃ f, RowT W.heap.size W v f ∧ 2 * f.size ≤ Rows.uptoBulk x.1 := by
  induction N with
  | zero =>
    intro fuel v x hN h
    obtain rfl : fuel = 0 := by omega
    simp [DataW.trod] at h
  | succ N ih =>
    intro fuel v x hN h
    rcases DataW.trod_slice Try.underlying25 h with ⟨hcs, rfl⟩ | ⟨a, len, cap, elems, rest, n, rfl, hcs, rfl, hb, hl, hm, hlen, hel, -, -⟩
    · simp at hcs
      subst hcs
      exact ⟨.nil, FrV.empty _ _ _, Nat.zero_le _⟩
    · simp at hcs
      subst hcs
      by_cases h0 : 0 < len
      · have hcell0 : ∃ u, W.cell? a = some u := by
          have h1 := hel 0 h0
          rw [List.getElem?_eq_getElem (by omega)] at h1
          obtain ⟨cs', h2, _⟩ := Option.bind_eq_some_iff.1 h1
          rw [cellsNode] at h2
          obtain ⟨_, h3, h4⟩ := World.cells?_some h2
          have h5 := h4 0 (by omega)
          rw [List.getElem?_eq_getElem (by omega)] at h5
          exact ⟨_, by simpa [Addr.add] using h5⟩
        obtain ⟨u0, hu0⟩ := hcell0
        have hsp0 : a.spot = none := World.cell?_spot hu0
        have hlt : a.block < W.heap.size := World.block_lt_of_cell? W _ hu0
        obtain ⟨b, off, sp⟩ := a
        have hsp : sp = none := hsp0
        subst hsp
        have rows : ∀ m, m ≤ len → ∃ f : NdF, f.len = m ∧ FrAt NdT 6 5 W (fun g => g < W.heap.size) noB f b (off + (len - m) * 6) ∧ 2 * f.size ≤ Rows.uptoBulkAll ((elems.drop (len - m)).map (·.1)) := by
          intro m
          induction m with
          | zero => intro _; exact ⟨.nil, rfl, trivial, Nat.zero_le _⟩
          | succ m ihm =>
            intro hm'
            obtain ⟨r, hr1, hr2, hr3⟩ := ihm (by omega)
            obtain ⟨i, hi⟩ : ∃ i, i = len - (m + 1) := ⟨_, rfl⟩
            have hi1 : len - m = i + 1 := by omega
            have hil : i < len := by omega
            rw [hi1] at hr2 hr3
            rw [← hi]
            have h1 := hel i hil
            have hie : i < elems.length := by omega
            rw [List.getElem?_eq_getElem hie] at h1
            obtain ⟨cs', h2, h3⟩ := Option.bind_eq_some_iff.1 h1
            rw [cellsNode] at h2
            obtain ⟨_, hcl, hat⟩ := World.cells?_some h2
            have hcc : ∀ j, j < 6 → W.cell? ⟨b, off + i * 6 + j, none⟩ = cs'[j]? := fun j hj => by
              have h5 := hat j hj
              rw [add_bare9, add_bare9] at h5
              exact h5
            obtain ⟨nd, c5, n', y, hn', rfl, hy, hyb⟩ := node_cells h3
            obtain ⟨k, hk1, hk2⟩ := ih (by omega) hy
            have hdrop : (elems.drop i).map (·.1) = (elems[i]).1 :: (elems.drop (i + 1)).map (·.1) := by rw [List.drop_eq_getElem_cons hie]; rfl
            obtain ⟨A, c, rfl⟩ := FrV.shape hk1
            obtain ⟨A', c', e, hkc, hkr⟩ := hk1
            injection e with e1 e2 e3
            subst e1 e3
            refine ⟨.cons nd k r, by simp only [Fr.len, hr1], ⟨⟨ndC nd (.slice A k.len c), rfl, fun j u hu => ?_, ⟨_, rfl, rfl⟩, A, c, rfl, hkc, hkr⟩, ?_⟩, ?_⟩
            · have hj : j < 6 := (List.getElem?_eq_some_iff.1 hu).1
              rw [hcc j hj, hu]
            · have h9 : off + i * 6 + 6 = off + (i + 1) * 6 := by omega
              rw [h9]; exact hr2
            · rw [hdrop]
              simp only [Fr.size, Rows.uptoBulkAll]
              omega
        obtain ⟨f, hf1, hf2, hf3⟩ := rows len (Nat.le_refl _)
        rw [Nat.sub_self, Nat.zero_mul, Nat.add_zero] at hf2
        rw [Nat.sub_self, List.drop_zero] at hf3
        refine ⟨f, ⟨_, cap, by rw [hf1], by omega, fun _ => ⟨b, off, rfl, hlt, hf2⟩⟩, ?_⟩
        simp only [Rows.uptoBulk]
        omega
      · obtain rfl : len = 0 := by omega
        exact ⟨.nil, FrV.none_ _ _, Nat.zero_le _⟩
/-- A tree that came in. -/
theorem open_node {H : Type} {enc : TypeId × Value → H} {W : World} {v : Value} {d : DataW H} {p : List MemPlace} (h : DataW.Trod enc Try.prog W 0 (fun _ => true) true 27 v d p) (hv : ∃ cs : Array Value, v = .agg cs) :
    ∃ (a : NdD) (f : NdF) (A : Option Addr) (c : Nat), v = .agg (ndC a (.slice A f.len c)).toArray ∧ LieN W (ndC a (.slice A f.len c)) (a, f) ∧ 2 * f.size ≤ Rows.uptoBulk d := by
  obtain ⟨fuel, hf⟩ := h
  obtain ⟨cs, rfl⟩ := hv
  have hf' : DataW.trod enc Try.prog W 0 (fun _ => true) true fuel 27 cs.toList = some (d, p) := hf
  obtain ⟨a, c5, n', y, _, he, hy, hb⟩ := node_cells hf'
  obtain ⟨f, h1, h2⟩ := open_nodes n' (Nat.le_refl _) hy
  obtain ⟨A, c, rfl⟩ := FrV.shape h1
  refine ⟨a, f, A, c, ?_, LieB.make h1, by simp only at hb; omega⟩
  rw [← he]
end Go.Proofs.Ytgipnemcmiohlaa

