/- What ValidTells stands on: VadOpen, TreRefA, TreRefB, Drawn. -/
import Derived.Test.YtljjaikejfoanaaGreatZM0
import Derived.Test.YtljjaikejfoanaaGreatZM1
import Derived.Test.YtljjaikejfoanaaGreatZM4
import Derived.Test.YtljjaikejfoanaaGreatZM2
import Derived.Test.YtljjaikejfoanaaGreatRows
import Derived.Deep.RegionHeld3
set_option linter.unusedSimpArgs false
set_option linter.unusedVariables false
namespace Go.Proofs.YtljjaikejfoanaaGreat
open Go.RowKit
open Go.ChangeShapes Go.WideShapes Go.Deep
set_option maxRecDepth 100000 in
theorem node_cells10 {H : Type} {enc : TypeId × Value → H} {W : World} {n : Nat} {cs : List Value} {x : DataW H × List MemPlace} (h : DataW.trod enc Tryz.prog W 0 (fun _ => true) true n 27 cs = some x) :
    ∃ (a : NdD) (c5 : Value) (n' : Nat) (y : DataW H × List MemPlace), n = n' + 1 ∧ cs = ndC a c5 ∧ DataW.trod enc Tryz.prog W 0 (fun _ => true) true n' 25 [c5] = some y ∧ Rows.uptoBulk y.1 + 4 ≤ Rows.uptoBulk x.1 ∧ (Rows.uptoBulk x.1 ≤ 1048576 → OkD a) := by
  obtain ⟨ys, k, hk, hy, hlen, hyl, hf⟩ := DataW.trod_struct Tryz.underlying27 h
  rw [cellsNode] at hlen
  have hyl' : ys.length = 4 := hyl
  match cs, hlen, ys, hyl', hy with
  | [v0, v1, v2, v3, v4, v5], _, [y0, y1, y2, y3], _, hy =>
    have f0 : DataW.trod enc Tryz.prog W 0 (fun _ => true) true k 9 (List.take (Tryz.prog.cellsOf 9) (List.drop 0 [v0, v1, v2, v3, v4, v5])) = some _ := (hf 0 _ rfl).trans rfl
    have f1 : DataW.trod enc Tryz.prog W 0 (fun _ => true) true k 9 (List.take (Tryz.prog.cellsOf 9) (List.drop 1 [v0, v1, v2, v3, v4, v5])) = some _ := (hf 1 _ rfl).trans rfl
    have f2 : DataW.trod enc Tryz.prog W 0 (fun _ => true) true k 24 (List.take (Tryz.prog.cellsOf 24) (List.drop 2 [v0, v1, v2, v3, v4, v5])) = some _ := (hf 2 _ rfl).trans rfl
    have f3 : DataW.trod enc Tryz.prog W 0 (fun _ => true) true k 25 (List.take (Tryz.prog.cellsOf 25) (List.drop 5 [v0, v1, v2, v3, v4, v5])) = some _ := (hf 3 _ rfl).trans rfl
    rw [cellsStr9] at f0 f1
    rw [cellsVal] at f2
    rw [cellsNds] at f3
    simp only [List.drop_zero, List.drop_succ_cons, List.take_succ_cons, List.take_zero] at f0 f1 f2 f3
    obtain ⟨s0, e0, b0, _⟩ := DataW.trod_string Tryz.underlying9 f0
    obtain ⟨s1, e1, b1, _⟩ := DataW.trod_string Tryz.underlying9 f1
    obtain ⟨zs, k', hk', hz, _, hzl, hg⟩ := DataW.trod_struct Tryz.underlying24 f2
    have hzl' : zs.length = 3 := hzl
    match zs, hzl', hz with
    | [z0, z1, z2], _, hz =>
      have g0 : DataW.trod enc Tryz.prog W 0 (fun _ => true) true k' 3 (List.take (Tryz.prog.cellsOf 3) (List.drop 0 [v2, v3, v4])) = some _ := (hg 0 _ rfl).trans rfl
      have g1 : DataW.trod enc Tryz.prog W 0 (fun _ => true) true k' 22 (List.take (Tryz.prog.cellsOf 22) (List.drop 1 [v2, v3, v4])) = some _ := (hg 1 _ rfl).trans rfl
      have g2 : DataW.trod enc Tryz.prog W 0 (fun _ => true) true k' 9 (List.take (Tryz.prog.cellsOf 9) (List.drop 2 [v2, v3, v4])) = some _ := (hg 2 _ rfl).trans rfl
      rw [cellsInt9] at g0
      rw [cellsU64] at g1
      rw [cellsStr9] at g2
      simp only [List.drop_zero, List.drop_succ_cons, List.take_succ_cons, List.take_zero] at g0 g1 g2
      obtain ⟨kd, e2, _, hwk⟩ := DataW.trod_int Tryz.underlying3 g0
      obtain ⟨nu, e3, _, hw⟩ := DataW.trod_int Tryz.underlying22 g1
      obtain ⟨s2, e4, b4, _⟩ := DataW.trod_string Tryz.underlying9 g2
      have hb := bounds_u64 hw
      have hbk := bounds_i64 hwk
      have hy2 := congrArg Prod.fst hz
      simp at e0 e1 e2 e3 e4
      subst e0 e1 e2 e3 e4
      refine ⟨⟨s0.data.toList, s1.data.toList, kd, nu.toNat, s2.data.toList⟩, v5, k, y3, hk, ?_, f3, ?_, fun hbl => ?_⟩
      · show _ = [Value.string (txt s0.data.toList), Value.string (txt s1.data.toList), Value.int .i64 kd, Value.int .u64 (nu.toNat : Int), Value.string (txt s2.data.toList), v5]
        rw [show txt s0.data.toList = s0 from txt_ext (txt_data _), show txt s1.data.toList = s1 from txt_ext (txt_data _), show txt s2.data.toList = s2 from txt_ext (txt_data _), Int.toNat_of_nonneg (by omega)]
      · have hx : x.1 = .agg [y0.1, y1.1, y2.1, y3.1] := congrArg Prod.fst hy
        rw [hx]
        have := bulk_one9 y0.1
        have := bulk_one9 y1.1
        have := bulk_one9 y2.1
        simp only [Rows.uptoBulk, Rows.uptoBulkAll]
        omega
      · have hx : x.1 = .agg [y0.1, y1.1, y2.1, y3.1] := congrArg Prod.fst hy
        rw [hx] at hbl
        have hy2' : y2.1 = .agg [z0.1, z1.1, z2.1] := hy2
        have q0 : Rows.uptoBulk y0.1 = s0.data.toList.length + 1 := by rw [show y0.1 = .lit (.string s0.data.toList) from congrArg Prod.fst b0]; rfl
        have q1 : Rows.uptoBulk y1.1 = s1.data.toList.length + 1 := by rw [show y1.1 = .lit (.string s1.data.toList) from congrArg Prod.fst b1]; rfl
        have q4 : Rows.uptoBulk z2.1 = s2.data.toList.length + 1 := by rw [show z2.1 = .lit (.string s2.data.toList) from congrArg Prod.fst b4]; rfl
        have q2 : Rows.uptoBulk y2.1 ≥ Rows.uptoBulk z2.1 := by rw [hy2']; simp only [Rows.uptoBulk, Rows.uptoBulkAll]; omega
        simp only [Rows.uptoBulk, Rows.uptoBulkAll] at hbl
        exact ⟨by simp only; omega, by simp only; omega, hbk.1, hbk.2, by simp only; omega, by simp only; omega⟩
set_option maxRecDepth 100000 in
theorem open_nodes10 {H : Type} {enc : TypeId × Value → H} {W : World} (N : Nat) :
    ∀ {fuel : Nat} {v : Value} {x : DataW H × List MemPlace}, fuel ≤ N → DataW.trod enc Tryz.prog W 0 (fun _ => true) true fuel 25 [v] = some x → ∃ f, RowT W.heap.size W v f ∧ 2 * f.size ≤ Rows.uptoBulk x.1 ∧ (Rows.uptoBulk x.1 ≤ 1048576 → OkF f) := by
  induction N with
  | zero =>
    intro fuel v x hN h
    obtain rfl : fuel = 0 := by omega
    simp [DataW.trod] at h
  | succ N ih =>
    intro fuel v x hN h
    rcases DataW.trod_slice Tryz.underlying25 h with ⟨hcs, rfl⟩ | ⟨a, len, cap, elems, rest, n, rfl, hcs, rfl, hb, hl, hm, hlen, hel, -, -⟩
    · simp at hcs
      subst hcs
      exact ⟨.nil, FrV.empty _ _ _, Nat.zero_le _, fun _ => trivial⟩
    · simp at hcs
      subst hcs
      by_cases h0 : 0 < len
      · have hcell0 : ∃ u, W.cell? a = some u := by
          have h1 := hel 0 h0
          rw [List.getElem?_eq_getElem (by omega)] at h1
          obtain ⟨cs', h2, _⟩ := Option.bind_eq_some_iff.1 h1
          rw [cellsNode] at h2
          obtain ⟨_, h3, h4⟩ := World.cells?_some h2
          have h5 := h4 0 (by omega)
          rw [List.getElem?_eq_getElem (by omega)] at h5
          exact ⟨_, by simpa [Addr.add] using h5⟩
        obtain ⟨u0, hu0⟩ := hcell0
        have hsp0 : a.spot = none := World.cell?_spot hu0
        have hlt : a.block < W.heap.size := World.block_lt_of_cell? W _ hu0
        obtain ⟨b, off, sp⟩ := a
        have hsp : sp = none := hsp0
        subst hsp
        have rows : ∀ m, m ≤ len → ∃ f : NdF, f.len = m ∧ FrAt NdT 6 5 W (fun g => g < W.heap.size) noB f b (off + (len - m) * 6) ∧ 2 * f.size ≤ Rows.uptoBulkAll ((elems.drop (len - m)).map (·.1)) ∧ (Rows.uptoBulkAll ((elems.drop (len - m)).map (·.1)) ≤ 1048576 → OkF f) := by
          intro m
          induction m with
          | zero => intro _; exact ⟨.nil, rfl, trivial, Nat.zero_le _, fun _ => trivial⟩
          | succ m ihm =>
            intro hm'
            obtain ⟨r, hr1, hr2, hr3, hr4⟩ := ihm (by omega)
            obtain ⟨i, hi⟩ : ∃ i, i = len - (m + 1) := ⟨_, rfl⟩
            have hi1 : len - m = i + 1 := by omega
            have hil : i < len := by omega
            rw [hi1] at hr2 hr3 hr4
            rw [← hi]
            have h1 := hel i hil
            have hie : i < elems.length := by omega
            rw [List.getElem?_eq_getElem hie] at h1
            obtain ⟨cs', h2, h3⟩ := Option.bind_eq_some_iff.1 h1
            rw [cellsNode] at h2
            obtain ⟨_, hcl, hat⟩ := World.cells?_some h2
            have hcc : ∀ j, j < 6 → W.cell? ⟨b, off + i * 6 + j, none⟩ = cs'[j]? := fun j hj => by
              have h5 := hat j hj
              rw [add_bare9, add_bare9] at h5
              exact h5
            obtain ⟨nd, c5, n', y, hn', rfl, hy, hyb, hyo⟩ := node_cells10 h3
            obtain ⟨k, hk1, hk2, hk3⟩ := ih (by omega) hy
            have hdrop : (elems.drop i).map (·.1) = (elems[i]).1 :: (elems.drop (i + 1)).map (·.1) := by rw [List.drop_eq_getElem_cons hie]; rfl
            obtain ⟨A, c, rfl⟩ := FrV.shape hk1
            obtain ⟨A', c', e, hkc, hkr⟩ := hk1
            injection e with e1 e2 e3
            subst e1 e3
            refine ⟨.cons nd k r, by simp only [Fr.len, hr1], ⟨⟨ndC nd (.slice A k.len c), rfl, fun j u hu => ?_, ⟨_, rfl, rfl⟩, A, c, rfl, hkc, hkr⟩, ?_⟩, ?_, fun hbl => ?_⟩
            · have hj : j < 6 := (List.getElem?_eq_some_iff.1 hu).1
              rw [hcc j hj, hu]
            · have h9 : off + i * 6 + 6 = off + (i + 1) * 6 := by omega
              rw [h9]; exact hr2
            · rw [hdrop]
              simp only [Fr.size, Rows.uptoBulkAll]
              omega
            · rw [hdrop] at hbl
              simp only [Rows.uptoBulkAll] at hbl
              exact ⟨hyo (by omega), hk3 (by omega), hr4 (by omega)⟩
        obtain ⟨f, hf1, hf2, hf3, hf4⟩ := rows len (Nat.le_refl _)
        rw [Nat.sub_self, Nat.zero_mul, Nat.add_zero] at hf2
        rw [Nat.sub_self, List.drop_zero] at hf3 hf4
        refine ⟨f, ⟨_, cap, by rw [hf1], by omega, fun _ => ⟨b, off, rfl, hlt, hf2⟩⟩, ?_, fun hbl => hf4 ?_⟩
        · simp only [Rows.uptoBulk]
          omega
        · simp only [Rows.uptoBulk] at hbl
          omega
      · obtain rfl : len = 0 := by omega
        exact ⟨.nil, FrV.none_ _ _, Nat.zero_le _, fun _ => trivial⟩
set_option maxRecDepth 100000 in
theorem open_node10 {H : Type} {enc : TypeId × Value → H} {W : World} {v : Value} {d : DataW H} {p : List MemPlace} (h : DataW.Trod enc Tryz.prog W 0 (fun _ => true) true 27 v d p) (hv : ∃ cs : Array Value, v = .agg cs) :
    ∃ (a : NdD) (f : NdF) (A : Option Addr) (c : Nat), v = .agg (ndC a (.slice A f.len c)).toArray ∧ LieN W (ndC a (.slice A f.len c)) (a, f) ∧ 2 * f.size ≤ Rows.uptoBulk d ∧ (Rows.uptoBulk d ≤ 1048576 → OkD a ∧ OkF f) := by
  obtain ⟨fuel, hf⟩ := h
  obtain ⟨cs, rfl⟩ := hv
  have hf' : DataW.trod enc Tryz.prog W 0 (fun _ => true) true fuel 27 cs.toList = some (d, p) := hf
  obtain ⟨a, c5, n', y, _, he, hy, hb, ho⟩ := node_cells10 hf'
  obtain ⟨f, h1, h2, h3⟩ := open_nodes10 n' (Nat.le_refl _) hy
  obtain ⟨A, c, rfl⟩ := FrV.shape h1
  refine ⟨a, f, A, c, ?_, LieB.make h1, by simp only at hb; omega, fun hbl => ⟨ho hbl, h3 (by simp only at hb; omega)⟩⟩
  rw [← he]
end Go.Proofs.YtljjaikejfoanaaGreat
namespace Go.Proofs.YtljjaikejfoanaaGreat
open Go.RowKit
theorem Ans9.bool {b c : Bool} {w : World} {r : Ending} {w' : World} (h : Ans9 (.bool b) w r w') (e : b = c) : Ans9 (.bool c) w r w' := by subst e; exact h
set_option maxRecDepth 100000 in
set_option maxHeartbeats 1000000 in
theorem rless_name (a b : NdD) (A B : Option Addr) (m n c d : Nat) (w : World) (h1 : Go.Op.bytesLess a.name b.name = true) :
    Calls Tryz.prog 34 #[.agg #[.string (txt a.name), .string (txt a.key), .int .i64 a.kind, .int .u64 (a.num : Int), .string (txt a.text), .slice A m c], .agg #[.string (txt b.name), .string (txt b.key), .int .i64 b.kind, .int .u64 (b.num : Int), .string (txt b.text), .slice B n d]] w (Ans9 (.bool true) w) := by
  have hB : Below w.heap.size w ((w.alloc (.cells #[.string (txt a.name), .string (txt a.key), .int .i64 a.kind, .int .u64 (a.num : Int), .string (txt a.text), .slice A m c] 27)).alloc (.cells #[.string (txt b.name), .string (txt b.key), .int .i64 b.kind, .int .u64 (b.num : Int), .string (txt b.text), .slice B n d] 27)) := ((Below.refl _ _).alloc (Nat.le_refl _) _).alloc (by simp) _
  have HB := Lib.hid hB
  have t1 : (txt a.name).toList = a.name := txt_toList _
  have t2 : (txt b.name).toList = b.name := txt_toList _
  have t3 : (txt a.key).toList = a.key := txt_toList _
  have t4 : (txt b.key).toList = b.key := txt_toList _
  clear hB
  go_enter Tryz.func34, Tryz.ntmps34
  go_wp2
  go_ret
  exact ⟨rfl, HB.out⟩
set_option maxRecDepth 100000 in
set_option maxHeartbeats 1000000 in
theorem rless_key (a b : NdD) (A B : Option Addr) (m n c d : Nat) (w : World) (h1 : Go.Op.bytesLess a.name b.name = false) (h2 : (a.name == b.name) = true) (h3 : Go.Op.bytesLess a.key b.key = true) :
    Calls Tryz.prog 34 #[.agg #[.string (txt a.name), .string (txt a.key), .int .i64 a.kind, .int .u64 (a.num : Int), .string (txt a.text), .slice A m c], .agg #[.string (txt b.name), .string (txt b.key), .int .i64 b.kind, .int .u64 (b.num : Int), .string (txt b.text), .slice B n d]] w (Ans9 (.bool true) w) := by
  have hB : Below w.heap.size w ((w.alloc (.cells #[.string (txt a.name), .string (txt a.key), .int .i64 a.kind, .int .u64 (a.num : Int), .string (txt a.text), .slice A m c] 27)).alloc (.cells #[.string (txt b.name), .string (txt b.key), .int .i64 b.kind, .int .u64 (b.num : Int), .string (txt b.text), .slice B n d] 27)) := ((Below.refl _ _).alloc (Nat.le_refl _) _).alloc (by simp) _
  have HB := Lib.hid hB
  have t1 : (txt a.name).toList = a.name := txt_toList _
  have t2 : (txt b.name).toList = b.name := txt_toList _
  have t3 : (txt a.key).toList = a.key := txt_toList _
  have t4 : (txt b.key).toList = b.key := txt_toList _
  clear hB
  go_enter Tryz.func34, Tryz.ntmps34
  go_wp2
  go_ret
  exact ⟨rfl, HB.out⟩
set_option maxRecDepth 100000 in
set_option maxHeartbeats 1000000 in
theorem rless_not (a b : NdD) (A B : Option Addr) (m n c d : Nat) (w : World) (h1 : Go.Op.bytesLess a.name b.name = false) (h2 : (a.name == b.name) = true) (h3 : Go.Op.bytesLess a.key b.key = false) :
    Calls Tryz.prog 34 #[.agg #[.string (txt a.name), .string (txt a.key), .int .i64 a.kind, .int .u64 (a.num : Int), .string (txt a.text), .slice A m c], .agg #[.string (txt b.name), .string (txt b.key), .int .i64 b.kind, .int .u64 (b.num : Int), .string (txt b.text), .slice B n d]] w (Ans9 (.bool false) w) := by
  have hB : Below w.heap.size w ((w.alloc (.cells #[.string (txt a.name), .string (txt a.key), .int .i64 a.kind, .int .u64 (a.num : Int), .string (txt a.text), .slice A m c] 27)).alloc (.cells #[.string (txt b.name), .string (txt b.key), .int .i64 b.kind, .int .u64 (b.num : Int), .string (txt b.text), .slice B n d] 27)) := ((Below.refl _ _).alloc (Nat.le_refl _) _).alloc (by simp) _
  have HB := Lib.hid hB
  have t1 : (txt a.name).toList = a.name := txt_toList _
  have t2 : (txt b.name).toList = b.name := txt_toList _
  have t3 : (txt a.key).toList = a.key := txt_toList _
  have t4 : (txt b.key).toList = b.key := txt_toList _
  clear hB
  go_enter Tryz.func34, Tryz.ntmps34
  go_wp2
  go_ret
  exact ⟨rfl, HB.out⟩
set_option maxRecDepth 100000 in
set_option maxHeartbeats 1000000 in
theorem rless_no (a b : NdD) (A B : Option Addr) (m n c d : Nat) (w : World) (h1 : Go.Op.bytesLess a.name b.name = false) (h2 : (a.name == b.name) = false) :
    Calls Tryz.prog 34 #[.agg #[.string (txt a.name), .string (txt a.key), .int .i64 a.kind, .int .u64 (a.num : Int), .string (txt a.text), .slice A m c], .agg #[.string (txt b.name), .string (txt b.key), .int .i64 b.kind, .int .u64 (b.num : Int), .string (txt b.text), .slice B n d]] w (Ans9 (.bool false) w) := by
  have hB : Below w.heap.size w ((w.alloc (.cells #[.string (txt a.name), .string (txt a.key), .int .i64 a.kind, .int .u64 (a.num : Int), .string (txt a.text), .slice A m c] 27)).alloc (.cells #[.string (txt b.name), .string (txt b.key), .int .i64 b.kind, .int .u64 (b.num : Int), .string (txt b.text), .slice B n d] 27)) := ((Below.refl _ _).alloc (Nat.le_refl _) _).alloc (by simp) _
  have HB := Lib.hid hB
  have t1 : (txt a.name).toList = a.name := txt_toList _
  have t2 : (txt b.name).toList = b.name := txt_toList _
  have t3 : (txt a.key).toList = a.key := txt_toList _
  have t4 : (txt b.key).toList = b.key := txt_toList _
  clear hB
  go_enter Tryz.func34, Tryz.ntmps34
  go_wp2
  go_ret
  exact ⟨rfl, HB.out⟩
theorem rless_any (x y : Nd) (cs ds : List Value) (w : World) (hx : LieN w cs x) (hy : LieN w ds y) :
    Calls Tryz.prog 34 #[.agg cs.toArray, .agg ds.toArray] w (Ans9 (.bool (lessX x.1 y.1)) w) := by
  obtain ⟨A, c, rfl, -⟩ := hx.shape
  obtain ⟨B, d, rfl, -⟩ := hy.shape
  cases h1 : Go.Op.bytesLess x.1.name y.1.name with
  | true => exact (rless_name x.1 y.1 _ _ _ _ _ _ w h1).mono fun _ _ h => h.bool (by simp [lessX, lessS, stp, ltY, h1])
  | false =>
    by_cases h2 : x.1.name = y.1.name
    · cases h3 : Go.Op.bytesLess x.1.key y.1.key with
      | true => exact (rless_key x.1 y.1 _ _ _ _ _ _ w h1 (beq_iff_eq.2 h2) h3).mono fun _ _ h => h.bool (by simp [lessX, lessS, stp, ltY, h1, h2, h3])
      | false => exact (rless_not x.1 y.1 _ _ _ _ _ _ w h1 (beq_iff_eq.2 h2) h3).mono fun _ _ h => h.bool (by rw [h2] at h1; simp [lessX, lessS, stp, ltY, h1, h2, h3])
    · exact (rless_no x.1 y.1 _ _ _ _ _ _ w h1 (beq_eq_false_iff_ne.2 h2)).mono fun _ _ h => h.bool (by simp [lessX, lessS, stp, ltY, h1, h2])
set_option maxRecDepth 100000 in
set_option maxHeartbeats 1000000 in
theorem rfindn_any (s : Stp) (x : Nd) (cs : List Value) (w : World) (hx : LieN w cs x) (hl : x.2.len ≤ 1000000) :
    Calls Tryz.prog 29 #[.agg cs.toArray, .agg #[.string (txt s.1), .string (txt s.2)]] w (Ans9 (.int .i64 (findIx s x.2)) w) := by
  obtain ⟨A, c, rfl, hk⟩ := hx.shape
  obtain ⟨a, f⟩ := x
  have hB : Below w.heap.size w ((w.alloc (.cells #[.string (txt a.name), .string (txt a.key), .int .i64 a.kind, .int .u64 (a.num : Int), .string (txt a.text), .slice A f.len c] 27)).alloc (.cells #[.string (txt s.1), .string (txt s.2)] 45)) := ((Below.refl _ _).alloc (Nat.le_refl _) _).alloc (by simp) _
  have HB := Lib.hid hB
  have tn : (txt s.1).toList = s.1 := txt_toList _
  have tk : (txt s.2).toList = s.2 := txt_toList _
  have HK : Hid (RowT w.heap.size w (.slice A f.len c) f) := Lib.hid hk
  have HLL : Hid (f.len ≤ 1000000) := Lib.hid hl
  clear hk hx hB hl
  go_enter Tryz.func29, Tryz.ntmps29
  go_wp2
  go_loopw [5] (fun i wr => ∃ k : Nat, k ≤ f.len ∧ i = .int .i64 (k : Int) ∧ Hid (∀ j, j < k → ∀ y, f.get? j = some y → stp y.1 ≠ s) ∧ Blk wr w.heap.size 27 #[.string (txt a.name), .string (txt a.key), .int .i64 a.kind, .int .u64 (a.num : Int), .string (txt a.text), .slice A f.len c] ∧ Blk wr (w.heap.size + 1) 45 #[.string (txt s.1), .string (txt s.2)] ∧ Below w.heap.size w wr) (fun i _ => f.len - (intOf i).toNat)
  case atStart =>
    have hb2 : Blk ((w.alloc (.cells #[.string (txt a.name), .string (txt a.key), .int .i64 a.kind, .int .u64 (a.num : Int), .string (txt a.text), .slice A f.len c] 27)).alloc (.cells #[.string (txt s.1), .string (txt s.2)] 45)) (w.heap.size + 1) 45 #[.string (txt s.1), .string (txt s.2)] := by
      have h := Blk.new (w.alloc (.cells #[.string (txt a.name), .string (txt a.key), .int .i64 a.kind, .int .u64 (a.num : Int), .string (txt a.text), .slice A f.len c] 27)) 45 #[.string (txt s.1), .string (txt s.2)]
      rw [show (w.alloc (.cells #[.string (txt a.name), .string (txt a.key), .int .i64 a.kind, .int .u64 (a.num : Int), .string (txt a.text), .slice A f.len c] 27)).heap.size = w.heap.size + 1 by simp] at h
      exact h
    exact ⟨0, Nat.zero_le _, rfl, Lib.hid (fun j h => by omega), (Blk.new w _ _).alloc _, hb2, HB.out⟩
  case round =>
    obtain ⟨k, hk, rfl, HL, hP, hQ, hB⟩ := hrel
    have p5 : wr.cell? ⟨w.heap.size, 5, none⟩ = some (.slice A f.len c) := (hP.cell 5).trans rfl
    have HBr := Lib.hid hB
    have HP := Lib.hid hP
    have HQ := Lib.hid hQ
    by_cases hlt : k < f.len
    · obtain ⟨a1, q, hg⟩ := Fr.get_some hlt
      obtain ⟨b, o, A', c', rfl, -, -, hbl, -, hcl⟩ := HK.out.at hg
      have i1 : (0 : Int) ≤ (k : Int) := by omega
      have i2 : (k : Int) < (f.len : Int) := by omega
      have i3 : (f.len : Int) ≤ 1000000 := by have := HLL.out; omega
      have q0 : wr.cell? ⟨b, o + k * 6, none⟩ = some (.string (txt a1.name)) := (hB.cell (p := ⟨b, o + k * 6, none⟩) hbl).trans (hcl 0 _ rfl)
      have q1 : wr.cell? ⟨b, o + k * 6 + 1, none⟩ = some (.string (txt a1.key)) := (hB.cell (p := ⟨b, o + k * 6 + 1, none⟩) hbl).trans (hcl 1 _ rfl)
      have r0 : wr.cell? ⟨w.heap.size + 1, 0, none⟩ = some (.string (txt s.1)) := (hQ.cell 0).trans rfl
      have r1 : wr.cell? ⟨w.heap.size + 1, 1, none⟩ = some (.string (txt s.2)) := (hQ.cell 1).trans rfl
      have ta : (txt a1.name).toList = a1.name := txt_toList _
      have tb : (txt a1.key).toList = a1.key := txt_toList _
      have HG := Lib.hid hg
      clear hcl hg hP hQ hB hbl
      by_cases hn : a1.name = s.1
      · have h1 : (a1.name == s.1) = true := beq_iff_eq.2 hn
        by_cases hk2 : a1.key = s.2
        · have h2 : (a1.key == s.2) = true := beq_iff_eq.2 hk2
          have HF : Hid (findIx s f = (k : Int)) := Lib.hid (by unfold findIx; rw [find_lt HL.out ⟨_, HG.out, Prod.ext hn hk2⟩])
          clear hn hk2
          go_wp2_with fail
          go_region
          all_goals go_wp2
          all_goals go_ret
          all_goals exact ⟨by rw [HF.out]; rfl, HBr.out.drew⟩
        · have h2 : (a1.key == s.2) = false := beq_eq_false_iff_ne.2 hk2
          have HL2 : Hid (∀ j, j < k + 1 → ∀ y, f.get? j = some y → stp y.1 ≠ s) := Lib.hid (fun j hj y hy => by
            by_cases e : j = k
            · subst e; rw [HG.out] at hy; injection hy with hy; subst hy; exact fun e => hk2 (congrArg Prod.snd e)
            · exact HL.out j (by omega) y hy)
          clear hn hk2
          go_wp2_with fail
          go_region
          all_goals go_wp2
          all_goals go_roundw
          all_goals first | exact ⟨k + 1, by omega, by go_num, HL2, HP.out.below (Below.refl _ _).drew HP.out.lt, HQ.out.below (Below.refl _ _).drew HQ.out.lt, HBr.out.drew⟩ | (simp [intOf]; omega)
      · have h1 : (a1.name == s.1) = false := beq_eq_false_iff_ne.2 hn
        have HL2 : Hid (∀ j, j < k + 1 → ∀ y, f.get? j = some y → stp y.1 ≠ s) := Lib.hid (fun j hj y hy => by
          by_cases e : j = k
          · subst e; rw [HG.out] at hy; injection hy with hy; subst hy; exact fun e => hn (congrArg Prod.fst e)
          · exact HL.out j (by omega) y hy)
        clear hn
        go_wp2_with fail
        go_region
        all_goals go_wp2
        all_goals go_roundw
        all_goals first | exact ⟨k + 1, by omega, by go_num, HL2, HP.out.below (Below.refl _ _).drew HP.out.lt, HQ.out.below (Below.refl _ _).drew HQ.out.lt, HBr.out.drew⟩ | (simp [intOf]; omega)
    · have HF : Hid (findIx s f = -1) := Lib.hid (by unfold findIx; rw [find_out (fun j hj y hy => HL.out j (by omega) y hy)])
      have i2 : ¬ (k : Int) < (f.len : Int) := by omega
      clear hP hQ hB
      go_wp2
      go_ret
      exact ⟨by rw [HF.out]; rfl, HBr.out⟩
end Go.Proofs.YtljjaikejfoanaaGreat
namespace Go.Proofs.YtljjaikejfoanaaGreat
open Go.RowKit
set_option maxRecDepth 100000 in
set_option maxHeartbeats 2000000 in
theorem rsizef_any (f : NdF) : ∀ (a : NdD) (A : Option Addr) (c : Nat) (w : World), RowT w.heap.size w (.slice A f.len c) f → f.size ≤ 1000000 →
    Calls Tryz.prog 18 #[.agg #[.string (txt a.name), .string (txt a.key), .int .i64 a.kind, .int .u64 (a.num : Int), .string (txt a.text), .slice A f.len c]] w (Ans9 (.int .i64 ((f.size + 1 : Nat) : Int)) w) := by
  refine Fr.byKids (P := fun f => ∀ (a : NdD) (A : Option Addr) (c : Nat) (w : World), RowT w.heap.size w (.slice A f.len c) f → f.size ≤ 1000000 →
    Calls Tryz.prog 18 #[.agg #[.string (txt a.name), .string (txt a.key), .int .i64 a.kind, .int .u64 (a.num : Int), .string (txt a.text), .slice A f.len c]] w (Ans9 (.int .i64 ((f.size + 1 : Nat) : Int)) w)) ?_ f
  clear f
  intro f hkids a A c w hk hsz
  have hB : Below w.heap.size w (w.alloc (.cells #[.string (txt a.name), .string (txt a.key), .int .i64 a.kind, .int .u64 (a.num : Int), .string (txt a.text), .slice A f.len c] 27)) := (Below.refl _ _).alloc (Nat.le_refl _) _
  have HB0 := Lib.hid hB
  have HI := Lib.hid hkids
  have HK : Hid (RowT w.heap.size w (.slice A f.len c) f) := Lib.hid hk
  have HZ : Hid (f.size ≤ 1000000) := Lib.hid hsz
  clear hkids hk hsz hB
  go_enter Tryz.func18, Tryz.ntmps18
  go_wp2
  go_loopw [3, 4] (fun m i wr => ∃ (j s : Nat), j ≤ f.len ∧ i = .int .i64 (j : Int) ∧ m = .int .i64 (s : Int) ∧ Hid (s = (Fr.take j f).size + 1) ∧ Blk wr w.heap.size 27 #[.string (txt a.name), .string (txt a.key), .int .i64 a.kind, .int .u64 (a.num : Int), .string (txt a.text), .slice A f.len c] ∧ Below w.heap.size w wr) (fun _ i _ => f.len - (intOf i).toNat)
  case atStart => exact ⟨0, 1, Nat.zero_le _, rfl, rfl, Lib.hid (by simp [Fr.take, Fr.size]), Blk.new _ _ _, HB0.out⟩
  case round =>
    obtain ⟨j, s, hj, rfl, rfl, HS, hP, hB⟩ := hrel
    have p5 : wr.cell? ⟨w.heap.size, 5, none⟩ = some (.slice A f.len c) := (hP.cell 5).trans rfl
    have HBr := Lib.hid hB
    by_cases hlt : j < f.len
    · obtain ⟨a1, q, hg⟩ := Fr.get_some hlt
      obtain ⟨b, o, A', c', rfl, -, -, hbl, hrow, hcl⟩ := HK.out.at hg
      have hcell : ∀ i u, (ndC a1 (.slice A' q.len c'))[i]? = some u → wr.cell? ⟨b, o + j * 6 + i, none⟩ = some u := fun i u hu => (hB.cell (p := ⟨b, o + j * 6 + i, none⟩) hbl).trans (hcl i u hu)
      have q0 : wr.cell? ⟨b, o + j * 6, none⟩ = _ := hcell 0 _ rfl
      have q1 : wr.cell? ⟨b, o + j * 6 + 1, none⟩ = _ := hcell 1 _ rfl
      have q2 : wr.cell? ⟨b, o + j * 6 + 2, none⟩ = _ := hcell 2 _ rfl
      have q3 : wr.cell? ⟨b, o + j * 6 + 3, none⟩ = _ := hcell 3 _ rfl
      have q4 : wr.cell? ⟨b, o + j * 6 + 4, none⟩ = _ := hcell 4 _ rfl
      have q5 : wr.cell? ⟨b, o + j * 6 + 5, none⟩ = _ := hcell 5 _ rfl
      have i1 : (0 : Int) ≤ (j : Int) := by omega
      have i2 : (j : Int) < (f.len : Int) := by omega
      have i3 : (f.len : Int) ≤ 1000000 := by have := HZ.out; have := Fr.len_size f; omega
      have hts : (Fr.take (j + 1) f).size = (Fr.take j f).size + (q.size + 1) := by
        rw [(Fr.get_drop hg).2, Fr.size_app]; simp [Fr.size]
      have hle : (Fr.take (j + 1) f).size ≤ f.size := by
        have := congrArg Fr.size (Fr.take_app_drop (j + 1) f); rw [Fr.size_app] at this; omega
      obtain ⟨z, hz⟩ : ∃ z, z = q.size + 1 := ⟨_, rfl⟩
      have HI1 : Hid (Calls Tryz.prog 18 #[.agg #[.string (txt a1.name), .string (txt a1.key), .int .i64 a1.kind, .int .u64 (a1.num : Int), .string (txt a1.text), .slice A' q.len c']] wr (Ans9 (.int .i64 (z : Int)) wr)) := Lib.hid (by
        rw [hz]; exact HI.out j a1 q hg a1 A' c' wr (hrow.under hB (Nat.le_refl _) hB.size) (by have := HZ.out; omega))
      have i4 : (0 : Int) ≤ (s : Int) := by omega
      have i5 : (s : Int) ≤ 1000001 := by have := HS.out; have := HZ.out; omega
      have i6 : (0 : Int) ≤ (z : Int) := by omega
      have i7 : (z : Int) ≤ 1000001 := by have := HZ.out; omega
      have HS2 : Hid (s + z = (Fr.take (j + 1) f).size + 1) := Lib.hid (by have := HS.out; omega)
      have HP := Lib.hid hP
      clear hcl hg hrow hcell hts hle hz hP hB hbl
      go_wp2_with fail
      refine HI1.out.mono ?_
      rintro r w2 ⟨rfl, hb⟩
      have HP2 := Lib.hid (HP.out.below hb HP.out.lt)
      have HB2 := Lib.hid (HBr.out.trans (hb.mono HBr.out.size))
      clear hb
      go_wp2
      go_roundw
      case rel => exact ⟨j + 1, s + z, by omega, by go_num, by go_num, HS2, HP2.out, HB2.out⟩
      case measure => simp [intOf]; omega
    · have i2 : ¬ (j : Int) < (f.len : Int) := by omega
      have HF : Hid (s = f.size + 1) := Lib.hid (by have := HS.out; rw [show j = f.len by omega, Fr.take_all] at this; exact this)
      clear hP hB
      go_wp2
      go_ret
      exact ⟨by rw [HF.out]; rfl, HBr.out⟩
end Go.Proofs.YtljjaikejfoanaaGreat
namespace Go.Proofs.YtljjaikejfoanaaGreat
theorem held_more {P : Program} {md : Region.Mode} {ops : Array Oper} {Q : Exit → Act → World → Prop} {S S' : World → Prop} (h : ∀ w, S' w → S w) :
    ∀ (fuel : Nat) (listed : Array Bool) (a : Act) (w : World), wpAnyH P md ops Q S' fuel listed a w → wpAnyH P md ops Q S fuel listed a w
  | 0, _, _, _, hw => hw
  | fuel + 1, _, _, _, hw => ⟨hw.1, fun i hi => wpOp_mono (fun _ _ hq => ⟨h _ hq.1, held_more h fuel _ _ _ hq.2⟩) (hw.2 i hi)⟩
end Go.Proofs.YtljjaikejfoanaaGreat
