/- What ValidClasses stands on: VadOpen, TreRefA, TreRefB, Drawn, TreRefC, TreBox, TrvMem. -/
import Derived.Test.YtljjaikejfoanaaGreatXM0
import Derived.Test.YtljjaikejfoanaaGreatXM2
import Derived.Test.YtljjaikejfoanaaGreatXM1
import Derived.Test.YtljjaikejfoanaaGreatRows
import Derived.Deep.RegionHeld3
import Derived.Laws.ResultCell
import Derived.Deep.QuietTactic
import Derived.BigQuiet
import Derived.Sort.Grow
set_option linter.unusedSimpArgs false
set_option linter.unusedVariables false
namespace Go.Proofs.YtljjaikejfoanaaGreat
open Go.RowKit
open Go.ChangeShapes Go.WideShapes Go.Deep
set_option maxRecDepth 100000 in
theorem node_cells10 {H : Type} {enc : TypeId × Value → H} {W : World} {n : Nat} {cs : List Value} {x : DataW H × List MemPlace} (h : DataW.trod enc Tryz.prog W 0 (fun _ => true) true n 27 cs = some x) :
  ∃ (a : NdD) (c5 : Value) (n' : Nat) (y : DataW H × List MemPlace), n = n' + 1 ∧ cs = ndC a c5 ∧ DataW.trod enc Tryz.prog W 0 (fun _ => true) true n' 25 [c5] = some y ∧ Rows.uptoBulk y.1 + 4 ≤ Rows.uptoBulk x.1 ∧ (Rows.uptoBulk x.1 ≤ 1048576 → OkD a) := by
 obtain ⟨ys, k, hk, hy, hlen, hyl, hf⟩ := DataW.trod_struct Tryz.underlying27 h
 rw [cellsNode] at hlen
 have hyl' : ys.length = 4 := hyl
 match cs, hlen, ys, hyl', hy with
 | [v0, v1, v2, v3, v4, v5], _, [y0, y1, y2, y3], _, hy =>
  have f0 : DataW.trod enc Tryz.prog W 0 (fun _ => true) true k 9 (List.take (Tryz.prog.cellsOf 9) (List.drop 0 [v0, v1, v2, v3, v4, v5])) = some _ := (hf 0 _ rfl).trans rfl
  have f1 : DataW.trod enc Tryz.prog W 0 (fun _ => true) true k 9 (List.take (Tryz.prog.cellsOf 9) (List.drop 1 [v0, v1, v2, v3, v4, v5])) = some _ := (hf 1 _ rfl).trans rfl
  have f2 : DataW.trod enc Tryz.prog W 0 (fun _ => true) true k 24 (List.take (Tryz.prog.cellsOf 24) (List.drop 2 [v0, v1, v2, v3, v4, v5])) = some _ := (hf 2 _ rfl).trans rfl
  have f3 : DataW.trod enc Tryz.prog W 0 (fun _ => true) true k 25 (List.take (Tryz.prog.cellsOf 25) (List.drop 5 [v0, v1, v2, v3, v4, v5])) = some _ := (hf 3 _ rfl).trans rfl
  rw [cellsStr9] at f0 f1
  rw [cellsVal] at f2
  rw [cellsNds] at f3
  simp only [List.drop_zero, List.drop_succ_cons, List.take_succ_cons, List.take_zero] at f0 f1 f2 f3
  obtain ⟨s0, e0, b0, _⟩ := DataW.trod_string Tryz.underlying9 f0
  obtain ⟨s1, e1, b1, _⟩ := DataW.trod_string Tryz.underlying9 f1
  obtain ⟨zs, k', hk', hz, _, hzl, hg⟩ := DataW.trod_struct Tryz.underlying24 f2
  have hzl' : zs.length = 3 := hzl
  match zs, hzl', hz with
  | [z0, z1, z2], _, hz =>
   have g0 : DataW.trod enc Tryz.prog W 0 (fun _ => true) true k' 3 (List.take (Tryz.prog.cellsOf 3) (List.drop 0 [v2, v3, v4])) = some _ := (hg 0 _ rfl).trans rfl
   have g1 : DataW.trod enc Tryz.prog W 0 (fun _ => true) true k' 22 (List.take (Tryz.prog.cellsOf 22) (List.drop 1 [v2, v3, v4])) = some _ := (hg 1 _ rfl).trans rfl
   have g2 : DataW.trod enc Tryz.prog W 0 (fun _ => true) true k' 9 (List.take (Tryz.prog.cellsOf 9) (List.drop 2 [v2, v3, v4])) = some _ := (hg 2 _ rfl).trans rfl
   rw [cellsInt9] at g0
   rw [cellsU64] at g1
   rw [cellsStr9] at g2
   simp only [List.drop_zero, List.drop_succ_cons, List.take_succ_cons, List.take_zero] at g0 g1 g2
   obtain ⟨kd, e2, _, hwk⟩ := DataW.trod_int Tryz.underlying3 g0
   obtain ⟨nu, e3, _, hw⟩ := DataW.trod_int Tryz.underlying22 g1
   obtain ⟨s2, e4, b4, _⟩ := DataW.trod_string Tryz.underlying9 g2
   have hb := bounds_u64 hw
   have hbk := bounds_i64 hwk
   have hy2 := congrArg Prod.fst hz
   simp at e0 e1 e2 e3 e4
   subst e0 e1 e2 e3 e4
   refine ⟨⟨s0.data.toList, s1.data.toList, kd, nu.toNat, s2.data.toList⟩, v5, k, y3, hk, ?_, f3, ?_, fun hbl => ?_⟩
   ·show _ = [Value.string (txt s0.data.toList), Value.string (txt s1.data.toList), Value.int .i64 kd, Value.int .u64 (nu.toNat : Int), Value.string (txt s2.data.toList), v5]
    rw [show txt s0.data.toList = s0 from txt_ext (txt_data _), show txt s1.data.toList = s1 from txt_ext (txt_data _), show txt s2.data.toList = s2 from txt_ext (txt_data _), Int.toNat_of_nonneg (by omega)]
   ·have hx : x.1 = .agg [y0.1, y1.1, y2.1, y3.1] := congrArg Prod.fst hy
    rw [hx]
    have := bulk_one9 y0.1
    have := bulk_one9 y1.1
    have := bulk_one9 y2.1
    simp only [Rows.uptoBulk, Rows.uptoBulkAll]
    omega
   ·have hx : x.1 = .agg [y0.1, y1.1, y2.1, y3.1] := congrArg Prod.fst hy
    rw [hx] at hbl
    have hy2' : y2.1 = .agg [z0.1, z1.1, z2.1] := hy2
    have q0 : Rows.uptoBulk y0.1 = s0.data.toList.length + 1 := by rw [show y0.1 = .lit (.string s0.data.toList) from congrArg Prod.fst b0]; rfl
    have q1 : Rows.uptoBulk y1.1 = s1.data.toList.length + 1 := by rw [show y1.1 = .lit (.string s1.data.toList) from congrArg Prod.fst b1]; rfl
    have q4 : Rows.uptoBulk z2.1 = s2.data.toList.length + 1 := by rw [show z2.1 = .lit (.string s2.data.toList) from congrArg Prod.fst b4]; rfl
    have q2 : Rows.uptoBulk y2.1 ≥ Rows.uptoBulk z2.1 := by rw [hy2']; simp only [Rows.uptoBulk, Rows.uptoBulkAll]; omega
    simp only [Rows.uptoBulk, Rows.uptoBulkAll] at hbl
    exact ⟨by simp only; omega, by simp only; omega, hbk.1, hbk.2, by simp only; omega, by simp only; omega⟩
set_option maxRecDepth 100000 in
theorem open_nodes10 {H : Type} {enc : TypeId × Value → H} {W : World} (N : Nat) :
  ∀ {fuel : Nat} {v : Value} {x : DataW H × List MemPlace}, fuel ≤ N → DataW.trod enc Tryz.prog W 0 (fun _ => true) true fuel 25 [v] = some x → ∃ f, RowT W.heap.size W v f ∧ 2 * f.size ≤ Rows.uptoBulk x.1 ∧ (Rows.uptoBulk x.1 ≤ 1048576 → OkF f) := by
 induction N with
 | zero =>
  intro fuel v x hN h
  obtain rfl : fuel = 0 := by omega
  simp [DataW.trod] at h
 | succ N ih =>
  intro fuel v x hN h
  rcases DataW.trod_slice Tryz.underlying25 h with ⟨hcs, rfl⟩ | ⟨a, len, cap, elems, rest, n, rfl, hcs, rfl, hb, hl, hm, hlen, hel, -, -⟩
  ·simp at hcs
   subst hcs
   exact ⟨.nil, FrV.empty _ _ _, Nat.zero_le _, fun _ => trivial⟩
  ·simp at hcs
   subst hcs
   by_cases h0 : 0 < len
   ·have hcell0 : ∃ u, W.cell? a = some u := by
     have h1 := hel 0 h0
     rw [List.getElem?_eq_getElem (by omega)] at h1
     obtain ⟨cs', h2, _⟩ := Option.bind_eq_some_iff.1 h1
     rw [cellsNode] at h2
     obtain ⟨_, h3, h4⟩ := World.cells?_some h2
     have h5 := h4 0 (by omega)
     rw [List.getElem?_eq_getElem (by omega)] at h5
     exact ⟨_, by simpa [Addr.add] using h5⟩
    obtain ⟨u0, hu0⟩ := hcell0
    have hsp0 : a.spot = none := World.cell?_spot hu0
    have hlt : a.block < W.heap.size := World.block_lt_of_cell? W _ hu0
    obtain ⟨b, off, sp⟩ := a
    have hsp : sp = none := hsp0
    subst hsp
    have rows : ∀ m, m ≤ len → ∃ f : NdF, f.len = m ∧ FrAt NdT 6 5 W (fun g => g < W.heap.size) noB f b (off + (len - m) * 6) ∧ 2 * f.size ≤ Rows.uptoBulkAll ((elems.drop (len - m)).map (·.1)) ∧ (Rows.uptoBulkAll ((elems.drop (len - m)).map (·.1)) ≤ 1048576 → OkF f) := by
     intro m
     induction m with
     | zero => intro _; exact ⟨.nil, rfl, trivial, Nat.zero_le _, fun _ => trivial⟩
     | succ m ihm =>
      intro hm'
      obtain ⟨r, hr1, hr2, hr3, hr4⟩ := ihm (by omega)
      obtain ⟨i, hi⟩ : ∃ i, i = len - (m + 1) := ⟨_, rfl⟩
      have hi1 : len - m = i + 1 := by omega
      have hil : i < len := by omega
      rw [hi1] at hr2 hr3 hr4
      rw [← hi]
      have h1 := hel i hil
      have hie : i < elems.length := by omega
      rw [List.getElem?_eq_getElem hie] at h1
      obtain ⟨cs', h2, h3⟩ := Option.bind_eq_some_iff.1 h1
      rw [cellsNode] at h2
      obtain ⟨_, hcl, hat⟩ := World.cells?_some h2
      have hcc : ∀ j, j < 6 → W.cell? ⟨b, off + i * 6 + j, none⟩ = cs'[j]? := fun j hj => by
       have h5 := hat j hj
       rw [add_bare9, add_bare9] at h5
       exact h5
      obtain ⟨nd, c5, n', y, hn', rfl, hy, hyb, hyo⟩ := node_cells10 h3
      obtain ⟨k, hk1, hk2, hk3⟩ := ih (by omega) hy
      have hdrop : (elems.drop i).map (·.1) = (elems[i]).1 :: (elems.drop (i + 1)).map (·.1) := by rw [List.drop_eq_getElem_cons hie]; rfl
      obtain ⟨A, c, rfl⟩ := FrV.shape hk1
      obtain ⟨A', c', e, hkc, hkr⟩ := hk1
      injection e with e1 e2 e3
      subst e1 e3
      refine ⟨.cons nd k r, by simp only [Fr.len, hr1], ⟨⟨ndC nd (.slice A k.len c), rfl, fun j u hu => ?_, ⟨_, rfl, rfl⟩, A, c, rfl, hkc, hkr⟩, ?_⟩, ?_, fun hbl => ?_⟩
      ·have hj : j < 6 := (List.getElem?_eq_some_iff.1 hu).1
       rw [hcc j hj, hu]
      ·have h9 : off + i * 6 + 6 = off + (i + 1) * 6 := by omega
       rw [h9]; exact hr2
      ·rw [hdrop]
       simp only [Fr.size, Rows.uptoBulkAll]
       omega
      ·rw [hdrop] at hbl
       simp only [Rows.uptoBulkAll] at hbl
       exact ⟨hyo (by omega), hk3 (by omega), hr4 (by omega)⟩
    obtain ⟨f, hf1, hf2, hf3, hf4⟩ := rows len (Nat.le_refl _)
    rw [Nat.sub_self, Nat.zero_mul, Nat.add_zero] at hf2
    rw [Nat.sub_self, List.drop_zero] at hf3 hf4
    refine ⟨f, ⟨_, cap, by rw [hf1], by omega, fun _ => ⟨b, off, rfl, hlt, hf2⟩⟩, ?_, fun hbl => hf4 ?_⟩
    ·simp only [Rows.uptoBulk]
     omega
    ·simp only [Rows.uptoBulk] at hbl
     omega
   ·obtain rfl : len = 0 := by omega
    exact ⟨.nil, FrV.none_ _ _, Nat.zero_le _, fun _ => trivial⟩
set_option maxRecDepth 100000 in
theorem open_node10 {H : Type} {enc : TypeId × Value → H} {W : World} {v : Value} {d : DataW H} {p : List MemPlace} (h : DataW.Trod enc Tryz.prog W 0 (fun _ => true) true 27 v d p) (hv : ∃ cs : Array Value, v = .agg cs) :
  ∃ (a : NdD) (f : NdF) (A : Option Addr) (c : Nat), v = .agg (ndC a (.slice A f.len c)).toArray ∧ LieN W (ndC a (.slice A f.len c)) (a, f) ∧ 2 * f.size ≤ Rows.uptoBulk d ∧ (Rows.uptoBulk d ≤ 1048576 → OkD a ∧ OkF f) := by
 obtain ⟨fuel, hf⟩ := h
 obtain ⟨cs, rfl⟩ := hv
 have hf' : DataW.trod enc Tryz.prog W 0 (fun _ => true) true fuel 27 cs.toList = some (d, p) := hf
 obtain ⟨a, c5, n', y, _, he, hy, hb, ho⟩ := node_cells10 hf'
 obtain ⟨f, h1, h2, h3⟩ := open_nodes10 n' (Nat.le_refl _) hy
 obtain ⟨A, c, rfl⟩ := FrV.shape h1
 refine ⟨a, f, A, c, ?_, LieB.make h1, by simp only at hb; omega, fun hbl => ⟨ho hbl, h3 (by simp only at hb; omega)⟩⟩
 rw [← he]
end Go.Proofs.YtljjaikejfoanaaGreat
namespace Go.Proofs.YtljjaikejfoanaaGreat
open Go.RowKit
theorem Ans9.bool {b c : Bool} {w : World} {r : Ending} {w' : World} (h : Ans9 (.bool b) w r w') (e : b = c) : Ans9 (.bool c) w r w' := by subst e; exact h
set_option maxRecDepth 100000 in
set_option maxHeartbeats 1000000 in
theorem rfindn_any (s : Stp) (x : Nd) (cs : List Value) (w : World) (hx : LieN w cs x) (hl : x.2.len ≤ 1000000) :
  Calls Tryz.prog 29 #[.agg cs.toArray, .agg #[.string (txt s.1), .string (txt s.2)]] w (Ans9 (.int .i64 (findIx s x.2)) w) := by
 obtain ⟨A, c, rfl, hk⟩ := hx.shape
 obtain ⟨a, f⟩ := x
 have hB : Below w.heap.size w ((w.alloc (.cells #[.string (txt a.name), .string (txt a.key), .int .i64 a.kind, .int .u64 (a.num : Int), .string (txt a.text), .slice A f.len c] 27)).alloc (.cells #[.string (txt s.1), .string (txt s.2)] 45)) := ((Below.refl _ _).alloc (Nat.le_refl _) _).alloc (by simp) _
 have HB := Lib.hid hB
 have tn : (txt s.1).toList = s.1 := txt_toList _
 have tk : (txt s.2).toList = s.2 := txt_toList _
 have HK : Hid (RowT w.heap.size w (.slice A f.len c) f) := Lib.hid hk
 have HLL : Hid (f.len ≤ 1000000) := Lib.hid hl
 clear hk hx hB hl
 go_enter Tryz.func29, Tryz.ntmps29
 go_wp2
 go_loopw [5] (fun i wr => ∃ k : Nat, k ≤ f.len ∧ i = .int .i64 (k : Int) ∧ Hid (∀ j, j < k → ∀ y, f.get? j = some y → stp y.1 ≠ s) ∧ Blk wr w.heap.size 27 #[.string (txt a.name), .string (txt a.key), .int .i64 a.kind, .int .u64 (a.num : Int), .string (txt a.text), .slice A f.len c] ∧ Blk wr (w.heap.size + 1) 45 #[.string (txt s.1), .string (txt s.2)] ∧ Below w.heap.size w wr) (fun i _ => f.len - (intOf i).toNat)
 case atStart =>
  have hb2 : Blk ((w.alloc (.cells #[.string (txt a.name), .string (txt a.key), .int .i64 a.kind, .int .u64 (a.num : Int), .string (txt a.text), .slice A f.len c] 27)).alloc (.cells #[.string (txt s.1), .string (txt s.2)] 45)) (w.heap.size + 1) 45 #[.string (txt s.1), .string (txt s.2)] := by
   have h := Blk.new (w.alloc (.cells #[.string (txt a.name), .string (txt a.key), .int .i64 a.kind, .int .u64 (a.num : Int), .string (txt a.text), .slice A f.len c] 27)) 45 #[.string (txt s.1), .string (txt s.2)]
   rw [show (w.alloc (.cells #[.string (txt a.name), .string (txt a.key), .int .i64 a.kind, .int .u64 (a.num : Int), .string (txt a.text), .slice A f.len c] 27)).heap.size = w.heap.size + 1 by simp] at h
   exact h
  exact ⟨0, Nat.zero_le _, rfl, Lib.hid (fun j h => by omega), (Blk.new w _ _).alloc _, hb2, HB.out⟩
 case round =>
  obtain ⟨k, hk, rfl, HL, hP, hQ, hB⟩ := hrel
  have p5 : wr.cell? ⟨w.heap.size, 5, none⟩ = some (.slice A f.len c) := (hP.cell 5).trans rfl
  have HBr := Lib.hid hB
  have HP := Lib.hid hP
  have HQ := Lib.hid hQ
  by_cases hlt : k < f.len
  ·obtain ⟨a1, q, hg⟩ := Fr.get_some hlt
   obtain ⟨b, o, A', c', rfl, -, -, hbl, -, hcl⟩ := HK.out.at hg
   have i1 : (0 : Int) ≤ (k : Int) := by omega
   have i2 : (k : Int) < (f.len : Int) := by omega
   have i3 : (f.len : Int) ≤ 1000000 := by have := HLL.out; omega
   have q0 : wr.cell? ⟨b, o + k * 6, none⟩ = some (.string (txt a1.name)) := (hB.cell (p := ⟨b, o + k * 6, none⟩) hbl).trans (hcl 0 _ rfl)
   have q1 : wr.cell? ⟨b, o + k * 6 + 1, none⟩ = some (.string (txt a1.key)) := (hB.cell (p := ⟨b, o + k * 6 + 1, none⟩) hbl).trans (hcl 1 _ rfl)
   have r0 : wr.cell? ⟨w.heap.size + 1, 0, none⟩ = some (.string (txt s.1)) := (hQ.cell 0).trans rfl
   have r1 : wr.cell? ⟨w.heap.size + 1, 1, none⟩ = some (.string (txt s.2)) := (hQ.cell 1).trans rfl
   have ta : (txt a1.name).toList = a1.name := txt_toList _
   have tb : (txt a1.key).toList = a1.key := txt_toList _
   have HG := Lib.hid hg
   clear hcl hg hP hQ hB hbl
   by_cases hn : a1.name = s.1
   ·have h1 : (a1.name == s.1) = true := beq_iff_eq.2 hn
    by_cases hk2 : a1.key = s.2
    ·have h2 : (a1.key == s.2) = true := beq_iff_eq.2 hk2
     have HF : Hid (findIx s f = (k : Int)) := Lib.hid (by unfold findIx; rw [find_lt HL.out ⟨_, HG.out, Prod.ext hn hk2⟩])
     clear hn hk2
     go_wp2_with fail
     go_region
     all_goals go_wp2
     all_goals go_ret
     all_goals exact ⟨by rw [HF.out]; rfl, HBr.out.drew⟩
    ·have h2 : (a1.key == s.2) = false := beq_eq_false_iff_ne.2 hk2
     have HL2 : Hid (∀ j, j < k + 1 → ∀ y, f.get? j = some y → stp y.1 ≠ s) := Lib.hid (fun j hj y hy => by
      by_cases e : j = k
      ·subst e; rw [HG.out] at hy; injection hy with hy; subst hy; exact fun e => hk2 (congrArg Prod.snd e)
      ·exact HL.out j (by omega) y hy)
     clear hn hk2
     go_wp2_with fail
     go_region
     all_goals go_wp2
     all_goals go_roundw
     all_goals first | exact ⟨k + 1, by omega, by go_num, HL2, HP.out.below (Below.refl _ _).drew HP.out.lt, HQ.out.below (Below.refl _ _).drew HQ.out.lt, HBr.out.drew⟩ | (simp [intOf]; omega)
   ·have h1 : (a1.name == s.1) = false := beq_eq_false_iff_ne.2 hn
    have HL2 : Hid (∀ j, j < k + 1 → ∀ y, f.get? j = some y → stp y.1 ≠ s) := Lib.hid (fun j hj y hy => by
     by_cases e : j = k
     ·subst e; rw [HG.out] at hy; injection hy with hy; subst hy; exact fun e => hn (congrArg Prod.fst e)
     ·exact HL.out j (by omega) y hy)
    clear hn
    go_wp2_with fail
    go_region
    all_goals go_wp2
    all_goals go_roundw
    all_goals first | exact ⟨k + 1, by omega, by go_num, HL2, HP.out.below (Below.refl _ _).drew HP.out.lt, HQ.out.below (Below.refl _ _).drew HQ.out.lt, HBr.out.drew⟩ | (simp [intOf]; omega)
  ·have HF : Hid (findIx s f = -1) := Lib.hid (by unfold findIx; rw [find_out (fun j hj y hy => HL.out j (by omega) y hy)])
   have i2 : ¬ (k : Int) < (f.len : Int) := by omega
   clear hP hQ hB
   go_wp2
   go_ret
   exact ⟨by rw [HF.out]; rfl, HBr.out⟩
end Go.Proofs.YtljjaikejfoanaaGreat
namespace Go.Proofs.YtljjaikejfoanaaGreat
open Go.RowKit
set_option maxRecDepth 100000 in
set_option maxHeartbeats 2000000 in
theorem rsizef_any (f : NdF) : ∀ (a : NdD) (A : Option Addr) (c : Nat) (w : World), RowT w.heap.size w (.slice A f.len c) f → f.size ≤ 1000000 →
  Calls Tryz.prog 18 #[.agg #[.string (txt a.name), .string (txt a.key), .int .i64 a.kind, .int .u64 (a.num : Int), .string (txt a.text), .slice A f.len c]] w (Ans9 (.int .i64 ((f.size + 1 : Nat) : Int)) w) := by
 refine Fr.byKids (P := fun f => ∀ (a : NdD) (A : Option Addr) (c : Nat) (w : World), RowT w.heap.size w (.slice A f.len c) f → f.size ≤ 1000000 →
  Calls Tryz.prog 18 #[.agg #[.string (txt a.name), .string (txt a.key), .int .i64 a.kind, .int .u64 (a.num : Int), .string (txt a.text), .slice A f.len c]] w (Ans9 (.int .i64 ((f.size + 1 : Nat) : Int)) w)) ?_ f
 clear f
 intro f hkids a A c w hk hsz
 have hB : Below w.heap.size w (w.alloc (.cells #[.string (txt a.name), .string (txt a.key), .int .i64 a.kind, .int .u64 (a.num : Int), .string (txt a.text), .slice A f.len c] 27)) := (Below.refl _ _).alloc (Nat.le_refl _) _
 have HB0 := Lib.hid hB
 have HI := Lib.hid hkids
 have HK : Hid (RowT w.heap.size w (.slice A f.len c) f) := Lib.hid hk
 have HZ : Hid (f.size ≤ 1000000) := Lib.hid hsz
 clear hkids hk hsz hB
 go_enter Tryz.func18, Tryz.ntmps18
 go_wp2
 go_loopw [3, 4] (fun m i wr => ∃ (j s : Nat), j ≤ f.len ∧ i = .int .i64 (j : Int) ∧ m = .int .i64 (s : Int) ∧ Hid (s = (Fr.take j f).size + 1) ∧ Blk wr w.heap.size 27 #[.string (txt a.name), .string (txt a.key), .int .i64 a.kind, .int .u64 (a.num : Int), .string (txt a.text), .slice A f.len c] ∧ Below w.heap.size w wr) (fun _ i _ => f.len - (intOf i).toNat)
 case atStart => exact ⟨0, 1, Nat.zero_le _, rfl, rfl, Lib.hid (by simp [Fr.take, Fr.size]), Blk.new _ _ _, HB0.out⟩
 case round =>
  obtain ⟨j, s, hj, rfl, rfl, HS, hP, hB⟩ := hrel
  have p5 : wr.cell? ⟨w.heap.size, 5, none⟩ = some (.slice A f.len c) := (hP.cell 5).trans rfl
  have HBr := Lib.hid hB
  by_cases hlt : j < f.len
  ·obtain ⟨a1, q, hg⟩ := Fr.get_some hlt
   obtain ⟨b, o, A', c', rfl, -, -, hbl, hrow, hcl⟩ := HK.out.at hg
   have hcell : ∀ i u, (ndC a1 (.slice A' q.len c'))[i]? = some u → wr.cell? ⟨b, o + j * 6 + i, none⟩ = some u := fun i u hu => (hB.cell (p := ⟨b, o + j * 6 + i, none⟩) hbl).trans (hcl i u hu)
   have q0 : wr.cell? ⟨b, o + j * 6, none⟩ = _ := hcell 0 _ rfl
   have q1 : wr.cell? ⟨b, o + j * 6 + 1, none⟩ = _ := hcell 1 _ rfl
   have q2 : wr.cell? ⟨b, o + j * 6 + 2, none⟩ = _ := hcell 2 _ rfl
   have q3 : wr.cell? ⟨b, o + j * 6 + 3, none⟩ = _ := hcell 3 _ rfl
   have q4 : wr.cell? ⟨b, o + j * 6 + 4, none⟩ = _ := hcell 4 _ rfl
   have q5 : wr.cell? ⟨b, o + j * 6 + 5, none⟩ = _ := hcell 5 _ rfl
   have i1 : (0 : Int) ≤ (j : Int) := by omega
   have i2 : (j : Int) < (f.len : Int) := by omega
   have i3 : (f.len : Int) ≤ 1000000 := by have := HZ.out; have := Fr.len_size f; omega
   have hts : (Fr.take (j + 1) f).size = (Fr.take j f).size + (q.size + 1) := by
    rw [(Fr.get_drop hg).2, Fr.size_app]; simp [Fr.size]
   have hle : (Fr.take (j + 1) f).size ≤ f.size := by
    have := congrArg Fr.size (Fr.take_app_drop (j + 1) f); rw [Fr.size_app] at this; omega
   obtain ⟨z, hz⟩ : ∃ z, z = q.size + 1 := ⟨_, rfl⟩
   have HI1 : Hid (Calls Tryz.prog 18 #[.agg #[.string (txt a1.name), .string (txt a1.key), .int .i64 a1.kind, .int .u64 (a1.num : Int), .string (txt a1.text), .slice A' q.len c']] wr (Ans9 (.int .i64 (z : Int)) wr)) := Lib.hid (by
    rw [hz]; exact HI.out j a1 q hg a1 A' c' wr (hrow.under hB (Nat.le_refl _) hB.size) (by have := HZ.out; omega))
   have i4 : (0 : Int) ≤ (s : Int) := by omega
   have i5 : (s : Int) ≤ 1000001 := by have := HS.out; have := HZ.out; omega
   have i6 : (0 : Int) ≤ (z : Int) := by omega
   have i7 : (z : Int) ≤ 1000001 := by have := HZ.out; omega
   have HS2 : Hid (s + z = (Fr.take (j + 1) f).size + 1) := Lib.hid (by have := HS.out; omega)
   have HP := Lib.hid hP
   clear hcl hg hrow hcell hts hle hz hP hB hbl
   go_wp2_with fail
   refine HI1.out.mono ?_
   rintro r w2 ⟨rfl, hb⟩
   have HP2 := Lib.hid (HP.out.below hb HP.out.lt)
   have HB2 := Lib.hid (HBr.out.trans (hb.mono HBr.out.size))
   clear hb
   go_wp2
   go_roundw
   case rel => exact ⟨j + 1, s + z, by omega, by go_num, by go_num, HS2, HP2.out, HB2.out⟩
   case measure => simp [intOf]; omega
  ·have i2 : ¬ (j : Int) < (f.len : Int) := by omega
   have HF : Hid (s = f.size + 1) := Lib.hid (by have := HS.out; rw [show j = f.len by omega, Fr.take_all] at this; exact this)
   clear hP hB
   go_wp2
   go_ret
   exact ⟨by rw [HF.out]; rfl, HBr.out⟩
end Go.Proofs.YtljjaikejfoanaaGreat
namespace Go.Proofs.YtljjaikejfoanaaGreat
theorem held_more {P : Program} {md : Region.Mode} {ops : Array Oper} {Q : Exit → Act → World → Prop} {S S' : World → Prop} (h : ∀ w, S' w → S w) :
  ∀ (fuel : Nat) (listed : Array Bool) (a : Act) (w : World), wpAnyH P md ops Q S' fuel listed a w → wpAnyH P md ops Q S fuel listed a w
 | 0, _, _, _, hw => hw
 | fuel + 1, _, _, _, hw => ⟨hw.1, fun i hi => wpOp_mono (fun _ _ hq => ⟨h _ hq.1, held_more h fuel _ _ _ hq.2⟩) (hw.2 i hi)⟩
end Go.Proofs.YtljjaikejfoanaaGreat
namespace Go.Proofs.YtljjaikejfoanaaGreat
open Go.RowKit
theorem okAt_at {f : NdF} {j : Nat} {a1 : NdD} {q : NdF} (hg : f.get? j = some (a1, q)) : okAt f j = (rgtX (a1, q) && (decide (j = 0) || (match f.get? (j - 1) with | none => true | some z => lessX z.1 a1))) := by
 unfold okAt
 rw [hg]
 cases j with
 | zero => simp
 | succ j =>
  simp only [Nat.add_sub_cancel]
  rw [show decide (j + 1 = 0) = false by simp, Bool.false_or]
  cases f.get? j <;> rfl
end Go.Proofs.YtljjaikejfoanaaGreat
namespace Go.Proofs.YtljjaikejfoanaaGreat
open Go.RowKit
theorem res_ct9 {P : Program} {fn : Func} {p u : Tmp} {ty : TypeId} (h : fn.results = #[.cell p ty, .tmp u]) (tmps : Array Value) (w : World) (g : Nat) (t : TypeId) (cs : Array Value) (fr : Nat × Nat) (d : TypeDesc)
  (hp : tmps.getD p undef = .pointer (some ⟨g, 0, none⟩)) (hg : w.heap[g]? = some (.cells cs t fr))
  (hu : P.underlying ty = some d) (hd : (match d with | .struct _ | .array _ _ => true | _ => false) = true) (hi : (P.info? ty).map (·.size) = some cs.size) :
  (results fn tmps).run P w = .ok (.tuple #[.agg cs, tmps.getD u undef]) w := by
 rw [results_cell_tmp h, hp]
 simp [asAddr, run_loadVar_row w g t ty cs fr d hg hu hd hi, Result.andThen]
def set6 (w : World) (b : Nat) (x0 x1 x2 x3 x4 x5 : Value) : World := (((((w.setCell ⟨b, 0, none⟩ x0).setCell ⟨b, 1, none⟩ x1).setCell ⟨b, 2, none⟩ x2).setCell ⟨b, 3, none⟩ x3).setCell ⟨b, 4, none⟩ x4).setCell ⟨b, 5, none⟩ x5
set_option maxHeartbeats 1000000 in
theorem Blk.set6 {w : World} {b : Nat} {t : TypeId} {y0 y1 y2 y3 y4 y5 : Value} (h : Blk w b t #[y0, y1, y2, y3, y4, y5]) (x0 x1 x2 x3 x4 x5 : Value) : Blk (set6 w b x0 x1 x2 x3 x4 x5) b t #[x0, x1, x2, x3, x4, x5] := by
 have h2 := ((((((h).set_ 0 x0).set_ 1 x1).set_ 2 x2).set_ 3 x3).set_ 4 x4).set_ 5 x5
 simp only [layS] at h2
 exact h2
theorem set6_below {B : Nat} {w : World} {b : Nat} {x0 x1 x2 x3 x4 x5 : Value} (h : B ≤ b) : Below B w (set6 w b x0 x1 x2 x3 x4 x5) :=
 ((((((Below.refl B w).setCell (p := ⟨b, 0, none⟩) h x0).setCell (p := ⟨b, 1, none⟩) h x1).setCell (p := ⟨b, 2, none⟩) h x2).setCell (p := ⟨b, 3, none⟩) h x3).setCell (p := ⟨b, 4, none⟩) h x4).setCell (p := ⟨b, 5, none⟩) h x5
theorem set6_other {w : World} {b g : Nat} {x0 x1 x2 x3 x4 x5 : Value} (h : g ≠ b) : (set6 w b x0 x1 x2 x3 x4 x5).heap[g]? = w.heap[g]? := by
 unfold set6
 rw [Below.heap_setCell _ _ _ _ h, Below.heap_setCell _ _ _ _ h, Below.heap_setCell _ _ _ _ h, Below.heap_setCell _ _ _ _ h, Below.heap_setCell _ _ _ _ h, Below.heap_setCell _ _ _ _ h]
theorem set6_size {w : World} {b : Nat} {x0 x1 x2 x3 x4 x5 : Value} : (set6 w b x0 x1 x2 x3 x4 x5).heap.size = w.heap.size := by simp [set6, World.setCell]
theorem LieB.row {b : Nat} {w : World} {a : NdD} {f : NdF} {v : Value} (h : LieB b w (ndC a v) (a, f)) : RowT b w v f := by
 obtain ⟨A, c, e, h2⟩ := h.shape
 have e2 : v = .slice A f.len c := by
  have := congrArg (fun l => l[5]?) e
  simpa using this
 rw [e2]
 exact h2
theorem LieP.set6 {b B g : Nat} {w : World} {cs : List Value} {x : Nd} (h : LieP b B w cs x) (hg : b ≤ g) (hB : g < B) (x0 x1 x2 x3 x4 x5 : Value) : LieP b B (set6 w g x0 x1 x2 x3 x4 x5) cs x :=
 h.keep (fun k hk => set6_other (by omega)) (fun k hk => by rw [set6_size]; exact hk)
theorem LieP.after {b B B' : Nat} {w : World} {cs : List Value} {x : Nd} (h : LieP b B w cs x) (hB : B' ≤ B) : LieP b B' w cs x :=
 h.keep (fun _ _ => rfl) (fun k hk => by rcases hk with h | h; exact .inl h; exact .inr ⟨by omega, h.2⟩)
theorem LieP.below {b B : Nat} {w w' : World} {cs : List Value} {x : Nd} (h : LieP b B w cs x) (hb : Below w.heap.size w w') (hbw : b ≤ w.heap.size) : LieP b B w' cs x :=
 h.keep (fun k hk => hb.block k (by rcases hk with h | h <;> omega)) (fun k hk => by have := hb.size; rcases hk with h | h; exact .inl h; exact .inr ⟨h.1, by omega⟩)
theorem GetX_none {x : Nd} {s : Stp} {l : List Stp} (h : findN s x.2 = none) : GetX x (s :: l) = (noN, false) := by
 unfold GetX; simp only [getX]; rw [findN_none h]
theorem GetX_some {x y : Nd} {s : Stp} {l : List Stp} {i : Nat} (h : findN s x.2 = some i) (hy : x.2.get? i = some y) : GetX x (s :: l) = GetX y l := by
 unfold GetX; simp only [getX]
 obtain ⟨z, h1, h2, h3⟩ := find_stp h
 rw [hy] at h1
 injection h1 with h1
 rw [h3, ← h1]
end Go.Proofs.YtljjaikejfoanaaGreat
namespace Go.Proofs.YtljjaikejfoanaaGreat
open Go.RowKit
structure After (w : World) where
 w' : World
 h : Below w.heap.size w w'
instance (w : World) : Inhabited (After w) := ⟨⟨w, Below.refl _ _⟩⟩
theorem After.cell {w : World} (p : After w) {b o : Nat} {v : Value} (hb : b < w.heap.size) (h : w.cell? ⟨b, o, none⟩ = some v) : p.w'.cell? ⟨b, o, none⟩ = some v := (p.h.cell (p := ⟨b, o, none⟩) hb).trans h
theorem After.blk {w : World} (p : After w) {g o : Nat} {t : TypeId} {cs : Array Value} {v : Value} (h : Blk w g t cs) (hv : cs[o]? = some v) : p.w'.cell? ⟨g, o, none⟩ = some v := p.cell h.lt ((h.cell o).trans hv)
def Grw (v : Value) (w : World) (r : Ending) (w' : World) : Prop := r = .returned v ∧ ∃ q os, w' = Go.Sort.grow (w.drewN q) os
theorem below_grow {w : World} (q : Nat) (os : Array Obj) : Below w.heap.size w (Go.Sort.grow (w.drewN q) os) :=
 ⟨rfl, rfl, rfl, by rw [Go.Sort.size_grow]; exact Nat.le_add_right _ _, fun k hk => Go.Sort.heap_grow_old (w.drewN q) os hk⟩
theorem Grw.ans {v : Value} {w : World} {r : Ending} {w' : World} (h : Grw v w r w') : Ans9 v w r w' := by
 obtain ⟨h1, q, os, rfl⟩ := h
 exact ⟨h1, below_grow q os⟩
theorem Grw.alloc {w : World} (o : Obj) : w.alloc o = Go.Sort.grow (w.drewN 0) #[o] := Go.Sort.alloc_eq_grow w o
def set6o (w : World) (b o : Nat) (x0 x1 x2 x3 x4 x5 : Value) : World := (((((w.setCell ⟨b, o, none⟩ x0).setCell ⟨b, o + 1, none⟩ x1).setCell ⟨b, o + 2, none⟩ x2).setCell ⟨b, o + 3, none⟩ x3).setCell ⟨b, o + 4, none⟩ x4).setCell ⟨b, o + 5, none⟩ x5
theorem set6o_below {B : Nat} {w : World} {b o : Nat} {x0 x1 x2 x3 x4 x5 : Value} (h : B ≤ b) : Below B w (set6o w b o x0 x1 x2 x3 x4 x5) :=
 ((((((Below.refl B w).setCell (p := ⟨b, o, none⟩) h x0).setCell (p := ⟨b, o + 1, none⟩) h x1).setCell (p := ⟨b, o + 2, none⟩) h x2).setCell (p := ⟨b, o + 3, none⟩) h x3).setCell (p := ⟨b, o + 4, none⟩) h x4).setCell (p := ⟨b, o + 5, none⟩) h x5
theorem set6o_other {w : World} {b o g : Nat} {x0 x1 x2 x3 x4 x5 : Value} (h : g ≠ b) : (set6o w b o x0 x1 x2 x3 x4 x5).heap[g]? = w.heap[g]? := by
 unfold set6o
 rw [Below.heap_setCell _ _ _ _ h, Below.heap_setCell _ _ _ _ h, Below.heap_setCell _ _ _ _ h, Below.heap_setCell _ _ _ _ h, Below.heap_setCell _ _ _ _ h, Below.heap_setCell _ _ _ _ h]
theorem set6o_size {w : World} {b o : Nat} {x0 x1 x2 x3 x4 x5 : Value} : (set6o w b o x0 x1 x2 x3 x4 x5).heap.size = w.heap.size := by simp [set6o, World.setCell]
theorem set_mid6 (l k r : List Value) (j : Nat) (u : Value) (h : j < k.length) : (l ++ (k ++ r)).set (l.length + j) u = l ++ (k.set j u ++ r) := by
 rw [List.set_append_right _ _ (by omega), Nat.add_sub_cancel_left, List.set_append_left _ _ h]
theorem OwnK.set6o {w : World} {base b n c o : Nat} {xs1 xs2 : List Value} {y0 y1 y2 y3 y4 y5 : Value} (h : OwnK 27 6 w base (.slice (some ⟨b, 0, none⟩) n c) n (xs1 ++ ([y0, y1, y2, y3, y4, y5] ++ xs2))) (ho : xs1.length = o) (x0 x1 x2 x3 x4 x5 : Value) :
  OwnK 27 6 (set6o w b o x0 x1 x2 x3 x4 x5) base (.slice (some ⟨b, 0, none⟩) n c) n (xs1 ++ ([x0, x1, x2, x3, x4, x5] ++ xs2)) := by
 subst ho
 have a0 := (World.ownsRow.stored h (xs1.length + 0) x0).1
 rw [set_mid6 _ _ _ _ _ (by simp)] at a0
 have a1 := (World.ownsRow.stored a0 (xs1.length + 1) x1).1
 rw [set_mid6 _ _ _ _ _ (by simp)] at a1
 have a2 := (World.ownsRow.stored a1 (xs1.length + 2) x2).1
 rw [set_mid6 _ _ _ _ _ (by simp)] at a2
 have a3 := (World.ownsRow.stored a2 (xs1.length + 3) x3).1
 rw [set_mid6 _ _ _ _ _ (by simp)] at a3
 have a4 := (World.ownsRow.stored a3 (xs1.length + 4) x4).1
 rw [set_mid6 _ _ _ _ _ (by simp)] at a4
 have a5 := (World.ownsRow.stored a4 (xs1.length + 5) x5).1
 rw [set_mid6 _ _ _ _ _ (by simp)] at a5
 exact a5
def OwnT (w : World) (base : Nat) : NdF → List Value → List Nat → Prop
 | .nil, xs, F => xs = [] ∧ F = []
 | .cons a k r, xs, F => ∃ (ys zs : List Value) (F0 F2 : List Nat) (v : Value), xs = ndC a v ++ ys ∧ F = (v.ownBlock.toList ++ F0) ++ F2 ∧
   OwnK 27 6 w base v k.len zs ∧ OwnT w base k zs F0 ∧ OwnT w base r ys F2
def OwnU (w : World) (base : Nat) (v : Value) (k : NdF) (F : List Nat) : Prop := ∃ zs F0, F = v.ownBlock.toList ++ F0 ∧ OwnK 27 6 w base v k.len zs ∧ OwnT w base k zs F0
section
variable {w w' : World} {base base' : Nat} {f g : NdF} {xs ys : List Value} {F G : List Nat}
theorem OwnT.cons_iff {a : NdD} {k r : NdF} : OwnT w base (.cons a k r) xs F ↔ ∃ v ys F1 F2, xs = ndC a v ++ ys ∧ F = F1 ++ F2 ∧ OwnU w base v k F1 ∧ OwnT w base r ys F2 := by
 constructor
 ·intro ⟨ys, zs, F0, F2, v, h1, h2, h6, h7, h8⟩
  exact ⟨v, ys, _, F2, h1, h2, ⟨zs, F0, rfl, h6, h7⟩, h8⟩
 ·intro ⟨v, ys, F1, F2, h1, h2, ⟨zs, F0, h9, h6, h7⟩, h8⟩
  exact ⟨ys, zs, F0, F2, v, h1, by rw [h2, h9], h6, h7, h8⟩
theorem OwnK.keep {e : TypeId} {k n : Nat} {v : Value} (h : OwnK e k w base v n xs) (hk : ∀ g, v.ownBlock = some g → w'.heap[g]? = w.heap[g]?) : OwnK e k w' base v n xs := by
 refine ⟨h.1, ?_⟩
 rcases h.2 with ⟨rfl, h0⟩ | ⟨g, cap, cur, rfl, hb, hg, hrest⟩
 ·exact .inl ⟨rfl, h0⟩
 ·exact .inr ⟨g, cap, cur, rfl, hb, (hk g rfl).trans hg, hrest⟩
theorem OwnT.keep (hb : base' ≤ base) : ∀ {f : NdF} {xs : List Value} {F : List Nat}, (∀ g, g ∈ F → w'.heap[g]? = w.heap[g]?) → OwnT w base f xs F → OwnT w' base' f xs F := by
 intro f
 induction f with
 | nil => intro xs F _ h; exact h
 | cons a k r ihk ihr =>
  intro xs F hF ⟨ys, zs, F0, F2, v, h1, h2, h6, h7, h8⟩
  subst h2
  exact ⟨ys, zs, F0, F2, v, h1, rfl, (h6.keep (fun g hg => hF g (by simp [hg]))).mono hb, ihk (fun g hg => hF g (by simp [hg])) h7, ihr (fun g hg => hF g (by simp [hg])) h8⟩
theorem OwnU.keep {v : Value} {k : NdF} (h : OwnU w base v k F) (hF : ∀ g, g ∈ F → w'.heap[g]? = w.heap[g]?) (hb : base' ≤ base) : OwnU w' base' v k F := by
 obtain ⟨zs, F0, rfl, h1, h2⟩ := h
 exact ⟨zs, F0, rfl, (h1.keep (fun g hg => hF g (by simp [hg]))).mono hb, h2.keep hb (fun g hg => hF g (by simp [hg]))⟩
theorem OwnK.fresh {e : TypeId} {k n : Nat} {v : Value} (h : OwnK e k w base v n xs) {g : Nat} (hg : v.ownBlock = some g) : Fresh9 base w g := by
 rcases h.2 with ⟨rfl, h0⟩ | ⟨g', cap, cur, rfl, hb, hg', hrest⟩
 ·cases hg
 ·injection hg with hg
  subst hg
  exact ⟨hb, cur, _, hg'⟩
theorem OwnT.fresh : ∀ {f : NdF} {xs : List Value} {F : List Nat}, OwnT w base f xs F → ∀ g, g ∈ F → Fresh9 base w g := by
 intro f
 induction f with
 | nil => intro xs F h g hg; rw [h.2] at hg; cases hg
 | cons a k r ihk ihr =>
  intro xs F ⟨ys, zs, F0, F2, v, h1, h2, h6, h7, h8⟩ g hg
  subst h2
  simp only [List.mem_append, Option.mem_toList] at hg
  rcases hg with (hg | hg) | hg
  ·exact h6.fresh hg
  ·exact ihk h7 g hg
  ·exact ihr h8 g hg
theorem OwnU.fresh {v : Value} {k : NdF} (h : OwnU w base v k F) : ∀ g, g ∈ F → Fresh9 base w g := by
 obtain ⟨zs, F0, rfl, h1, h2⟩ := h
 intro g hg
 simp only [List.mem_append, Option.mem_toList] at hg
 rcases hg with hg | hg
 ·exact h1.fresh hg
 ·exact h2.fresh g hg
theorem OwnT.below (h : OwnT w base f xs F) (hb : Below w.heap.size w w') : OwnT w' base f xs F := h.keep (Nat.le_refl _) (fun g hg => hb.block g (h.fresh g hg).lt)
theorem OwnU.below {v : Value} {k : NdF} (h : OwnU w base v k F) (hb : Below w.heap.size w w') : OwnU w' base v k F := h.keep (fun g hg => hb.block g (h.fresh g hg).lt) (Nat.le_refl _)
theorem OwnK.frv {S : Nat → Prop} {v : Value} {k : NdF} (h : OwnK 27 6 w base v k.len xs) (hr : rowG NdA 6 5 w S noB xs k) (hS : ∀ g, v.ownBlock = some g → S g) : FrV NdA 6 5 w S noB v k := by
 have hh := h
 rcases h.2 with ⟨rfl, h0⟩ | ⟨g, cap, cur, rfl, hb, hg, hnc, hcm, hcs, ht⟩
 ·exact ⟨none, 0, by rw [h0], by omega, fun h => absurd h (by omega)⟩
 ·refine ⟨_, cap, rfl, hnc, fun h0 => ⟨g, 0, rfl, hS g rfl, hr.at (fun j u hj => ?_)⟩⟩
  have hjl : j < xs.length := (List.getElem?_eq_some_iff.1 hj).1
  have hxl : xs.length = k.len * 6 := h.1
  rw [World.ownsRow.cellAt hh (0 + j) (by omega), Nat.zero_add, hj]
theorem OwnK.aligned {n : Nat} {v : Value} (h : OwnK 27 6 w base v n xs) {a : NdD} : ∀ b o m c, (ndC a v)[5]? = some (.slice (some ⟨b, o, none⟩) m c) → o % 6 = 0 := by
 intro b o m c e
 have e2 : v = .slice (some ⟨b, o, none⟩) m c := by simpa using e
 rcases h.2 with ⟨rfl, h0⟩ | ⟨g, cap, cur, rfl, hrest⟩
 ·cases e2
 ·injection e2 with e2
  injection e2 with e2
  injection e2 with _ e3
  rw [← e3]
theorem OwnT.row {S : Nat → Prop} : ∀ {f : NdF} {xs : List Value} {F : List Nat}, (∀ g, g ∈ F → S g) → OwnT w base f xs F → rowG NdA 6 5 w S noB xs f := by
 intro f
 induction f with
 | nil => intro xs F _ h; exact h.1
 | cons a k r ihk ihr =>
  intro xs F hF ⟨ys, zs, F0, F2, v, h1, h2, h6, h7, h8⟩
  subst h2
  have hv : v.oneCell' = true := by obtain ⟨A, c, rfl⟩ := h6.shape; rfl
  exact ⟨ndC a v, ys, h1, ⟨rfl, ⟨⟨v, rfl, hv⟩, h6.aligned⟩, v, rfl, h6.frv (ihk (fun g hg => hF g (by simp [hg])) h7) (fun g hg => hF g (by simp [hg]))⟩, ihr (fun g hg => hF g (by simp [hg])) h8⟩
theorem OwnU.frv {v : Value} {k : NdF} (h : OwnU w base v k F) : FrV NdA 6 5 w (fun g => g ∈ F) noB v k := by
 obtain ⟨zs, F0, rfl, h1, h2⟩ := h
 exact h1.frv (h2.row (fun g hg => by simp [hg])) (fun g hg => by simp [hg])
theorem OwnU.shape {v : Value} {k : NdF} (h : OwnU w base v k F) : ∃ A c, v = .slice A k.len c := by
 obtain ⟨zs, F0, rfl, h1, h2⟩ := h
 exact h1.shape
theorem OwnU.new {v : Value} {a : NdD} {k : NdF} (h : OwnU w base v k F) : NewT base w (ndC a v) (a, k) := by
 refine ⟨fun g => g ∈ F, h.fresh, rfl, ⟨⟨v, rfl, ?_⟩, ?_⟩, v, rfl, h.frv⟩
 ·obtain ⟨A, c, rfl⟩ := h.shape; rfl
 ·obtain ⟨zs, F0, rfl, h1, h2⟩ := h
  exact h1.aligned
theorem OwnU.lies {v : Value} {a : NdD} {k : NdF} (h : OwnU w base v k F) : LieN w (ndC a v) (a, k) := (h.new (a := a)).lies
theorem OwnT.app (h2 : OwnT w base g ys G) : ∀ {f : NdF} {xs : List Value} {F : List Nat}, OwnT w base f xs F → OwnT w base (f.app g) (xs ++ ys) (F ++ G) := by
 intro f
 induction f with
 | nil => intro xs F h; rw [h.1, h.2]; exact h2
 | cons a k r ihk ihr =>
  intro xs F ⟨zs, us, F0, F2, v, h1, h2, h6, h7, h8⟩
  subst h1 h2
  exact ⟨zs ++ ys, us, F0, F2 ++ G, v, by simp, by simp, h6, h7, ihr h8⟩
theorem OwnT.one {a : NdD} {k : NdF} {v : Value} (h : OwnU w base v k F) : OwnT w base (.cons a k .nil) (ndC a v) F := OwnT.cons_iff.2 ⟨v, [], F, [], by simp, by simp, h, rfl, rfl⟩
theorem OwnT.split (n : Nat) : ∀ {f : NdF} {xs : List Value} {F : List Nat}, OwnT w base f xs F → ∃ xs1 xs2 F1 F2, xs = xs1 ++ xs2 ∧ F = F1 ++ F2 ∧ OwnT w base (Fr.take n f) xs1 F1 ∧ OwnT w base (Fr.drop n f) xs2 F2 := by
 induction n with
 | zero => intro f xs F h; exact ⟨[], xs, [], F, rfl, rfl, by cases f <;> exact ⟨rfl, rfl⟩, by cases f <;> exact h⟩
 | succ n ih =>
  intro f xs F h
  cases f with
  | nil => exact ⟨[], xs, [], F, rfl, rfl, ⟨rfl, rfl⟩, h⟩
  | cons a k r =>
   obtain ⟨v, ys, F1, F2, rfl, rfl, h1, h2⟩ := OwnT.cons_iff.1 h
   obtain ⟨ys1, ys2, G1, G2, rfl, rfl, h3, h4⟩ := ih h2
   exact ⟨ndC a v ++ ys1, ys2, F1 ++ G1, G2, by simp, by simp, OwnT.cons_iff.2 ⟨v, ys1, F1, G1, rfl, rfl, h1, h3⟩, h4⟩
theorem OwnT.len (h : OwnT w base f xs F) : xs.length = f.len * 6 := (h.row (S := fun g => g ∈ F) (fun _ h => h)).len
theorem OwnT.at (h : OwnT w base f xs F) {i : Nat} {a : NdD} {k : NdF} (hy : f.get? i = some (a, k)) : ∃ xs1 v xs2 F1 Fk F2, xs = xs1 ++ (ndC a v ++ xs2) ∧ F = F1 ++ (Fk ++ F2) ∧ xs1.length = i * 6 ∧ OwnT w base (Fr.take i f) xs1 F1 ∧ OwnU w base v k Fk ∧ OwnT w base (Fr.drop (i + 1) f) xs2 F2 := by
 obtain ⟨xs1, xs2, F1, F2, rfl, rfl, h1, h2⟩ := h.split i
 rw [(Fr.get_drop hy).1] at h2
 obtain ⟨v, ys, G1, G2, rfl, rfl, h3, h4⟩ := OwnT.cons_iff.1 h2
 exact ⟨xs1, v, ys, F1, G1, G2, rfl, rfl, by rw [h1.len, Fr.len_take _ _ (by have := Fr.get_lt hy; omega)], h1, h3, h4⟩
def updF (i : Nat) (y : Nd) (f : NdF) : NdF := (Fr.take i f).app (.cons y.1 y.2 (Fr.drop (i + 1) f))
theorem OwnT.upd {i : Nat} {a : NdD} {k : NdF} {v : Value} {xs1 xs2 : List Value} {F1 F2 Fk : List Nat} (h1 : OwnT w base (Fr.take i f) xs1 F1) (h2 : OwnU w base v k Fk) (h3 : OwnT w base (Fr.drop (i + 1) f) xs2 F2) : OwnT w base (updF i (a, k) f) (xs1 ++ (ndC a v ++ xs2)) (F1 ++ (Fk ++ F2)) :=
 OwnT.app (OwnT.cons_iff.2 ⟨v, xs2, Fk, F2, rfl, rfl, h2, h3⟩) h1
end
def Keeps (base : Nat) (F : List Nat) (w w' : World) : Prop := Below base w w' ∧ ∀ g, g < w.heap.size → g ∉ F → w'.heap[g]? = w.heap[g]?
theorem Keeps.refl (base : Nat) (F : List Nat) (w : World) : Keeps base F w w := ⟨Below.refl _ _, fun _ _ _ => rfl⟩
theorem Keeps.trans {base : Nat} {F G : List Nat} {a b c : World} (h : Keeps base F a b) (k : Keeps base G b c) (hG : ∀ g, g ∈ G → g ∈ F ∨ a.heap.size ≤ g) : Keeps base F a c :=
 ⟨h.1.trans k.1, fun g hg hF => (k.2 g (Nat.lt_of_lt_of_le hg h.1.size) (fun hm => by rcases hG g hm with h' | h'; exact hF h'; omega)).trans (h.2 g hg hF)⟩
end Go.Proofs.YtljjaikejfoanaaGreat
