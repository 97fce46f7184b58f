/- What PackRises stands on: SpcMem, OctRefB, SpcRefB, SclRefC, VlrA, VadOk, VadOpen, StvIdt, TreRefA, TreRefB, Drawn, TreRefC, TreBox. -/
import Derived.Test.YtodlhgflfcadmaaGreatZM0
import Derived.Test.YtodlhgflfcadmaaGreatZM2
import Derived.Test.YtodlhgflfcadmaaGreatZM1
import Derived.Laws.Rows
import Derived.Outline
import Derived.Test.YtodlhgflfcadmaaGreatRows
import Derived.Deep.RegionHeld3
import Derived.Laws.ResultCell
set_option linter.unusedSimpArgs false
set_option linter.unusedVariables false
namespace Go.Proofs.YtodlhgflfcadmaaGreat
open Go.RowKit
def SpcD : RdOf SpD := fun w N cs a => ∃ nv kv d, cs = [.string (txt a.name), .int .i64 (a.kind : Int), .int .i64 (a.typ : Int), .int .u64 (a.low : Int), .int .u64 (a.high : Int), nv, .bool a.must, .int .i64 (a.most : Int), kv] ∧
 Vals w d nv (txts a.names) ∧ (0 < a.names.length → N d) ∧ kv.oneCell' = true
theorem txts_len (l : List (List UInt8)) : (txts l).length = l.length := by simp [txts]
theorem Vals.heap {w w' : World} {d : Nat} {v : Value} {xs : List Value} (h : Vals w d v xs) (hk : 0 < xs.length → w'.heap[d]? = w.heap[d]?) : Vals w' d v xs := by
 obtain ⟨A, c, rfl, h1, h2⟩ := h
 refine ⟨A, c, rfl, h1, fun h0 => ?_⟩
 obtain ⟨hlt, off, rfl, hc⟩ := h2 h0
 have hb := hk h0
 refine ⟨?_, off, rfl, fun j u hj => (World.cell?_of_block (w := w) (a := ⟨d, off + j, none⟩) hb).trans (hc j u hj)⟩
 rw [Array.getElem?_eq_getElem hlt] at hb
 exact (Array.getElem?_eq_some_iff.1 hb).1
theorem stay_spc : StayD SpcD := by
 intro w w' N N' cs a hk hN ⟨nv, kv, d, h1, h2, h3, h4⟩
 refine ⟨nv, kv, d, h1, h2.heap (fun h0 => hk d (h3 ?_)), fun h0 => hN d (h3 h0), h4⟩
 rwa [txts_len] at h0
theorem one_spc : OneD SpcD := by
 intro w N cs a ⟨nv, kv, d, h1, ⟨A, c, h2, _⟩, _, h4⟩ u hu
 subst h1 h2
 simp only [List.mem_cons, List.not_mem_nil, or_false] at hu
 rcases hu with rfl | rfl | rfl | rfl | rfl | rfl | rfl | rfl | rfl <;> first | rfl | exact h4
abbrev SpN (w : World) (S N : Nat → Prop) (cs : List Value) (x : Sp) : Prop := FrN SpcD 9 8 w S N cs x.1 x.2
theorem SpN.shape {w : World} {S N : Nat → Prop} {cs : List Value} {x : Sp} (h : SpN w S N cs x) :
  ∃ B m A c d, cs = [.string (txt x.1.name), .int .i64 (x.1.kind : Int), .int .i64 (x.1.typ : Int), .int .u64 (x.1.low : Int), .int .u64 (x.1.high : Int), .slice B x.1.names.length m, .bool x.1.must, .int .i64 (x.1.most : Int), .slice A x.2.len c] ∧
   Vals w d (.slice B x.1.names.length m) (txts x.1.names) ∧ (0 < x.1.names.length → N d) ∧ FrV SpcD 9 8 w S N (.slice A x.2.len c) x.2 := by
 obtain ⟨_, ⟨nv, kv, d, rfl, h2, h3, _⟩, v, h5, h6⟩ := h
 obtain ⟨A, c, rfl⟩ := h6.shape
 simp at h5
 subst h5
 obtain ⟨B, m, e⟩ := h2.shape
 rw [txts_len] at e
 subst e
 exact ⟨B, m, A, c, d, rfl, h2, h3, h6⟩
theorem SpN.make {w : World} {S N : Nat → Prop} {a : SpD} {k : SpF} {nv kv : Value} {d : Nat} (h1 : Vals w d nv (txts a.names)) (h2 : 0 < a.names.length → N d) (h3 : FrV SpcD 9 8 w S N kv k) :
  SpN w S N [.string (txt a.name), .int .i64 (a.kind : Int), .int .i64 (a.typ : Int), .int .u64 (a.low : Int), .int .u64 (a.high : Int), nv, .bool a.must, .int .i64 (a.most : Int), kv] (a, k) := by
 refine ⟨rfl, ⟨nv, kv, d, rfl, h1, h2, ?_⟩, kv, rfl, h3⟩
 obtain ⟨A, c, rfl⟩ := h3.shape
 rfl
def Fresh (base : Nat) (w : World) (g : Nat) : Prop := base ≤ g ∧ ∃ cs t, w.heap[g]? = some (.cells cs t (0, 0))
theorem Fresh.lt {base : Nat} {w : World} {g : Nat} (h : Fresh base w g) : g < w.heap.size := by
 obtain ⟨_, cs, t, h⟩ := h
 exact (Array.getElem?_eq_some_iff.1 h).1
theorem Fresh.below {base : Nat} {w w' : World} {g : Nat} (h : Fresh base w g) (hb : Below w.heap.size w w') : Fresh base w' g := by
 have hl := h.lt
 obtain ⟨h0, cs, t, h⟩ := h
 exact ⟨h0, cs, t, (hb.block g hl).trans h⟩
def NewSp (base : Nat) (w : World) (cs : List Value) (x : Sp) : Prop := ∃ S N, (∀ g, S g → Fresh base w g) ∧ (∀ g, N g → Fresh base w g ∧ ¬ S g) ∧ SpN w S N cs x
def SpP (x : Sp × Nat) (w : World) (r : Ending) (w' : World) : Prop := ∃ cs, r = .returned (.tuple #[.agg cs.toArray, .int .i64 (x.2 : Int)]) ∧ NewSp w.heap.size w' cs x.1 ∧ Below w.heap.size w w'
def AnsP (v : Value) (w : World) (r : Ending) (w' : World) : Prop := r = .returned v ∧ Below w.heap.size w w'
end Go.Proofs.YtodlhgflfcadmaaGreat
namespace Go.Proofs.YtodlhgflfcadmaaGreat
open Go.RowKit
theorem txt_get (l : List UInt8) (k : Nat) (h : k < l.length) (h' : k < (txt l).size) : (txt l)[k]'h' = l[k]'h := by
 show (txt l).data[k]'h' = l[k]
 simp [txt]
 rfl
end Go.Proofs.YtodlhgflfcadmaaGreat
namespace Go.Proofs.YtodlhgflfcadmaaGreat
open Go.RowKit
theorem zeroS : (Value.agg (cS ⟨#[]⟩ 0 0 0 0 (.slice none 0 0) false 0 (.slice none 0 0))).cells.size = 9 := by kernel_rfl
def spC (a : SpD) (nv kv : Value) : List Value := [.string (txt a.name), .int .i64 (a.kind : Int), .int .i64 (a.typ : Int), .int .u64 (a.low : Int), .int .u64 (a.high : Int), nv, .bool a.must, .int .i64 (a.most : Int), kv]
theorem leaf_n {w : World} {S N : Nat → Prop} {a : SpD} (h : a.names = []) : SpN w S N (spC a (.slice none 0 0) (.slice none 0 0)) (a, .nil) :=
 SpN.make (d := 0) (by rw [h]; exact ⟨none, 0, rfl, Nat.le_refl _, fun h => absurd h (by simp [txts])⟩) (by rw [h]; intro h; simp at h) (FrV.empty _ _ _)
end Go.Proofs.YtodlhgflfcadmaaGreat
namespace Go.Proofs.YtodlhgflfcadmaaGreat
open Go.RowKit
def idL (s : List UInt8) (k : Nat) : Prop := (∀ c, 0 < k → s[0]? = some c → smB c = true) ∧ ∀ j c, j < k → s[j]? = some c → nmB c = true
theorem idL_all {s : List UInt8} (h : idL s s.length) : identX s = (!s.isEmpty && decide (s.length ≤ 12)) := by
 cases s with
 | nil => rfl
 | cons c r =>
  have h1 := h.1 c (by simp) rfl
  have h2 : r.all nmB = true := List.all_eq_true.2 (fun d hd => by
   obtain ⟨j, hj, rfl⟩ := List.getElem_of_mem hd
   exact h.2 (j + 1) _ (by simp; omega) (by rw [List.getElem?_cons_succ]; exact List.getElem?_eq_getElem hj))
  simp [identX, h1, h2]
theorem id_bad {s : List UInt8} {k : Nat} {c : UInt8} (hc : s[k]? = some c) (h : smB c = false) (h2 : k = 0 ∨ nmB c = false) : identX s = false := by
 cases s with
 | nil => rfl
 | cons d r =>
  cases k with
  | zero =>
   simp at hc
   subst hc
   simp [identX, h]
  | succ k =>
   have h3 : nmB c = false := by rcases h2 with h2 | h2; cases h2; exact h2
   have h4 : r.all nmB = false := List.all_eq_false.2 ⟨c, List.mem_of_getElem? (by simpa using hc), by rw [h3]; decide⟩
   simp [identX, h4]
theorem sm_cases (c : UInt8) : (smB c = true ∧ 97 ≤ (c.toNat : Int) ∧ (c.toNat : Int) ≤ 122) ∨ (smB c = false ∧ (¬ 97 ≤ (c.toNat : Int) ∨ (97 ≤ (c.toNat : Int) ∧ ¬ (c.toNat : Int) ≤ 122))) := by
 unfold smB
 by_cases h1 : 97 ≤ c.toNat
 ·by_cases h2 : c.toNat ≤ 122
  ·exact .inl ⟨by simp [h1, h2], by omega, by omega⟩
  ·exact .inr ⟨by simp [h2], .inr ⟨by omega, by omega⟩⟩
 ·exact .inr ⟨by simp [h1], .inl (by omega)⟩
theorem nm_cases {c : UInt8} (h : smB c = false) : (nmB c = true ∧ (((c.toNat : Int) == 45) = true ∨ (((c.toNat : Int) == 45) = false ∧ ¬ (c.toNat : Int) < 48 ∧ ¬ 57 < (c.toNat : Int)))) ∨
  (nmB c = false ∧ ((c.toNat : Int) == 45) = false ∧ ((c.toNat : Int) < 48 ∨ (¬ (c.toNat : Int) < 48 ∧ 57 < (c.toNat : Int)))) := by
 have e45 : c = 45 ↔ c.toNat = 45 := by
  rw [← UInt8.toNat_inj]
  rfl
 unfold nmB
 rw [h]
 by_cases h0 : c = 45
 ·have h45 := e45.1 h0
  exact .inl ⟨by simp [h0], .inl (by simp; omega)⟩
 ·have hn : (c == 45) = false := beq_eq_false_iff_ne.2 h0
  have hm : ((c.toNat : Int) == 45) = false := beq_eq_false_iff_ne.2 (fun e => h0 (e45.2 (by omega)))
  by_cases h1 : 48 ≤ c.toNat
  ·by_cases h2 : c.toNat ≤ 57
   ·exact .inl ⟨by simp [h1, h2], .inr ⟨hm, by omega, by omega⟩⟩
   ·exact .inr ⟨by simp [h2, hn], hm, .inr ⟨by omega, by omega⟩⟩
  ·exact .inr ⟨by simp [h1, hn], hm, .inl (by omega)⟩
end Go.Proofs.YtodlhgflfcadmaaGreat
namespace Go.Proofs.YtodlhgflfcadmaaGreat
open Go.RowKit
def VlOk (v : Vl) : Prop := -9223372036854775808 ≤ v.kind ∧ v.kind ≤ 9223372036854775807 ∧ v.num < 18446744073709551616 ∧ v.text.length ≤ 1048576
end Go.Proofs.YtodlhgflfcadmaaGreat
namespace Go.Proofs.YtodlhgflfcadmaaGreat
open Go.RowKit
structure OkD (a : NdD) : Prop where
 name : a.name.length ≤ 1048576
 key : a.key.length ≤ 1048576
 lo : -9223372036854775808 ≤ a.kind
 hi : a.kind ≤ 9223372036854775807
 num : a.num < 18446744073709551616
 text : a.text.length ≤ 1048576
theorem OkD.vl {a : NdD} (h : OkD a) : VlOk (vlOf a) := ⟨h.lo, h.hi, h.num, h.text⟩
def OkF : NdF → Prop
 | .nil => True
 | .cons a k r => OkD a ∧ OkF k ∧ OkF r
abbrev OkN (x : Nd) : Prop := OkD x.1 ∧ OkF x.2
theorem OkF.at {f : NdF} : ∀ {i : Nat} {y : Nd}, OkF f → f.get? i = some y → OkN y := by
 induction f with
 | nil => intro i y _ h; cases h
 | cons a k r _ ih =>
  intro i y hf h
  cases i with
  | zero => injection h with h; subst h; exact ⟨hf.1, hf.2.1⟩
  | succ i => exact ih hf.2.2 h
theorem OkF.of {f : NdF} : (∀ i y, f.get? i = some y → OkN y) → OkF f := by
 induction f with
 | nil => intro _; trivial
 | cons a k r _ ih => intro h; exact ⟨(h 0 _ rfl).1, (h 0 _ rfl).2, ih fun i y hy => h (i + 1) y hy⟩
theorem OkD.zero : OkD zeroT := ⟨by decide, by decide, by decide, by decide, by decide, by decide⟩
end Go.Proofs.YtodlhgflfcadmaaGreat
namespace Go.Proofs.YtodlhgflfcadmaaGreat
open Go.RowKit
open Go.ChangeShapes Go.WideShapes Go.Deep
set_option maxRecDepth 100000 in
theorem node_cells10 {H : Type} {enc : TypeId × Value → H} {W : World} {n : Nat} {cs : List Value} {x : DataW H × List MemPlace} (h : DataW.trod enc Tryz.prog W 0 (fun _ => true) true n 27 cs = some x) :
  ∃ (a : NdD) (c5 : Value) (n' : Nat) (y : DataW H × List MemPlace), n = n' + 1 ∧ cs = ndC a c5 ∧ DataW.trod enc Tryz.prog W 0 (fun _ => true) true n' 25 [c5] = some y ∧ Rows.uptoBulk y.1 + 4 ≤ Rows.uptoBulk x.1 ∧ (Rows.uptoBulk x.1 ≤ 1048576 → OkD a) := by
 obtain ⟨ys, k, hk, hy, hlen, hyl, hf⟩ := DataW.trod_struct Tryz.underlying27 h
 rw [cellsNode] at hlen
 have hyl' : ys.length = 4 := hyl
 match cs, hlen, ys, hyl', hy with
 | [v0, v1, v2, v3, v4, v5], _, [y0, y1, y2, y3], _, hy =>
  have f0 : DataW.trod enc Tryz.prog W 0 (fun _ => true) true k 9 (List.take (Tryz.prog.cellsOf 9) (List.drop 0 [v0, v1, v2, v3, v4, v5])) = some _ := (hf 0 _ rfl).trans rfl
  have f1 : DataW.trod enc Tryz.prog W 0 (fun _ => true) true k 9 (List.take (Tryz.prog.cellsOf 9) (List.drop 1 [v0, v1, v2, v3, v4, v5])) = some _ := (hf 1 _ rfl).trans rfl
  have f2 : DataW.trod enc Tryz.prog W 0 (fun _ => true) true k 24 (List.take (Tryz.prog.cellsOf 24) (List.drop 2 [v0, v1, v2, v3, v4, v5])) = some _ := (hf 2 _ rfl).trans rfl
  have f3 : DataW.trod enc Tryz.prog W 0 (fun _ => true) true k 25 (List.take (Tryz.prog.cellsOf 25) (List.drop 5 [v0, v1, v2, v3, v4, v5])) = some _ := (hf 3 _ rfl).trans rfl
  rw [cellsStr9] at f0 f1
  rw [cellsVal] at f2
  rw [cellsNds] at f3
  simp only [List.drop_zero, List.drop_succ_cons, List.take_succ_cons, List.take_zero] at f0 f1 f2 f3
  obtain ⟨s0, e0, b0, _⟩ := DataW.trod_string Tryz.underlying9 f0
  obtain ⟨s1, e1, b1, _⟩ := DataW.trod_string Tryz.underlying9 f1
  obtain ⟨zs, k', hk', hz, _, hzl, hg⟩ := DataW.trod_struct Tryz.underlying24 f2
  have hzl' : zs.length = 3 := hzl
  match zs, hzl', hz with
  | [z0, z1, z2], _, hz =>
   have g0 : DataW.trod enc Tryz.prog W 0 (fun _ => true) true k' 3 (List.take (Tryz.prog.cellsOf 3) (List.drop 0 [v2, v3, v4])) = some _ := (hg 0 _ rfl).trans rfl
   have g1 : DataW.trod enc Tryz.prog W 0 (fun _ => true) true k' 22 (List.take (Tryz.prog.cellsOf 22) (List.drop 1 [v2, v3, v4])) = some _ := (hg 1 _ rfl).trans rfl
   have g2 : DataW.trod enc Tryz.prog W 0 (fun _ => true) true k' 9 (List.take (Tryz.prog.cellsOf 9) (List.drop 2 [v2, v3, v4])) = some _ := (hg 2 _ rfl).trans rfl
   rw [cellsInt9] at g0
   rw [cellsU64] at g1
   rw [cellsStr9] at g2
   simp only [List.drop_zero, List.drop_succ_cons, List.take_succ_cons, List.take_zero] at g0 g1 g2
   obtain ⟨kd, e2, _, hwk⟩ := DataW.trod_int Tryz.underlying3 g0
   obtain ⟨nu, e3, _, hw⟩ := DataW.trod_int Tryz.underlying22 g1
   obtain ⟨s2, e4, b4, _⟩ := DataW.trod_string Tryz.underlying9 g2
   have hb := bounds_u64 hw
   have hbk := bounds_i64 hwk
   have hy2 := congrArg Prod.fst hz
   simp at e0 e1 e2 e3 e4
   subst e0 e1 e2 e3 e4
   refine ⟨⟨s0.data.toList, s1.data.toList, kd, nu.toNat, s2.data.toList⟩, v5, k, y3, hk, ?_, f3, ?_, fun hbl => ?_⟩
   ·show _ = [Value.string (txt s0.data.toList), Value.string (txt s1.data.toList), Value.int .i64 kd, Value.int .u64 (nu.toNat : Int), Value.string (txt s2.data.toList), v5]
    rw [show txt s0.data.toList = s0 from txt_ext (txt_data _), show txt s1.data.toList = s1 from txt_ext (txt_data _), show txt s2.data.toList = s2 from txt_ext (txt_data _), Int.toNat_of_nonneg (by omega)]
   ·have hx : x.1 = .agg [y0.1, y1.1, y2.1, y3.1] := congrArg Prod.fst hy
    rw [hx]
    have := bulk_one9 y0.1
    have := bulk_one9 y1.1
    have := bulk_one9 y2.1
    simp only [Rows.uptoBulk, Rows.uptoBulkAll]
    omega
   ·have hx : x.1 = .agg [y0.1, y1.1, y2.1, y3.1] := congrArg Prod.fst hy
    rw [hx] at hbl
    have hy2' : y2.1 = .agg [z0.1, z1.1, z2.1] := hy2
    have q0 : Rows.uptoBulk y0.1 = s0.data.toList.length + 1 := by rw [show y0.1 = .lit (.string s0.data.toList) from congrArg Prod.fst b0]; rfl
    have q1 : Rows.uptoBulk y1.1 = s1.data.toList.length + 1 := by rw [show y1.1 = .lit (.string s1.data.toList) from congrArg Prod.fst b1]; rfl
    have q4 : Rows.uptoBulk z2.1 = s2.data.toList.length + 1 := by rw [show z2.1 = .lit (.string s2.data.toList) from congrArg Prod.fst b4]; rfl
    have q2 : Rows.uptoBulk y2.1 ≥ Rows.uptoBulk z2.1 := by rw [hy2']; simp only [Rows.uptoBulk, Rows.uptoBulkAll]; omega
    simp only [Rows.uptoBulk, Rows.uptoBulkAll] at hbl
    exact ⟨by simp only; omega, by simp only; omega, hbk.1, hbk.2, by simp only; omega, by simp only; omega⟩
set_option maxRecDepth 100000 in
theorem open_nodes10 {H : Type} {enc : TypeId × Value → H} {W : World} (N : Nat) :
  ∀ {fuel : Nat} {v : Value} {x : DataW H × List MemPlace}, fuel ≤ N → DataW.trod enc Tryz.prog W 0 (fun _ => true) true fuel 25 [v] = some x → ∃ f, RowT W.heap.size W v f ∧ 2 * f.size ≤ Rows.uptoBulk x.1 ∧ (Rows.uptoBulk x.1 ≤ 1048576 → OkF f) := by
 induction N with
 | zero =>
  intro fuel v x hN h
  obtain rfl : fuel = 0 := by omega
  simp [DataW.trod] at h
 | succ N ih =>
  intro fuel v x hN h
  rcases DataW.trod_slice Tryz.underlying25 h with ⟨hcs, rfl⟩ | ⟨a, len, cap, elems, rest, n, rfl, hcs, rfl, hb, hl, hm, hlen, hel, -, -⟩
  ·simp at hcs
   subst hcs
   exact ⟨.nil, FrV.empty _ _ _, Nat.zero_le _, fun _ => trivial⟩
  ·simp at hcs
   subst hcs
   by_cases h0 : 0 < len
   ·have hcell0 : ∃ u, W.cell? a = some u := by
     have h1 := hel 0 h0
     rw [List.getElem?_eq_getElem (by omega)] at h1
     obtain ⟨cs', h2, _⟩ := Option.bind_eq_some_iff.1 h1
     rw [cellsNode] at h2
     obtain ⟨_, h3, h4⟩ := World.cells?_some h2
     have h5 := h4 0 (by omega)
     rw [List.getElem?_eq_getElem (by omega)] at h5
     exact ⟨_, by simpa [Addr.add] using h5⟩
    obtain ⟨u0, hu0⟩ := hcell0
    have hsp0 : a.spot = none := World.cell?_spot hu0
    have hlt : a.block < W.heap.size := World.block_lt_of_cell? W _ hu0
    obtain ⟨b, off, sp⟩ := a
    have hsp : sp = none := hsp0
    subst hsp
    have rows : ∀ m, m ≤ len → ∃ f : NdF, f.len = m ∧ FrAt NdT 6 5 W (fun g => g < W.heap.size) noB f b (off + (len - m) * 6) ∧ 2 * f.size ≤ Rows.uptoBulkAll ((elems.drop (len - m)).map (·.1)) ∧ (Rows.uptoBulkAll ((elems.drop (len - m)).map (·.1)) ≤ 1048576 → OkF f) := by
     intro m
     induction m with
     | zero => intro _; exact ⟨.nil, rfl, trivial, Nat.zero_le _, fun _ => trivial⟩
     | succ m ihm =>
      intro hm'
      obtain ⟨r, hr1, hr2, hr3, hr4⟩ := ihm (by omega)
      obtain ⟨i, hi⟩ : ∃ i, i = len - (m + 1) := ⟨_, rfl⟩
      have hi1 : len - m = i + 1 := by omega
      have hil : i < len := by omega
      rw [hi1] at hr2 hr3 hr4
      rw [← hi]
      have h1 := hel i hil
      have hie : i < elems.length := by omega
      rw [List.getElem?_eq_getElem hie] at h1
      obtain ⟨cs', h2, h3⟩ := Option.bind_eq_some_iff.1 h1
      rw [cellsNode] at h2
      obtain ⟨_, hcl, hat⟩ := World.cells?_some h2
      have hcc : ∀ j, j < 6 → W.cell? ⟨b, off + i * 6 + j, none⟩ = cs'[j]? := fun j hj => by
       have h5 := hat j hj
       rw [add_bare9, add_bare9] at h5
       exact h5
      obtain ⟨nd, c5, n', y, hn', rfl, hy, hyb, hyo⟩ := node_cells10 h3
      obtain ⟨k, hk1, hk2, hk3⟩ := ih (by omega) hy
      have hdrop : (elems.drop i).map (·.1) = (elems[i]).1 :: (elems.drop (i + 1)).map (·.1) := by rw [List.drop_eq_getElem_cons hie]; rfl
      obtain ⟨A, c, rfl⟩ := FrV.shape hk1
      obtain ⟨A', c', e, hkc, hkr⟩ := hk1
      injection e with e1 e2 e3
      subst e1 e3
      refine ⟨.cons nd k r, by simp only [Fr.len, hr1], ⟨⟨ndC nd (.slice A k.len c), rfl, fun j u hu => ?_, ⟨_, rfl, rfl⟩, A, c, rfl, hkc, hkr⟩, ?_⟩, ?_, fun hbl => ?_⟩
      ·have hj : j < 6 := (List.getElem?_eq_some_iff.1 hu).1
       rw [hcc j hj, hu]
      ·have h9 : off + i * 6 + 6 = off + (i + 1) * 6 := by omega
       rw [h9]; exact hr2
      ·rw [hdrop]
       simp only [Fr.size, Rows.uptoBulkAll]
       omega
      ·rw [hdrop] at hbl
       simp only [Rows.uptoBulkAll] at hbl
       exact ⟨hyo (by omega), hk3 (by omega), hr4 (by omega)⟩
    obtain ⟨f, hf1, hf2, hf3, hf4⟩ := rows len (Nat.le_refl _)
    rw [Nat.sub_self, Nat.zero_mul, Nat.add_zero] at hf2
    rw [Nat.sub_self, List.drop_zero] at hf3 hf4
    refine ⟨f, ⟨_, cap, by rw [hf1], by omega, fun _ => ⟨b, off, rfl, hlt, hf2⟩⟩, ?_, fun hbl => hf4 ?_⟩
    ·simp only [Rows.uptoBulk]
     omega
    ·simp only [Rows.uptoBulk] at hbl
     omega
   ·obtain rfl : len = 0 := by omega
    exact ⟨.nil, FrV.none_ _ _, Nat.zero_le _, fun _ => trivial⟩
set_option maxRecDepth 100000 in
theorem open_node10 {H : Type} {enc : TypeId × Value → H} {W : World} {v : Value} {d : DataW H} {p : List MemPlace} (h : DataW.Trod enc Tryz.prog W 0 (fun _ => true) true 27 v d p) (hv : ∃ cs : Array Value, v = .agg cs) :
  ∃ (a : NdD) (f : NdF) (A : Option Addr) (c : Nat), v = .agg (ndC a (.slice A f.len c)).toArray ∧ LieN W (ndC a (.slice A f.len c)) (a, f) ∧ 2 * f.size ≤ Rows.uptoBulk d ∧ (Rows.uptoBulk d ≤ 1048576 → OkD a ∧ OkF f) := by
 obtain ⟨fuel, hf⟩ := h
 obtain ⟨cs, rfl⟩ := hv
 have hf' : DataW.trod enc Tryz.prog W 0 (fun _ => true) true fuel 27 cs.toList = some (d, p) := hf
 obtain ⟨a, c5, n', y, _, he, hy, hb, ho⟩ := node_cells10 hf'
 obtain ⟨f, h1, h2, h3⟩ := open_nodes10 n' (Nat.le_refl _) hy
 obtain ⟨A, c, rfl⟩ := FrV.shape h1
 refine ⟨a, f, A, c, ?_, LieB.make h1, by simp only at hb; omega, fun hbl => ⟨ho hbl, h3 (by simp only at hb; omega)⟩⟩
 rw [← he]
end Go.Proofs.YtodlhgflfcadmaaGreat
namespace Go.Proofs.YtodlhgflfcadmaaGreat
open Go.RowKit
def SmP (c : UInt8) (w : World) (r : Ending) (w' : World) : Prop := r = .returned (.bool (smB c)) ∧ w = w'
theorem letter_any (c : UInt8) (w : World) : Calls Tryz.prog 124 #[.int .u8 (c.toNat : Int)] w (SmP c w) := by
 rcases sm_cases c with ⟨hb, g1, g2⟩ | ⟨hb, g⟩
 ·have HB := Lib.hid hb
  clear hb
  obtain ⟨m, hm⟩ : ∃ m, m = c.toNat := ⟨_, rfl⟩
  rw [← hm] at g1 g2 ⊢
  clear hm
  go_enter Tryz.func124, Tryz.ntmps124
  go_wp2
  go_ret
  exact ⟨by rw [HB.out]; rfl, rfl⟩
 ·have HB := Lib.hid hb
  clear hb
  obtain ⟨m, hm⟩ : ∃ m, m = c.toNat := ⟨_, rfl⟩
  rw [← hm] at g ⊢
  clear hm
  rcases g with g | ⟨g1, g2⟩
  all_goals
   go_enter Tryz.func124, Tryz.ntmps124
   go_wp2
   go_ret
   exact ⟨by rw [HB.out]; rfl, rfl⟩
theorem nm_ways (c : UInt8) (h : smB c = false) : (nmB c = true ∧ ((48 ≤ (c.toNat : Int) ∧ (c.toNat : Int) ≤ 57) ∨ (¬ 48 ≤ (c.toNat : Int) ∧ ((c.toNat : Int) == 45) = true))) ∨
  (nmB c = false ∧ ((c.toNat : Int) == 45) = false ∧ (¬ 48 ≤ (c.toNat : Int) ∨ (48 ≤ (c.toNat : Int) ∧ ¬ (c.toNat : Int) ≤ 57))) := by
 rcases nm_cases h with ⟨h1, h2⟩ | ⟨h1, h2, h3⟩
 ·refine .inl ⟨h1, ?_⟩
  rcases h2 with h2 | ⟨h2, h3, h4⟩
  ·have : (c.toNat : Int) = 45 := beq_iff_eq.1 h2
   exact .inr ⟨by omega, h2⟩
  ·exact .inl ⟨by omega, by omega⟩
 ·refine .inr ⟨h1, h2, ?_⟩
  rcases h3 with h3 | ⟨h3, h4⟩
  ·exact .inl (by omega)
  ·exact .inr ⟨by omega, by omega⟩
def NmP (c : UInt8) (w : World) (r : Ending) (w' : World) : Prop := r = .returned (.bool (nmB c)) ∧ w = w'
set_option maxHeartbeats 1000000 in
theorem inName_any (c : UInt8) (w : World) : Calls Tryz.prog 125 #[.int .u8 (c.toNat : Int)] w (NmP c w) := by
 have HL := Lib.hid (letter_any c w)
 cases hb : smB c with
 | true =>
  have HN := Lib.hid (sm_nm hb)
  have HS := Lib.hid hb
  clear hb
  go_enter Tryz.func125, Tryz.ntmps125
  go_wp2_with fail
  refine HL.out.mono ?_
  rintro r w1 ⟨rfl, rfl⟩
  rw [HS.out]
  clear HL
  go_wp2
  go_ret
  exact ⟨by rw [HN.out]; rfl, rfl⟩
 | false =>
  have HS := Lib.hid hb
  have g := nm_ways c hb
  clear hb
  have HL : Hid (Calls Tryz.prog 124 #[.int .u8 (c.toNat : Int)] w fun r w' => r = .returned (.bool false) ∧ w = w') := Lib.hid (HL.out.mono fun r w' h => ⟨by rw [h.1, HS.out], h.2⟩)
  have HQ : Hid (∀ b, nmB c = b → NmP c w (.returned (.bool b)) w) := Lib.hid (fun b e => ⟨by rw [e], rfl⟩)
  rcases g with ⟨h1, g⟩ | ⟨h1, g0, g⟩
  ·have HN := Lib.hid h1
   clear h1 HS
   generalize c.toNat = m at g HL
   rcases g with ⟨g1, g2⟩ | ⟨g1, g2⟩
   all_goals
    go_enter Tryz.func125, Tryz.ntmps125
    go_wp2_with fail
    refine HL.out.mono ?_
    rintro r w1 ⟨rfl, rfl⟩
    clear HL
    go_wp2
    go_ret
    exact HQ.out _ HN.out
  ·have HN := Lib.hid h1
   clear h1 HS
   generalize c.toNat = m at g g0 HL
   rcases g with g1 | ⟨g1, g2⟩
   ·go_enter Tryz.func125, Tryz.ntmps125
    go_wp2_with fail
    refine HL.out.mono ?_
    rintro r w1 ⟨rfl, rfl⟩
    clear HL
    go_wp2
    go_ret
    exact HQ.out _ HN.out
   ·go_enter Tryz.func125, Tryz.ntmps125
    go_wp2_with fail
    refine HL.out.mono ?_
    rintro r w1 ⟨rfl, rfl⟩
    clear HL
    go_wp2
    go_ret
    exact HQ.out _ (HN.out.trans (decide_eq_false (by omega)).symm)
def IdentP (s : List UInt8) (w : World) (r : Ending) (w' : World) : Prop := r = .returned (.bool (identX s)) ∧ w = w'
def nmL (s : List UInt8) (k : Nat) : Prop := ∀ j c, j < k → s[j]? = some c → nmB c = true
theorem nmL_step {s : List UInt8} {k : Nat} {c : UInt8} (hc : s[k]? = some c) (h : nmL s k) (h1 : nmB c = true) : nmL s (k + 1) := by
 intro j d hj hd
 by_cases e : j = k
 ·subst e
  rw [hc] at hd
  injection hd with hd
  rw [← hd]; exact h1
 ·exact h j d (by omega) hd
theorem nmL_all {c : UInt8} {r : List UInt8} (h1 : smB c = true) (h2 : (c :: r).length ≤ 12) (h : nmL (c :: r) (c :: r).length) : identX (c :: r) = true := by
 rw [idL_all ⟨fun d _ hd => by simp at hd; rw [← hd]; exact h1, h⟩]
 simp
 simpa using h2
theorem ident_bad {s : List UInt8} {k : Nat} {c : UInt8} (hc : s[k]? = some c) (h : nmB c = false) : identX s = false :=
 id_bad hc (by cases hb : smB c with | false => rfl | true => rw [sm_nm hb] at h; cases h) (.inr h)
set_option maxRecDepth 100000 in
set_option maxHeartbeats 2000000 in
theorem ident_any (s : List UInt8) (hs : s.length ≤ 9223372036854775807) (w : World) : Calls Tryz.prog 117 #[.string (txt s)] w (IdentP s w) := by
 cases s with
 | nil =>
  have e0 : txt [] = (⟨#[]⟩ : ByteArray) := rfl
  rw [e0]
  go_enter Tryz.func117, Tryz.ntmps117
  go_wp2
  go_ret
  exact ⟨rfl, rfl⟩
 | cons c r =>
 have hsz := txt_size (c :: r)
 have ts : (txt (c :: r)).toList = c :: r := txt_toList _
 have hE : (c :: r).isEmpty = false := rfl
 have hN : ((c :: r) == []) = false := rfl
 by_cases h12 : (c :: r).length ≤ 12
 ·have i12 : ¬ ((12 : Int) < ((c :: r).length : Int)) := by omega
  have hin : 0 < (txt (c :: r)).size := by rw [hsz]; simp
  have hix : (((txt (c :: r))[0]'hin).toNat : Int) = (c.toNat : Int) := by rw [txt_get (c :: r) 0 (by simp) hin]; rfl
  have HL := Lib.hid (letter_any c w)
  cases hb : smB c with
  | false =>
   have HV : Hid (identX (c :: r) = false) := Lib.hid (ident_no hb r)
   have HS := Lib.hid hb
   clear hb
   generalize c :: r = s at *
   go_enter Tryz.func117, Tryz.ntmps117
   go_wp2_with fail
   refine HL.out.mono ?_
   rintro e w1 ⟨rfl, rfl⟩
   rw [HS.out]
   clear HL
   go_wp2
   go_ret
   exact ⟨by rw [HV.out]; rfl, rfl⟩
  | true =>
   have HV : Hid (nmL (c :: r) (c :: r).length → identX (c :: r) = true) := Lib.hid (fun h => nmL_all hb h12 h)
   have HS := Lib.hid hb
   clear hb
   have hpos : 0 < (c :: r).length := by simp
   generalize c :: r = s at *
   go_enter Tryz.func117, Tryz.ntmps117
   go_wp2_with fail
   refine HL.out.mono ?_
   rintro e w1 ⟨rfl, rfl⟩
   rw [HS.out]
   clear HL hix
   go_wp2
   go_loop [3, 19] (fun v i => ∃ k : Nat, k ≤ s.length ∧ i = .int .i64 (k : Int) ∧ Hid (nmL s k)) (fun _ i => s.length - (intOf i).toNat)
   case atStart => exact ⟨0, by omega, rfl, Lib.hid (fun j c h => by omega)⟩
   case round =>
    obtain ⟨k, hk, rfl, HK⟩ := hrel
    by_cases h1 : k < s.length
    ·have d1 : (k : Int) < (s.length : Int) := by omega
     obtain ⟨d, hd⟩ : ∃ d, s[k]? = some d := ⟨_, List.getElem?_eq_getElem h1⟩
     have hink : k < (txt s).size := by rw [hsz]; exact h1
     have hixk : (((txt s)[k]'hink).toNat : Int) = (d.toNat : Int) := by rw [txt_get s k h1 hink]; rw [List.getElem?_eq_getElem h1] at hd; injection hd with hd; rw [hd]
     have HN := Lib.hid (inName_any d w)
     cases hn : nmB d with
     | true =>
      have HK2 := Lib.hid (nmL_step hd HK.out hn)
      have HN2 := Lib.hid hn
      clear hd hn HK
      go_wp2_with fail
      refine HN.out.mono ?_
      rintro e w1 ⟨rfl, rfl⟩
      rw [HN2.out]
      clear HN
      go_wp2
      go_round
      case rel => exact ⟨k + 1, by omega, by go_num, HK2⟩
      case measure => simp [intOf]; omega
     | false =>
      have HF : Hid (identX s = false) := Lib.hid (ident_bad hd hn)
      have HN2 := Lib.hid hn
      clear hd hn HK
      go_wp2_with fail
      refine HN.out.mono ?_
      rintro e w1 ⟨rfl, rfl⟩
      rw [HN2.out]
      clear HN
      go_wp2
      go_ret
      exact ⟨by rw [HF.out]; rfl, rfl⟩
    ·obtain rfl : k = s.length := by omega
     have HF : Hid (identX s = true) := Lib.hid (HV.out HK.out)
     clear HK h1
     go_wp2
     go_ret
     exact ⟨by rw [HF.out]; rfl, rfl⟩
 ·have i12 : (12 : Int) < ((c :: r).length : Int) := by omega
  have HV : Hid (identX (c :: r) = false) := Lib.hid (by
   cases h : identX (c :: r) with
   | false => rfl
   | true => exact absurd (ident_len h).2 h12)
  clear h12
  generalize c :: r = s at *
  go_enter Tryz.func117, Tryz.ntmps117
  go_wp2
  go_ret
  exact ⟨by rw [HV.out]; rfl, rfl⟩
end Go.Proofs.YtodlhgflfcadmaaGreat
namespace Go.Proofs.YtodlhgflfcadmaaGreat
open Go.RowKit
theorem Ans9.bool {b c : Bool} {w : World} {r : Ending} {w' : World} (h : Ans9 (.bool b) w r w') (e : b = c) : Ans9 (.bool c) w r w' := by subst e; exact h
end Go.Proofs.YtodlhgflfcadmaaGreat
namespace Go.Proofs.YtodlhgflfcadmaaGreat
open Go.RowKit
set_option maxRecDepth 100000 in
set_option maxHeartbeats 2000000 in
theorem rsizef_any (f : NdF) : ∀ (a : NdD) (A : Option Addr) (c : Nat) (w : World), RowT w.heap.size w (.slice A f.len c) f → f.size ≤ 1000000 →
  Calls Tryz.prog 18 #[.agg (cN a (.slice A f.len c))] w (Ans9 (.int .i64 ((f.size + 1 : Nat) : Int)) w) := by
 refine Fr.byKids (P := fun f => ∀ (a : NdD) (A : Option Addr) (c : Nat) (w : World), RowT w.heap.size w (.slice A f.len c) f → f.size ≤ 1000000 →
  Calls Tryz.prog 18 #[.agg (cN a (.slice A f.len c))] w (Ans9 (.int .i64 ((f.size + 1 : Nat) : Int)) w)) ?_ f
 clear f
 intro f hkids a A c w hk hsz
 have hB : Below w.heap.size w (w.alloc (.cells (cN a (.slice A f.len c)) 27)) := (Below.refl _ _).alloc (Nat.le_refl _) _
 have HB0 := Lib.hid hB
 have HI := Lib.hid hkids
 have HK : Hid (RowT w.heap.size w (.slice A f.len c) f) := Lib.hid hk
 have HZ : Hid (f.size ≤ 1000000) := Lib.hid hsz
 clear hkids hk hsz hB
 go_enter Tryz.func18, Tryz.ntmps18
 go_wp2
 go_loopw [3, 4] (fun m i wr => ∃ (j s : Nat), j ≤ f.len ∧ i = .int .i64 (j : Int) ∧ m = .int .i64 (s : Int) ∧ Hid (s = (Fr.take j f).size + 1) ∧ Blk wr w.heap.size 27 (cN a (.slice A f.len c)) ∧ Below w.heap.size w wr) (fun _ i _ => f.len - (intOf i).toNat)
 case atStart => exact ⟨0, 1, Nat.zero_le _, rfl, rfl, Lib.hid (by simp [Fr.take, Fr.size]), Blk.new _ _ _, HB0.out⟩
 case round =>
  obtain ⟨j, s, hj, rfl, rfl, HS, hP, hB⟩ := hrel
  have p5 : wr.cell? ⟨w.heap.size, 5, none⟩ = some (.slice A f.len c) := (hP.cell 5).trans rfl
  have HBr := Lib.hid hB
  by_cases hlt : j < f.len
  ·obtain ⟨a1, q, hg⟩ := Fr.get_some hlt
   obtain ⟨b, o, A', c', rfl, -, -, hbl, hrow, hcl⟩ := HK.out.at hg
   have hcell : ∀ i u, (ndC a1 (.slice A' q.len c'))[i]? = some u → wr.cell? ⟨b, o + j * 6 + i, none⟩ = some u := fun i u hu => (hB.cell (p := ⟨b, o + j * 6 + i, none⟩) hbl).trans (hcl i u hu)
   have q0 : wr.cell? ⟨b, o + j * 6, none⟩ = _ := hcell 0 _ rfl
   have q1 : wr.cell? ⟨b, o + j * 6 + 1, none⟩ = _ := hcell 1 _ rfl
   have q2 : wr.cell? ⟨b, o + j * 6 + 2, none⟩ = _ := hcell 2 _ rfl
   have q3 : wr.cell? ⟨b, o + j * 6 + 3, none⟩ = _ := hcell 3 _ rfl
   have q4 : wr.cell? ⟨b, o + j * 6 + 4, none⟩ = _ := hcell 4 _ rfl
   have q5 : wr.cell? ⟨b, o + j * 6 + 5, none⟩ = _ := hcell 5 _ rfl
   have i1 : (0 : Int) ≤ (j : Int) := by omega
   have i2 : (j : Int) < (f.len : Int) := by omega
   have i3 : (f.len : Int) ≤ 1000000 := by have := HZ.out; have := Fr.len_size f; omega
   have hts : (Fr.take (j + 1) f).size = (Fr.take j f).size + (q.size + 1) := by
    rw [(Fr.get_drop hg).2, Fr.size_app]; simp [Fr.size]
   have hle : (Fr.take (j + 1) f).size ≤ f.size := by
    have := congrArg Fr.size (Fr.take_app_drop (j + 1) f); rw [Fr.size_app] at this; omega
   obtain ⟨z, hz⟩ : ∃ z, z = q.size + 1 := ⟨_, rfl⟩
   have HI1 : Hid (Calls Tryz.prog 18 #[.agg (cN a1 (.slice A' q.len c'))] wr (Ans9 (.int .i64 (z : Int)) wr)) := Lib.hid (by
    rw [hz]; exact HI.out j a1 q hg a1 A' c' wr (hrow.under hB (Nat.le_refl _) hB.size) (by have := HZ.out; omega))
   have i4 : (0 : Int) ≤ (s : Int) := by omega
   have i5 : (s : Int) ≤ 1000001 := by have := HS.out; have := HZ.out; omega
   have i6 : (0 : Int) ≤ (z : Int) := by omega
   have i7 : (z : Int) ≤ 1000001 := by have := HZ.out; omega
   have HS2 : Hid (s + z = (Fr.take (j + 1) f).size + 1) := Lib.hid (by have := HS.out; omega)
   have HP := Lib.hid hP
   clear hcl hg hrow hcell hts hle hz hP hB hbl
   go_wp2_with fail
   refine HI1.out.mono ?_
   rintro r w2 ⟨rfl, hb⟩
   have HP2 := Lib.hid (HP.out.below hb HP.out.lt)
   have HB2 := Lib.hid (HBr.out.trans (hb.mono HBr.out.size))
   clear hb
   go_wp2
   go_roundw
   case rel => exact ⟨j + 1, s + z, by omega, by go_num, by go_num, HS2, HP2.out, HB2.out⟩
   case measure => simp [intOf]; omega
  ·have i2 : ¬ (j : Int) < (f.len : Int) := by omega
   have HF : Hid (s = f.size + 1) := Lib.hid (by have := HS.out; rw [show j = f.len by omega, Fr.take_all] at this; exact this)
   clear hP hB
   go_wp2
   go_ret
   exact ⟨by rw [HF.out]; rfl, HBr.out⟩
end Go.Proofs.YtodlhgflfcadmaaGreat
namespace Go.Proofs.YtodlhgflfcadmaaGreat
theorem held_more {P : Program} {md : Region.Mode} {ops : Array Oper} {Q : Exit → Act → World → Prop} {S S' : World → Prop} (h : ∀ w, S' w → S w) :
  ∀ (fuel : Nat) (listed : Array Bool) (a : Act) (w : World), wpAnyH P md ops Q S' fuel listed a w → wpAnyH P md ops Q S fuel listed a w
 | 0, _, _, _, hw => hw
 | fuel + 1, _, _, _, hw => ⟨hw.1, fun i hi => wpOp_mono (fun _ _ hq => ⟨h _ hq.1, held_more h fuel _ _ _ hq.2⟩) (hw.2 i hi)⟩
end Go.Proofs.YtodlhgflfcadmaaGreat
namespace Go.Proofs.YtodlhgflfcadmaaGreat
theorem tkH {P : Program} {ops : Array Oper} {Q : Exit → Act → World → Prop} {md : Region.Mode} {S : World → Prop} (i : Nat) {oi : Oper} {v : Value} {fuel : Nat} {listed : Array Bool} {a a' : Act} {w : World} (hS : S w) (h : wpAnyH P md ops Q S fuel (listed.setIfInBounds i true) a' w)
 (hi : ops[i]? = some oi := by (simp only [layG]; rfl)) (h1 : Region.noSelect ops = true := by kernel_rfl) (h2 : Region.free md ops listed i = true := by kernel_rfl) (h3 : (Region.ready md ops listed).contains i = true := by kernel_rfl)
 (hw : Region.wanted oi (yielded ops a.tmps) = true := by rfl) (hy : ∀ w, S w → (execOp a.eval oi).run P w = .ok (.value v) w := by (intro w hSw; (go_simp <;> with_reducible rfl)))
 (ha : a.put oi.dst v = a' := by (first | (simp only [Act.put, layS]; rfl) | rfl)) (hQ : ∀ c a w, Q (.panic c) (a.put oi.dst v) w → Q (.panic c) a w := by exact fun _ _ _ h => h) : wpAnyH P md ops Q S (fuel + 1) listed a w := by
 subst ha; exact wpAnyH_take hi h1 h2 h3 hQ (Or.inl ⟨hw, hy⟩) hS h
theorem tkHo {P : Program} {ops : Array Oper} {Q : Exit → Act → World → Prop} {md : Region.Mode} {S : World → Prop} (i : Nat) {oi : Oper} {fuel : Nat} {listed : Array Bool} {a a' : Act} {w : World} (hS : S w) (h : wpAnyH P md ops Q S fuel (listed.setIfInBounds i true) a' w)
 (hi : ops[i]? = some oi := by (simp only [layG]; rfl)) (h1 : Region.noSelect ops = true := by kernel_rfl) (h2 : Region.free md ops listed i = true := by kernel_rfl) (h3 : (Region.ready md ops listed).contains i = true := by kernel_rfl)
 (hw : Region.wanted oi (yielded ops a.tmps) = false := by rfl) (ha : a.put oi.dst undef = a' := by (first | (simp only [Act.put, layS]; rfl) | rfl)) (hQ : ∀ c a w, Q (.panic c) (a.put oi.dst undef) w → Q (.panic c) a w := by exact fun _ _ _ h => h) : wpAnyH P md ops Q S (fuel + 1) listed a w := by
 subst ha; exact wpAnyH_take hi h1 h2 h3 hQ (Or.inr ⟨hw, rfl⟩) hS h
end Go.Proofs.YtodlhgflfcadmaaGreat
namespace Go.Proofs.YtodlhgflfcadmaaGreat
open Go.RowKit
theorem okAt_at {f : NdF} {j : Nat} {a1 : NdD} {q : NdF} (hg : f.get? j = some (a1, q)) : okAt f j = (rgtX (a1, q) && (decide (j = 0) || (match f.get? (j - 1) with | none => true | some z => lessX z.1 a1))) := by
 unfold okAt
 rw [hg]
 cases j with
 | zero => simp
 | succ j =>
  simp only [Nat.add_sub_cancel]
  rw [show decide (j + 1 = 0) = false by simp, Bool.false_or]
  cases f.get? j <;> rfl
end Go.Proofs.YtodlhgflfcadmaaGreat
namespace Go.Proofs.YtodlhgflfcadmaaGreat
open Go.RowKit
theorem res_ct9 {P : Program} {fn : Func} {p u : Tmp} {ty : TypeId} (h : fn.results = #[.cell p ty, .tmp u]) (tmps : Array Value) (w : World) (g : Nat) (t : TypeId) (cs : Array Value) (fr : Nat × Nat) (d : TypeDesc)
  (hp : tmps.getD p undef = .pointer (some ⟨g, 0, none⟩)) (hg : w.heap[g]? = some (.cells cs t fr))
  (hu : P.underlying ty = some d) (hd : (match d with | .struct _ | .array _ _ => true | _ => false) = true) (hi : (P.info? ty).map (·.size) = some cs.size) :
  (results fn tmps).run P w = .ok (.tuple #[.agg cs, tmps.getD u undef]) w := by
 rw [results_cell_tmp h, hp]
 simp [asAddr, run_loadVar_row w g t ty cs fr d hg hu hd hi, Result.andThen]
def set6 (w : World) (b : Nat) (x0 x1 x2 x3 x4 x5 : Value) : World := (((((w.setCell ⟨b, 0, none⟩ x0).setCell ⟨b, 1, none⟩ x1).setCell ⟨b, 2, none⟩ x2).setCell ⟨b, 3, none⟩ x3).setCell ⟨b, 4, none⟩ x4).setCell ⟨b, 5, none⟩ x5
set_option maxHeartbeats 1000000 in
theorem Blk.set6 {w : World} {b : Nat} {t : TypeId} {y0 y1 y2 y3 y4 y5 : Value} (h : Blk w b t #[y0, y1, y2, y3, y4, y5]) (x0 x1 x2 x3 x4 x5 : Value) : Blk (set6 w b x0 x1 x2 x3 x4 x5) b t #[x0, x1, x2, x3, x4, x5] := by
 have h2 := ((((((h).set_ 0 x0).set_ 1 x1).set_ 2 x2).set_ 3 x3).set_ 4 x4).set_ 5 x5
 simp only [layS] at h2
 exact h2
theorem set6_below {B : Nat} {w : World} {b : Nat} {x0 x1 x2 x3 x4 x5 : Value} (h : B ≤ b) : Below B w (set6 w b x0 x1 x2 x3 x4 x5) :=
 ((((((Below.refl B w).setCell (p := ⟨b, 0, none⟩) h x0).setCell (p := ⟨b, 1, none⟩) h x1).setCell (p := ⟨b, 2, none⟩) h x2).setCell (p := ⟨b, 3, none⟩) h x3).setCell (p := ⟨b, 4, none⟩) h x4).setCell (p := ⟨b, 5, none⟩) h x5
theorem set6_other {w : World} {b g : Nat} {x0 x1 x2 x3 x4 x5 : Value} (h : g ≠ b) : (set6 w b x0 x1 x2 x3 x4 x5).heap[g]? = w.heap[g]? := by
 unfold set6
 rw [Below.heap_setCell _ _ _ _ h, Below.heap_setCell _ _ _ _ h, Below.heap_setCell _ _ _ _ h, Below.heap_setCell _ _ _ _ h, Below.heap_setCell _ _ _ _ h, Below.heap_setCell _ _ _ _ h]
theorem set6_size {w : World} {b : Nat} {x0 x1 x2 x3 x4 x5 : Value} : (set6 w b x0 x1 x2 x3 x4 x5).heap.size = w.heap.size := by simp [set6, World.setCell]
theorem LieB.row {b : Nat} {w : World} {a : NdD} {f : NdF} {v : Value} (h : LieB b w (ndC a v) (a, f)) : RowT b w v f := by
 obtain ⟨A, c, e, h2⟩ := h.shape
 have e2 : v = .slice A f.len c := by
  have := congrArg (fun l => l[5]?) e
  simpa using this
 rw [e2]
 exact h2
theorem LieP.set6 {b B g : Nat} {w : World} {cs : List Value} {x : Nd} (h : LieP b B w cs x) (hg : b ≤ g) (hB : g < B) (x0 x1 x2 x3 x4 x5 : Value) : LieP b B (set6 w g x0 x1 x2 x3 x4 x5) cs x :=
 h.keep (fun k hk => set6_other (by omega)) (fun k hk => by rw [set6_size]; exact hk)
theorem LieP.after {b B B' : Nat} {w : World} {cs : List Value} {x : Nd} (h : LieP b B w cs x) (hB : B' ≤ B) : LieP b B' w cs x :=
 h.keep (fun _ _ => rfl) (fun k hk => by rcases hk with h | h; exact .inl h; exact .inr ⟨by omega, h.2⟩)
theorem LieP.below {b B : Nat} {w w' : World} {cs : List Value} {x : Nd} (h : LieP b B w cs x) (hb : Below w.heap.size w w') (hbw : b ≤ w.heap.size) : LieP b B w' cs x :=
 h.keep (fun k hk => hb.block k (by rcases hk with h | h <;> omega)) (fun k hk => by have := hb.size; rcases hk with h | h; exact .inl h; exact .inr ⟨h.1, by omega⟩)
end Go.Proofs.YtodlhgflfcadmaaGreat
